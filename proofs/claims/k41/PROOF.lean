import PyProof.Rows.All
import Wide.All
import OpenK.AllK
import Wide.FinOn
import Lean
import PyProof.EqAt
import PyProof.EqKinds
import PyProof.TupleCall
import PyProof.P3Eq
import PyProof.NeKinds
import KE.KRevIter
import PyProof.EnumMake
import PyProof.EnumFor
import PyProof.Draws
import PyProof.ZipIter
import PyProof.ConsumeWalk
import PyProof.RaisesMany
import PyProof.ExcClass3
import PyProof.ExcBaseAll.ValueError
import PyProof.RulesAs
import PyProof.ExcAttrAll.ValueError
import PyProof.ReprStr
import PyProof.PassesOwn
import PyProof.ToksMono
import PyProof.DictItems
import PyProof.MeetsIn
import PyProof.StrCalls6
import PyProof.StrCalls2
import PyProof.StrBlock2
import PyProof.StrLawsWords
import PyProof.StrLawsTight
import PyProof.StrLawsChain
import PyProof.ListRange
import PyProof.NsDelKeeps
import PyProof.P3In
import PyProof.DictWalks
import KE.KDictList
import PyProof.Rows.StrInSeq3
import PySem.Challenge.RW_evernever_k41_whole_answer
set_option Elab.async false
set_option linter.all false
set_option maxRecDepth 100000
set_option maxHeartbeats 4000000
open Array renaming length_toList→FJ,getElem?_eq_getElem→Gm,getElem?_toList→IK,getD_eq_getD_getElem?→Kg,getD→Lh,getElem?_eq_none→Np,getElem?_eq_some_iff→Nq,toArray_toList→yo,replicate→Yae,toList→Yaw,toList_map→Ya6,perm_iff_toList_perm→Ybn,forIn_toList→Yck
open Bool renaming false_ne_true→Cg,false_eq_true→Dg,and_eq_true→DN,and_false→Fw,eq_iff_iff→GX,not_true→G7,and_true→Hs,true_and→Hw,or_eq_true→Jb,false_and→M5,or_false→Rr,not_eq_true'→Uq,not_false→Uz,false_or→YaT
open Classical renaming byContradiction→Zd
open False renaming elim→Gj
open ForInStep renaming yield→La
open Int renaming toNat_natCast→Ft,zero_add→Rv,natCast_nonneg→ur,fdiv_eq_ediv_of_nonneg→Yaz,lt_irrefl→Ybv,emod_nonneg→Yb6,emod_lt_of_pos→Yb7,natAbs_natCast→YcE
open LawfulBEq renaming eq_of_beq→Rq
open LawfulMonad renaming bind_assoc→Yak
open List renaming length_map→Az,length_append→Ca,range→Cd,getElem?_eq_some_iff→Cr,size_toArray→Cu,map_cons→Cv,getD_eq_getElem?_getD→Cz,getElem?_eq_getElem→CJ,getElem?_map→CQ,mem_cons→CZ,mem_of_getElem?→Df,map_append→Dh,mem_singleton→Dr,length_cons→Ds,append_assoc→Du,mem_map→DY,mem_cons_self→Ec,append_nil→Ed,length_singleton→Ei,mem_range→Es,mem_cons_of_mem→Et,length_take→Fb,map_nil→Fe,mem_filter→Fj,pairwise_append→FW,getElem?_append_right→Gk,any_eq_true→Gn,mem_append_right→Gs,length_nil→G3,length_drop→G4,length_range→G5,mem_append→Hj,getElem?_append_left→Hm,take_append_drop→Ht,take_length→Ib,map_map→Ie,mem_iff_getElem?→Ig,take_zero→IV,lookup_cons→Ke,nodup_cons→K6,all_eq_true→Lb,filter_append→Ld,filter_cons→Le,drop_of_length_le→Lf,nil_append→Lg,pairwise_map→Li,lookup→M7,take_of_length_le→Nf,perm_append_comm→Nj,getElem?_toArray→Nm,length_filter_le→Ny,filterMap_cons→Rj,getElem_mem→Rx,mem_of_mem_take→Rz,map_congr_left→RC,getElem?_eq_none→RG,replicate→Tn,map_take→TV,map_drop→TX,filter_nil→T4,drop_sublist→Ua,mem_of_mem_drop→Ub,length_eq_zero_iff→Ud,length_reverse→Ul,toList_toArray→Uy,not_mem_nil→UG,getElem?_inj→UL,filter_sublist→UT,mem_append_left→XR,length→X8,take_sublist→Yb,find?_cons→Yh,any_cons→Yi,range_succ→Yo,getElem_take→Yw,pairwise_iff_getElem→Yx,getElem?_drop→Yy,length_pos_iff→YB,flatten_cons→YC,cons_append→YD,mem_iff_getElem→Y6,getElem?_cons_succ→Zf,mem_filterMap→uq,of_mem_zip→vd,length_set→vp,getElem_of_mem→yh,pairwise_singleton→yj,map_toArray→ym,drop_eq_getElem_cons→yp,set_cons_zero→yq,getElem?_reverse→za,isEmpty_nil→Yaj,getElem?_set_self→Yat,getElem?_set_ne→Yau,getElem?_take_of_lt→YaH,zip_cons_cons→YaJ,eraseIdxIfInBounds_toArray→YaS,nodup_nil→YaU,drop_eq_nil_of_le→Ya0,forIn_cons→Ya1,getElem?_range→Ya4,toArray→Ya5,ext_getElem→Yba,pairwise_cons→Ybb,drop_drop→Ybc,take_add_one→Ybe,singleton_append→Ybf,reverse_nil→Ybg,foldl_cons→Ybh,setIfInBounds_toArray→Ybi,set_append_right→Ybj,foldl→Ybk,take_append_of_le_length→Ybl,getElem_drop→Ybm,ext_getElem?→YbI,reverse_cons→YbJ,perm_middle→Yb1,getElem?_take→Yce,length_erase_of_mem→Ycg,nodup_range→Yci,mem_map_of_mem→Ycq,set_cons_succ→Ycv,replicate_zero→Ycy,replicate_succ→Ycz,map_inj_right→YcJ,foldl_append→YcK,map_reverse→YcO,map_singleton→YcT
open List.Nodup renaming mem_erase_iff→Ycf
open List.Pairwise renaming nil→YaX,imp_of_mem→Ych,imp→Ydy
open List.Perm renaming append_left→Rw,refl→RB,append_right→Yz,trans→Ybd
open List.Sublist renaming map→Zm,refl→YcQ,drop→Ydo
open List.cons renaming inj→Ju,injEq→yu
open MonadState renaming get→ye
open MonadStateOf renaming set→Ydp
open Nat renaming le_refl→Ax,ne_of_lt→Ce,zero_le→Cy,testBit_and→Do,eq_of_testBit_eq→DQ,le_trans→Eb,two_pow_pos→Ef,lt_of_lt_of_le→Er,zero_testBit→Fl,testBit_or→Fv,sub_self→Gv,lt_irrefl→Hi,ne_of_gt→Hk,pow_le_pow_right→Hq,le_succ→Ia,not_lt_zero→IW,lt_succ_of_lt→Js,lt_of_le_of_lt→Kh,mul_assoc→Km,pos_of_ne_zero→Kp,le_of_lt→K4,pow_succ→K9,le_of_ble_eq_true→Ln,lt_trichotomy→Nb,testBit_two_pow→Ng,add_sub_cancel→Ni,add_assoc→Nk,mod_lt→Nt,mod_eq_of_lt→Nu,or_lt_two_pow→Nv,testBit_two_pow_sub_one→Nx,zero_add→Ry,lt_or_ge→RQ,lt_succ_self→Tj,testBit_lt_two_pow→TF,add_zero→TJ,min_eq_left→TQ,and_le_left→TY,add_sub_cancel_left→Uc,add_le_add_left→Ug,succ_ne_self→Uo,mul_add→Uv,lt_or_eq_of_le→Uw,or_comm→Yk,mod_two_eq_zero_or_one→Yl,pow_add→Zc,or_zero→Zk,lt_trans→wg,testBit_two_pow_add_gt→wu,mul_one→ww,div_add_mod→wy,le_succ_of_le→xm,min_le_left→yr,add_mul→z8,mul_mul_mul_comm→z9,mul_comm→Yaa,add_mod→Yab,le_add_right→Yai,testBit_zero→Yam,one_le_two_pow→Yan,or_assoc→Yao,le_of_eq→YaC,testBit_two_pow_add_eq→YaY,min_eq_right→YaZ,pow_zero→Yb2,mod_one→Yb3,mod_add_div→Yb4,mod_mul→Yb5,div_div_eq_div_mul→Yb8,div_eq_of_lt→Yb9,mul_mod→Yca,strongRecOn→Ycd,reduceAdd→Ycw,reduceSub→Ycx,zero_or→YcA,testBit_two_pow_mul_add→YcB,testBit_succ→YcC,log2_two_pow→YcD,lt_pow_two_of_testBit→YcF,exists_testBit_ne_of_ne→YcL,le_add_left→YcM,and_two_pow_sub_one_eq_mod→YcN,and_assoc→YcP,and_comm→YcR
open Ne renaming symm→DX
open Option renaming map_some→Kf,map_eq_some_iff→Ux,map→Yaf,getD_none→YaN
open Option.some renaming inj→De,injEq→YdI
open Or renaming inr→Ru,inl→Tz
open Prod renaming ext→Iz
open Prod.mk renaming inj→UJ
open PyProof.Rows renaming SortSt→Am,Keyed→Bg,IntsAre→GZ,SortKind→G6,AllBare→Jq,callWith_type1→M6,IsTup→Tg,lt_int→X3,slot_tuple_getitem→Ye,listUpdate_at→Yp,seqEpoch_at→Yq,size_push'→Ys,slot_list_sort→Yt,entry_list_sort→Yu,args_list_sort→Yv,kind_sorted→xr,plain_sorted→xu,entry_sorted→xx,args_sorted1→yc,elem'_eq→yg,callWith_builtin1→YaI,subscriptTail_builtinR→YaL,list_sort_plain→Ya8,get?_update_seq→Ya9,bitAnd_nn→YdG,bitAnd_not→YdH
open PyProof.Rows.F renaming plain_set_update_loop→Yah,entry_set_update_loop→Ycs
open PyProof.Rows.IsTup renaming new→vg
open PyProof.Rows.SortSt renaming mk'→Fx
open PySem renaming Addr→Aa,Value→Ab,Shared→Ae,wpAny_bind→Af,wpAny→Ai,wpAny_pure→Aq,Heap→Ar,World→Av,Expr→Aw,Program→Ay,Stmt→Ba,Paired→Bd,mainGlobals→Bj,sizeLine→Bk,Around→Bp,FuncData→Bq,starEach→BW,SetTable→Di,wpAny_mono→Dn,Scope→DK,Builtin→Fd,wpAny_holding→Fq,wpAny_newObj_type→FQ,wpAny_call_entry→Gu,wpAny_field→Hn,GenState→Ir,sizeLine_eq→Iu,wpAny_Call_Name_kw→J7,IsPart→J9,IsItemIter→Kl,wpAny_setState_of→Ko,Result→K5,DictEntry→K8,wpAny_truthy_bool→M3,wpAny_passesOwn→M4,wpAny_callSpecial?_slot→M9,wpAny_setField_rec→Nr,Model→Rk,BindsTo→Rn,codeAny_mono→Ro,NameKind→Rp,wpAny_setField→RJ,codeAny_builtin→RN,wpAny_eqBool_int→Tf,CmpOp→Th,mem_of_lookup→Tp,wpAny_loadPart'→Tu,wpAny_typeOf→Tv,wpAny_newList→T8,wpAny_attempt→T9,PyData→Ue,typeLookup_type→Uh,builtinLookup_eq_fast→Ui,plainId_quiet→Uj,wpAny_seqItems→Uk,wpAny_askSetting→Uu,wpAny_execs_nil→XS,wpAny_forIn_list→Yc,Params→Yj,wpAny_pyIter_list→Ym,WalksS→YM,ItemsOf→YQ,wpAny_specialOf→YT,wpAny_isInstance→YW,IsEnum→YZ,wpAny_of_eq→Y5,wpAny_pyIter_slot→Y8,wpAny_typeNameOfWhole_itemiter→Y9,wpAny_typeNameOf_itemiter→Za,wpAny_fieldsOf→Zb,Within→uh,wpAny_Name→um,wpAny_standAt→uo,wpAny_call→u9,seqIndex_of→vh,typeIs_str→vm,call_meets→vy,wpAny_pyIter_tuple→wz,lookup_relabel_local→xg,wpAny_comprehension_free→xj,wpAny_newTuple→xn,wpAny_rule→yf,isSubtype_type→yx,wpAny_updateSeq→yz,wpAny_handled→zf,wpAny_throw→zg,wpAny_pyIter_enum→zj,ExceptHandler→zp,wpAny_dictEntries→zq,wpAny_dictEpoch→zr,IsItemIterOut→zx,wpAny_isOneOf_itemiter→zy,entryFor_alias→z6,wpAny_setEntries_of→Yal,wpAny_execs_cons→Yax,wpAny_assign_Name→Yay,slot_list_getitem→YaM,wpAny_Call_method0_late→YaO,evalArgs_none→YaP,wpAny_newFunctionEnv→Ya2,codeAny_compStart_list→Ya3,Fin→Ya7,codeAny_extend_loopS→YbE,codeAny_of_tree→YbZ,wpAny_eqIsQuiet_tuple→Ycl,wpAny_eqBool_tuple→Ycn,wpAny_isSame_ref_self→Ycp,wpAny_storeSet_of→Ycr
open PySem.Around renaming under_plainId→Ut,under→ux
open PySem.Builtin renaming bitAnd→Hl,bitNot→HY,bitOr→XX,bitXor→YaA
open PySem.Builtin.Dict renaming showsAll→YbQ,noArgs→Ydu
open PySem.Builtin.Dict_items renaming ownsTuple→zu,ownedTupleFields→YbS,pairFromOwner→YbV,ownedTupleIsFree→YbW,dictOf→Ydv,newIterator→Ydw
open PySem.Builtin.Frozenset renaming newClass→Ydx,updateFrom→YdA,slot0→YdB,addrOf→YdC,sizeOf→YdD
open PySem.Builtin.Int renaming intBits→Lp
open PySem.Builtin.List renaming listExtendWith→RD,listSameRef→YS,listLengthHint→YbC,listItems→YbG,listUpdate→Ydt
open PySem.Builtin.Range renaming rangeSize→YcU
open PySem.Builtin.Slice renaming slicePlaces→Yd,sliceAdjust→vf,sliceApplied→YaK,slicePartIndex→Ydk,sliceFields→Ydl
open PySem.Builtin.SmallTypes renaming nextOf→Y0
open PySem.Builtin.Tuple renaming tupleExact→Yg,tupleCompareSizes→Ydj,tupleItemsOf→Ydm
open PySem.Calls renaming spliced_nil→u5,spliced_cons→u6,callWith_builtin→vq,call_function_entry→xq,Name_function_global→Yav,evalArgs_plain→YaQ
open PySem.Challenge renaming pw_evernever_k41_whole_answer→YdF,rw_evernever_k41_whole_answer→YdJ
open PySem.Code renaming isFrame→uz,frames→YaF
open PySem.EntryCells renaming newEntry→YbP
open PySem.EqMixed renaming eq_bool_str→Yc0,eq_int_str→Yc2,eq_str_bool→Yc4,eq_str_int→Yc5,ne_bool_str→Ydb,ne_int_str→Ydd,ne_str_bool→Ydf,ne_str_int→Ydg
open PySem.EqNone renaming eq_none_none→YcV,eq_none_bool→YcW,eq_none_int→YcX,eq_none_str→YcY,eq_bool_none→YcZ,eq_int_none→Yc1,eq_str_none→Yc3,ne_none_none→Yc6,ne_none_bool→Yc7,ne_none_int→Yc8,ne_none_str→Yc9,ne_bool_none→Yda,ne_int_none→Ydc,ne_str_none→Yde
open PySem.F renaming plainAttrs_list→Ja,slot_list_append→Kd,called_set→Lr,type_list_append→Ls,slot_dict_itemiterator_next→RM,slot_tuple_iterator_next→Y4,slot_list_clear→vz,slot_list_pop→YaR,plain_extend_loop→YbD,entry_tuple_iterator_next→YbL,args_tuple_iterator_next_1→YbM,slot_dict_items_iter→YbR,entry_dict_itemiterator_next→YbT,args_dict_itemiterator_next_1→YbU,slot_dict_itemiterator_iter→YbX,slot_dict_items→YbY,plain_set_new→Yb0,slot_set_iter→Yct,plain_list_iadd→Ycu,plainAttrs_int→YcG,slot_int_bit_length→YcH,type_int_bit_length→YcI,type_list_clear→YcS
open PySem.Heap renaming get?_push_of_some→BK,lt_size→BR,get?_push_size→CT,SameBut→HX,size_push→J5,get?_update_self→Ka,get?_update_other→Kc,size_update→Yr,push→YX,ExtBut→zc,get?_none_of_le→Yas,get?_push_ne→Ybo,get?_update_ne→Ybp,get?_some_iff→YbO
open PySem.Heap.IsSliceOf renaming new→Ydn
open PySem.Heap.SameBut renaming update→RK,refl→Ydz,trans→YdE
open PySem.ItemsOf renaming nil→YbF
open PySem.Moved renaming trans→YbH
open PySem.NameKind renaming free→Hr,cell→Yn
open PySem.Obj renaming mapSeq→DP,mapFields→RL,data_mapFields→Um,putSet→Zj,isFreed_of_fields→zb,cls_mapFields→YbN
open PySem.Paired renaming length→K1,snoc→Rt
open PySem.PassesOwn renaming never→Dj
open PySem.PyData renaming depthAll→Jt,canLayAll0→Lj,eqvAll→Lk,eqv→YK,canLay0→yw,depth→YbB
open PySem.SeqAt renaming eqvAll_eq→yt,pairEq→Ybz,eqAt_readsAll→YbA
open PySem.SeqAt.RcNeAt renaming lists→Ydq,lists_lengths→Ydr,tuples→Yds
open PySem.SeqAt.ReadsAll renaming length→YL
open PySem.SetTable renaming below→Dt,runEnd→Eu,bits→FZ,insertAt→Gw,leap→Hu,turns→Hv,grown→Lq,Probe→RP,sizeAbove→Zh,fill→Zi,toList_insertAt→Yad,laid→Yag,has→Ycb,slot→Ycc,layClean→Ycj,probe→Ycm,sameMemory→Yco
open PySem.SetTable.below renaming go→Yac
open PySem.SetTable.layClean renaming free→Zg
open PySem.SetTable.probe renaming go→Ze
open PySem.Shared renaming TypeIs→Ur,heap→YbK
open PySem.Str renaming ofString→K7,empty→uw
open PySem.Value renaming ref→Be,none→Dd,type→Fi,int→GR,bool→J3,str→Te,float→ug,isInt→Yap,isStrOf→Yaq,bytes→Yar
open PySem.W renaming Frag→Ao,nsIn→By,kas_item→BX,mg_of→Ci,findIn→Cq,mg_none_of→Ff,isFn→FN,keepIn→Iv,kia_one→Iw,emptyDict→J4,kitOne→J6,fnOf→J8,instObj→K3,mroIn→M8,kas_rev→Nh,plainGet→Rm,hasDictIn→Ti,codeIn→Tq,OpenLaw→Tw,lookIn→X4,plainOver→X5,makesIn→X6,callWith_K→X7,kat_cons→YF,kat_go→YG,kat_yes→YH,kat_no→YJ,excIn→Y7,methodObj→ul,plainGet_of→ut,takerIn→uv,WalkO→wj,methodCall_KW→xf,kasC_bind→yd,handedIn→YaB,kitx_list→YaD,kitx_dict→YaE,cellsFrom_some→YaG,KatTups→Ybq,kat_ask_eq→Ybr,kas_ask→Ybs,kat_lt→Ybt,kat_nil→Ybu,kat_one→Ybw,kat_kind→Ybx
open PySem.W.Looks renaming of_pure→Yby,here→Ydh
open PySem.W.WData renaming int→YaV
open PySem.W.WShape renaming has→YaW
open PySem.Walks renaming list→zm
open PySem.Within renaming cons→Ydi
open PySem.pickOrder renaming go→z7
open Sum renaming inl→J2,inr→MT
open True renaming intro→Jr
theorem nE2 {A0 A1 G:Prop} (h:A0∧A1) (k:A0→A1→G):G:=k h.1 h.2
theorem nE3 {A0 A1 A2 G:Prop} (h:A0∧A1∧A2) (k:A0→A1→A2→G):G:=k h.1 h.2.1 h.2.2
theorem nE4 {A0 A1 A2 A3 G:Prop} (h:A0∧A1∧A2∧A3) (k:A0→A1→A2→A3→G):G:=k h.1 h.2.1 h.2.2.1 h.2.2.2
theorem nE5 {A0 A1 A2 A3 A4 G:Prop} (h:A0∧A1∧A2∧A3∧A4) (k:A0→A1→A2→A3→A4→G):G:=k h.1 h.2.1 h.2.2.1 h.2.2.2.1 h.2.2.2.2
theorem nE6 {A0 A1 A2 A3 A4 A5 G:Prop} (h:A0∧A1∧A2∧A3∧A4∧A5) (k:A0→A1→A2→A3→A4→A5→G):G:=k h.1 h.2.1 h.2.2.1 h.2.2.2.1 h.2.2.2.2.1 h.2.2.2.2.2
theorem nE7 {A0 A1 A2 A3 A4 A5 A6 G:Prop} (h:A0∧A1∧A2∧A3∧A4∧A5∧A6) (k:A0→A1→A2→A3→A4→A5→A6→G):G:=k h.1 h.2.1 h.2.2.1 h.2.2.2.1 h.2.2.2.2.1 h.2.2.2.2.2.1 h.2.2.2.2.2.2
theorem nE8 {A0 A1 A2 A3 A4 A5 A6 A7 G:Prop} (h:A0∧A1∧A2∧A3∧A4∧A5∧A6∧A7) (k:A0→A1→A2→A3→A4→A5→A6→A7→G):G:=k h.1 h.2.1 h.2.2.1 h.2.2.2.1 h.2.2.2.2.1 h.2.2.2.2.2.1 h.2.2.2.2.2.2.1 h.2.2.2.2.2.2.2
theorem nE9 {A0 A1 A2 A3 A4 A5 A6 A7 A8 G:Prop} (h:A0∧A1∧A2∧A3∧A4∧A5∧A6∧A7∧A8) (k:A0→A1→A2→A3→A4→A5→A6→A7→A8→G):G:=k h.1 h.2.1 h.2.2.1 h.2.2.2.1 h.2.2.2.2.1 h.2.2.2.2.2.1 h.2.2.2.2.2.2.1 h.2.2.2.2.2.2.2.1 h.2.2.2.2.2.2.2.2
theorem nE10 {A0 A1 A2 A3 A4 A5 A6 A7 A8 A9 G:Prop} (h:A0∧A1∧A2∧A3∧A4∧A5∧A6∧A7∧A8∧A9) (k:A0→A1→A2→A3→A4→A5→A6→A7→A8→A9→G):G:=k h.1 h.2.1 h.2.2.1 h.2.2.2.1 h.2.2.2.2.1 h.2.2.2.2.2.1 h.2.2.2.2.2.2.1 h.2.2.2.2.2.2.2.1 h.2.2.2.2.2.2.2.2.1 h.2.2.2.2.2.2.2.2.2
theorem nE11 {A0 A1 A2 A3 A4 A5 A6 A7 A8 A9 A10 G:Prop} (h:A0∧A1∧A2∧A3∧A4∧A5∧A6∧A7∧A8∧A9∧A10) (k:A0→A1→A2→A3→A4→A5→A6→A7→A8→A9→A10→G):G:=k h.1 h.2.1 h.2.2.1 h.2.2.2.1 h.2.2.2.2.1 h.2.2.2.2.2.1 h.2.2.2.2.2.2.1 h.2.2.2.2.2.2.2.1 h.2.2.2.2.2.2.2.2.1 h.2.2.2.2.2.2.2.2.2.1 h.2.2.2.2.2.2.2.2.2.2
theorem nE12 {A0 A1 A2 A3 A4 A5 A6 A7 A8 A9 A10 A11 G:Prop} (h:A0∧A1∧A2∧A3∧A4∧A5∧A6∧A7∧A8∧A9∧A10∧A11) (k:A0→A1→A2→A3→A4→A5→A6→A7→A8→A9→A10→A11→G):G:=k h.1 h.2.1 h.2.2.1 h.2.2.2.1 h.2.2.2.2.1 h.2.2.2.2.2.1 h.2.2.2.2.2.2.1 h.2.2.2.2.2.2.2.1 h.2.2.2.2.2.2.2.2.1 h.2.2.2.2.2.2.2.2.2.1 h.2.2.2.2.2.2.2.2.2.2.1 h.2.2.2.2.2.2.2.2.2.2.2
theorem nE13 {A0 A1 A2 A3 A4 A5 A6 A7 A8 A9 A10 A11 A12 G:Prop} (h:A0∧A1∧A2∧A3∧A4∧A5∧A6∧A7∧A8∧A9∧A10∧A11∧A12) (k:A0→A1→A2→A3→A4→A5→A6→A7→A8→A9→A10→A11→A12→G):G:=k h.1 h.2.1 h.2.2.1 h.2.2.2.1 h.2.2.2.2.1 h.2.2.2.2.2.1 h.2.2.2.2.2.2.1 h.2.2.2.2.2.2.2.1 h.2.2.2.2.2.2.2.2.1 h.2.2.2.2.2.2.2.2.2.1 h.2.2.2.2.2.2.2.2.2.2.1 h.2.2.2.2.2.2.2.2.2.2.2.1 h.2.2.2.2.2.2.2.2.2.2.2.2
theorem nE14 {A0 A1 A2 A3 A4 A5 A6 A7 A8 A9 A10 A11 A12 A13 G:Prop} (h:A0∧A1∧A2∧A3∧A4∧A5∧A6∧A7∧A8∧A9∧A10∧A11∧A12∧A13) (k:A0→A1→A2→A3→A4→A5→A6→A7→A8→A9→A10→A11→A12→A13→G):G:=k h.1 h.2.1 h.2.2.1 h.2.2.2.1 h.2.2.2.2.1 h.2.2.2.2.2.1 h.2.2.2.2.2.2.1 h.2.2.2.2.2.2.2.1 h.2.2.2.2.2.2.2.2.1 h.2.2.2.2.2.2.2.2.2.1 h.2.2.2.2.2.2.2.2.2.2.1 h.2.2.2.2.2.2.2.2.2.2.2.1 h.2.2.2.2.2.2.2.2.2.2.2.2.1 h.2.2.2.2.2.2.2.2.2.2.2.2.2
theorem xE1 {A0:Sort _} {P:A0→Prop} {G:Prop} (h:∃a0,P a0) (k:∀a0,P a0→G):G:=h.elim fun a0 h=>k a0 h
theorem xE2 {A0 A1:Sort _} {P:A0→A1→Prop} {G:Prop} (h:∃a0 a1,P a0 a1) (k:∀a0 a1,P a0 a1→G):G:=h.elim fun a0 h=>h.elim fun a1 h=>k a0 a1 h
theorem xE3 {A0 A1 A2:Sort _} {P:A0→A1→A2→Prop} {G:Prop} (h:∃a0 a1 a2,P a0 a1 a2) (k:∀a0 a1 a2,P a0 a1 a2→G):G:=h.elim fun a0 h=>h.elim fun a1 h=>h.elim fun a2 h=>k a0 a1 a2 h
theorem xE4 {A0 A1 A2 A3:Sort _} {P:A0→A1→A2→A3→Prop} {G:Prop} (h:∃a0 a1 a2 a3,P a0 a1 a2 a3) (k:∀a0 a1 a2 a3,P a0 a1 a2 a3→G):G:=h.elim fun a0 h=>h.elim fun a1 h=>h.elim fun a2 h=>h.elim fun a3 h=>k a0 a1 a2 a3 h
theorem xE5 {A0 A1 A2 A3 A4:Sort _} {P:A0→A1→A2→A3→A4→Prop} {G:Prop} (h:∃a0 a1 a2 a3 a4,P a0 a1 a2 a3 a4) (k:∀a0 a1 a2 a3 a4,P a0 a1 a2 a3 a4→G):G:=h.elim fun a0 h=>h.elim fun a1 h=>h.elim fun a2 h=>h.elim fun a3 h=>h.elim fun a4 h=>k a0 a1 a2 a3 a4 h
theorem xE6 {A0 A1 A2 A3 A4 A5:Sort _} {P:A0→A1→A2→A3→A4→A5→Prop} {G:Prop} (h:∃a0 a1 a2 a3 a4 a5,P a0 a1 a2 a3 a4 a5) (k:∀a0 a1 a2 a3 a4 a5,P a0 a1 a2 a3 a4 a5→G):G:=h.elim fun a0 h=>h.elim fun a1 h=>h.elim fun a2 h=>h.elim fun a3 h=>h.elim fun a4 h=>h.elim fun a5 h=>k a0 a1 a2 a3 a4 a5 h
theorem xE7 {A0 A1 A2 A3 A4 A5 A6:Sort _} {P:A0→A1→A2→A3→A4→A5→A6→Prop} {G:Prop} (h:∃a0 a1 a2 a3 a4 a5 a6,P a0 a1 a2 a3 a4 a5 a6) (k:∀a0 a1 a2 a3 a4 a5 a6,P a0 a1 a2 a3 a4 a5 a6→G):G:=h.elim fun a0 h=>h.elim fun a1 h=>h.elim fun a2 h=>h.elim fun a3 h=>h.elim fun a4 h=>h.elim fun a5 h=>h.elim fun a6 h=>k a0 a1 a2 a3 a4 a5 a6 h
theorem xE8 {A0 A1 A2 A3 A4 A5 A6 A7:Sort _} {P:A0→A1→A2→A3→A4→A5→A6→A7→Prop} {G:Prop} (h:∃a0 a1 a2 a3 a4 a5 a6 a7,P a0 a1 a2 a3 a4 a5 a6 a7) (k:∀a0 a1 a2 a3 a4 a5 a6 a7,P a0 a1 a2 a3 a4 a5 a6 a7→G):G:=h.elim fun a0 h=>h.elim fun a1 h=>h.elim fun a2 h=>h.elim fun a3 h=>h.elim fun a4 h=>h.elim fun a5 h=>h.elim fun a6 h=>h.elim fun a7 h=>k a0 a1 a2 a3 a4 a5 a6 a7 h
theorem xE9 {A0 A1 A2 A3 A4 A5 A6 A7 A8:Sort _} {P:A0→A1→A2→A3→A4→A5→A6→A7→A8→Prop} {G:Prop} (h:∃a0 a1 a2 a3 a4 a5 a6 a7 a8,P a0 a1 a2 a3 a4 a5 a6 a7 a8) (k:∀a0 a1 a2 a3 a4 a5 a6 a7 a8,P a0 a1 a2 a3 a4 a5 a6 a7 a8→G):G:=h.elim fun a0 h=>h.elim fun a1 h=>h.elim fun a2 h=>h.elim fun a3 h=>h.elim fun a4 h=>h.elim fun a5 h=>h.elim fun a6 h=>h.elim fun a7 h=>h.elim fun a8 h=>k a0 a1 a2 a3 a4 a5 a6 a7 a8 h
theorem xE10 {A0 A1 A2 A3 A4 A5 A6 A7 A8 A9:Sort _} {P:A0→A1→A2→A3→A4→A5→A6→A7→A8→A9→Prop} {G:Prop} (h:∃a0 a1 a2 a3 a4 a5 a6 a7 a8 a9,P a0 a1 a2 a3 a4 a5 a6 a7 a8 a9) (k:∀a0 a1 a2 a3 a4 a5 a6 a7 a8 a9,P a0 a1 a2 a3 a4 a5 a6 a7 a8 a9→G):G:=h.elim fun a0 h=>h.elim fun a1 h=>h.elim fun a2 h=>h.elim fun a3 h=>h.elim fun a4 h=>h.elim fun a5 h=>h.elim fun a6 h=>h.elim fun a7 h=>h.elim fun a8 h=>h.elim fun a9 h=>k a0 a1 a2 a3 a4 a5 a6 a7 a8 a9 h
theorem xE12 {A0 A1 A2 A3 A4 A5 A6 A7 A8 A9 A10 A11:Sort _} {P:A0→A1→A2→A3→A4→A5→A6→A7→A8→A9→A10→A11→Prop} {G:Prop} (h:∃a0 a1 a2 a3 a4 a5 a6 a7 a8 a9 a10 a11,P a0 a1 a2 a3 a4 a5 a6 a7 a8 a9 a10 a11) (k:∀a0 a1 a2 a3 a4 a5 a6 a7 a8 a9 a10 a11,P a0 a1 a2 a3 a4 a5 a6 a7 a8 a9 a10 a11→G):G:=h.elim fun a0 h=>h.elim fun a1 h=>h.elim fun a2 h=>h.elim fun a3 h=>h.elim fun a4 h=>h.elim fun a5 h=>h.elim fun a6 h=>h.elim fun a7 h=>h.elim fun a8 h=>h.elim fun a9 h=>h.elim fun a10 h=>h.elim fun a11 h=>k a0 a1 a2 a3 a4 a5 a6 a7 a8 a9 a10 a11 h
theorem xE13 {A0 A1 A2 A3 A4 A5 A6 A7 A8 A9 A10 A11 A12:Sort _} {P:A0→A1→A2→A3→A4→A5→A6→A7→A8→A9→A10→A11→A12→Prop} {G:Prop} (h:∃a0 a1 a2 a3 a4 a5 a6 a7 a8 a9 a10 a11 a12,P a0 a1 a2 a3 a4 a5 a6 a7 a8 a9 a10 a11 a12) (k:∀a0 a1 a2 a3 a4 a5 a6 a7 a8 a9 a10 a11 a12,P a0 a1 a2 a3 a4 a5 a6 a7 a8 a9 a10 a11 a12→G):G:=h.elim fun a0 h=>h.elim fun a1 h=>h.elim fun a2 h=>h.elim fun a3 h=>h.elim fun a4 h=>h.elim fun a5 h=>h.elim fun a6 h=>h.elim fun a7 h=>h.elim fun a8 h=>h.elim fun a9 h=>h.elim fun a10 h=>h.elim fun a11 h=>h.elim fun a12 h=>k a0 a1 a2 a3 a4 a5 a6 a7 a8 a9 a10 a11 a12 h
theorem xE14 {A0 A1 A2 A3 A4 A5 A6 A7 A8 A9 A10 A11 A12 A13:Sort _} {P:A0→A1→A2→A3→A4→A5→A6→A7→A8→A9→A10→A11→A12→A13→Prop} {G:Prop} (h:∃a0 a1 a2 a3 a4 a5 a6 a7 a8 a9 a10 a11 a12 a13,P a0 a1 a2 a3 a4 a5 a6 a7 a8 a9 a10 a11 a12 a13) (k:∀a0 a1 a2 a3 a4 a5 a6 a7 a8 a9 a10 a11 a12 a13,P a0 a1 a2 a3 a4 a5 a6 a7 a8 a9 a10 a11 a12 a13→G):G:=h.elim fun a0 h=>h.elim fun a1 h=>h.elim fun a2 h=>h.elim fun a3 h=>h.elim fun a4 h=>h.elim fun a5 h=>h.elim fun a6 h=>h.elim fun a7 h=>h.elim fun a8 h=>h.elim fun a9 h=>h.elim fun a10 h=>h.elim fun a11 h=>h.elim fun a12 h=>h.elim fun a13 h=>k a0 a1 a2 a3 a4 a5 a6 a7 a8 a9 a10 a11 a12 a13 h
theorem xE15 {A0 A1 A2 A3 A4 A5 A6 A7 A8 A9 A10 A11 A12 A13 A14:Sort _} {P:A0→A1→A2→A3→A4→A5→A6→A7→A8→A9→A10→A11→A12→A13→A14→Prop} {G:Prop} (h:∃a0 a1 a2 a3 a4 a5 a6 a7 a8 a9 a10 a11 a12 a13 a14,P a0 a1 a2 a3 a4 a5 a6 a7 a8 a9 a10 a11 a12 a13 a14) (k:∀a0 a1 a2 a3 a4 a5 a6 a7 a8 a9 a10 a11 a12 a13 a14,P a0 a1 a2 a3 a4 a5 a6 a7 a8 a9 a10 a11 a12 a13 a14→G):G:=h.elim fun a0 h=>h.elim fun a1 h=>h.elim fun a2 h=>h.elim fun a3 h=>h.elim fun a4 h=>h.elim fun a5 h=>h.elim fun a6 h=>h.elim fun a7 h=>h.elim fun a8 h=>h.elim fun a9 h=>h.elim fun a10 h=>h.elim fun a11 h=>h.elim fun a12 h=>h.elim fun a13 h=>h.elim fun a14 h=>k a0 a1 a2 a3 a4 a5 a6 a7 a8 a9 a10 a11 a12 a13 a14 h
theorem xE16 {A0 A1 A2 A3 A4 A5 A6 A7 A8 A9 A10 A11 A12 A13 A14 A15:Sort _} {P:A0→A1→A2→A3→A4→A5→A6→A7→A8→A9→A10→A11→A12→A13→A14→A15→Prop} {G:Prop} (h:∃a0 a1 a2 a3 a4 a5 a6 a7 a8 a9 a10 a11 a12 a13 a14 a15,P a0 a1 a2 a3 a4 a5 a6 a7 a8 a9 a10 a11 a12 a13 a14 a15) (k:∀a0 a1 a2 a3 a4 a5 a6 a7 a8 a9 a10 a11 a12 a13 a14 a15,P a0 a1 a2 a3 a4 a5 a6 a7 a8 a9 a10 a11 a12 a13 a14 a15→G):G:=h.elim fun a0 h=>h.elim fun a1 h=>h.elim fun a2 h=>h.elim fun a3 h=>h.elim fun a4 h=>h.elim fun a5 h=>h.elim fun a6 h=>h.elim fun a7 h=>h.elim fun a8 h=>h.elim fun a9 h=>h.elim fun a10 h=>h.elim fun a11 h=>h.elim fun a12 h=>h.elim fun a13 h=>h.elim fun a14 h=>h.elim fun a15 h=>k a0 a1 a2 a3 a4 a5 a6 a7 a8 a9 a10 a11 a12 a13 a14 a15 h
namespace L2
open PySem PySem.Spec PyProof.Rows
noncomputable abbrev Key:=Sum Int Str
noncomputable def Nz:Key→Ab→Bool
 | .inl k,v=>Yap k v
 | .inr x,v=>Yaq x v
noncomputable def keyH (w:Av):Key→Int
 | .inl k=>hashInt k
 | .inr x=>hashStr w x
theorem Jv:∀{k:Key} {v:Ab},Nz k v=true→(∃i t,k=J2 i∧v=GR i t)∨(∃x t,k=MT x∧v=Te x t)
 | .inl i,v,h=>by
  obtain⟨t,e⟩:=Ab.isInt_shape (k:=i) (v:=v) h;exact .inl ⟨i,t,rfl,e⟩
 | .inr x,v,h=>by
  obtain⟨t,e⟩:=Ab.isStrOf_shape (x:=x) (v:=v) h;exact .inr ⟨x,t,rfl,e⟩
theorem ZrP (i:Int) (t:Tok):Nz (.inl i) (.int i t)=true:=by simp[Nz,Yap]
theorem ZrQ (x:Str) (t:Tok):Nz (.inr x) (.str x t)=true:=by simp[Nz,Yaq]
theorem Zyr (a b:Int):decide ((J2 a:Key)=J2 b)=(a == b):=by
 by_cases e:a=b
 ·subst e; simp
 ·have h : ¬(J2 a:Key)=J2 b:=fun q=>e (J2.inj q)
  rw[decide_eq_false h];exact(beq_eq_false_iff_ne.mpr e).symm
theorem Zyu (a b:Str):decide ((MT a:Key)=MT b)=decide (a=b):=by
 by_cases e:a=b
 ·subst e; simp
 ·have h : ¬(MT a:Key)=MT b:=fun q=>e (MT.inj q)
  rw[decide_eq_false h,decide_eq_false e]
theorem Zys (a:Int) (b:Str):decide ((J2 a:Key)=MT b)=false:=decide_eq_false (fun q=>nomatch q)
theorem Zyt (a:Str) (b:Int):decide ((MT a:Key)=J2 b)=false:=decide_eq_false (fun q=>nomatch q)
noncomputable def Gb (prog:Ay) (w:Av):PySem.KeyKind prog w Key where
 is:=Nz
 hash:=keyH w
 inj:=fun v a b ha hb=>by
  rcases Jv ha with⟨i,t,rfl,rfl⟩ | ⟨x,t,rfl,rfl⟩
  ·rcases Jv hb with⟨j,u,rfl,e⟩ | ⟨y,u,rfl,e⟩
   ·injection e with e1 _; rw[e1]
   ·exact nomatch e
  ·rcases Jv hb with⟨j,u,rfl,e⟩ | ⟨y,u,rfl,e⟩
   ·exact nomatch e
   ·injection e with e1 _; rw[e1]
 byValue:=fun k v h=>by
  rcases Jv h with⟨i,t,rfl,rfl⟩ | ⟨x,t,rfl,rfl⟩ <;> rfl
 pyHash:=fun hv h=>by
  rcases Jv hv with⟨i,t,rfl,rfl⟩ | ⟨x,t,rfl,rfl⟩
  ·exact wpAny_pyHash_int h
  ·exact wpAny_pyHash_str h
 eqBool:=fun hu hv h=>by
  rcases Jv hu with⟨i,t,rfl,rfl⟩ | ⟨x,t,rfl,rfl⟩
  ·rcases Jv hv with⟨j,u,rfl,rfl⟩ | ⟨y,u,rfl,rfl⟩
   ·rw[Zyr]at h; exact Tf h
   ·rw[Zys]at h; exact SeqAt.EqAt.int_str i t y u _ _ _ _ h
  ·rcases Jv hv with⟨j,u,rfl,rfl⟩ | ⟨y,u,rfl,rfl⟩
   ·rw[Zyt]at h; exact SeqAt.EqAt.str_int x t j u _ _ _ _ h
   ·rw[Zyu]at h; exact wpAny_eqBool_str h
 «strs»:=fun k x t v h=>by
  rcases Jv h with⟨i,u,rfl,e⟩ | ⟨y,u,rfl,e⟩
  ·exact nomatch e
  ·injection e with e1 _
   subst e1
   cases v <;> rfl
theorem Zn2 (prog:Ay) (w:Av) (i:Int) (t:Tok):(Gb prog w).is (.inl i) (.int i t)=true:=ZrP i t
theorem Zn3 (prog:Ay) (w:Av) (x:Str) (t:Tok):(Gb prog w).is (.inr x) (.str x t)=true:=ZrQ x t
end L2
namespace L2
open PySem PySem.Spec PyProof.Rows
inductive V where
 | non | bl (b:Bool) | int (i:Int) | str (x:Str) | byt (b:Array UInt8) | flt (b:UInt64) | ref (a:Aa) | ty (n:String)
 deriving DecidableEq
noncomputable def RelV:V→Ab→Prop
 | .non,u=>u=Dd
 | .bl b,u=>u=J3 b
 | .int i,u=>∃t,u=GR i t
 | .str x,u=>∃t,u=Te x t
 | .byt b,u=>∃t,u=Yar b t
 | .flt b,u=>∃t,u=ug b t
 | .ref a,u=>u=Be a
 | .ty n,u=>u=Fi n
noncomputable abbrev Vals:List V→List Ab→Prop:=Bd RelV
theorem Vals.length {xs:List V} {us:List Ab} (r:Vals xs us):xs.length=us.length:=K1 r
theorem Vals.get:∀{xs:List V} {us:List Ab} {i:Nat} {x:V},Vals xs us→xs[i]?=some x→∃u,us[i]?=some u∧RelV x u
 | _,_,_,_,.nil,e=>by simp at e
 | _,_,0,_,.cons r _,e=>by simp at e; subst e; exact⟨_,rfl,r⟩
 | _,_,i+1,x,.cons _ t,e=>by
  obtain⟨u,h1,h2⟩:=Vals.get (i:=i) (x:=x) t (by simpa using e);exact⟨u,by simpa using h1,h2⟩
theorem Vals.set {x:V} {u:Ab} (r:RelV x u):∀{xs:List V} {us:List Ab} (i:Nat),Vals xs us→Vals (xs.set i x) (us.set i u)
 | _,_,_,.nil=>.nil
 | _,_,0,.cons _ t=>.cons r t
 | _,_,i+1,.cons q t=>.cons q (Vals.set r i t)
theorem Vals.append:∀{xs ys:List V} {us ws:List Ab},Vals xs us→Vals ys ws→Vals (xs++ys) (us++ws)
 | _,_,_,_,.nil,s=>s
 | _,_,_,_,.cons r t,s=>.cons r (Vals.append t s)
theorem Vals.take:∀{xs:List V} {us:List Ab} (n:Nat),Vals xs us→Vals (xs.take n) (us.take n)
 | _,_,0,_=>.nil
 | _,_,_+1,.nil=>.nil
 | _,_,n+1,.cons r t=>.cons r (Vals.take n t)
theorem Vals.drop:∀{xs:List V} {us:List Ab} (n:Nat),Vals xs us→Vals (xs.drop n) (us.drop n)
 | _,_,0,r=>r
 | _,_,_+1,.nil=>.nil
 | _,_,n+1,.cons _ t=>Vals.drop n t
noncomputable def RelO:Option V→Option Ab→Prop
 | some v,some u=>RelV v u
 | none,none=>True
 | _,_=>False
noncomputable def KV {κ:Type}:List (κ×V)→List (κ×Ab)→Prop:=Bd fun(p:κ×V) (q:κ×Ab)=>p.1=q.1∧RelV p.2 q.2
noncomputable def kV:Key→V
 | .inl i=>.int i
 | .inr x=>.str x
inductive HO where
 | lst (xs:List V)
 | tup (xs:List V)
 | dK (kvs:List (Key×V)) | dT (kvs:List (List Key×V))
 | set (S:Int→Bool) (n:Nat)
 | ins (C dx:Aa) (fs:List (Str×V))
 | own (x:Aa)
 | xd (fs:List (Str×V))
 | met (f x:Aa)
 | rng (lo hi:Int)
 | frz (o:Obj) (u:HO)
 | tbl (ps:Array Ab)
 | ext (φ:Ar→Prop)
noncomputable abbrev Hp:=Aa→Option HO
noncomputable def upd (H:Hp) (a:Aa) (o:HO):Hp:=fun b=>if b=a then some o else H b
theorem Cp {H:Hp} {a:Aa} {o:HO}:upd H a o a=some o:=by unfold upd; rw[if_pos rfl]
theorem Bo {H:Hp} {a b:Aa} {o:HO} (h:b≠a):upd H a o b=H b:=by unfold upd; rw[if_neg h]
theorem Ztn {H:Hp} {a:Aa} {o u:HO}:upd (upd H a o) a u=upd H a u:=by
 funext b; unfold upd; split <;> rfl
theorem BZ {H:Hp} {a b:Aa} {o u:HO} (h:H a=some o) (h':H b=some u) (d:o≠u):a≠b:=by
 intro e; subst e; rw[h]at h'; exact d (De h')
theorem Cj {H:Hp} {a b:Aa} {o:HO} (h:H a=some o) (h':H b=none):a≠b:=by
 intro e; subst e; rw[h]at h'; cases h'
section
variable (P:Ay) (w:Av)
noncomputable def Ck (H:Hp) (h:Ar) (a:Aa):HO→Prop
 | .lst xs=>xs.length≤Bk∧∃(its:List Ab) (n:Nat),Vals xs its∧h.get? a=some { cls:=.type "list",data:=.seq its.toArray n }
 | .tup xs=>xs.length≤Bk∧∃its:List Ab,Vals xs its∧Tg h a its.toArray
 | .dK kvs=>kvs.length≤Bk∧(a == sysModules)=false∧∃vs,KV kvs vs∧h.DictOf (Gb P w) a vs
 | .dT kvs=>kvs.length≤Bk∧(a == sysModules)=false∧∃xs:List (List Key×Aa×Ab),
   Bd (fun(p:List Key×V) (q:List Key×Aa×Ab)=>p.1=q.1∧H q.2.1=some (.tup (p.1.map kV))∧RelV p.2 q.2.2) kvs xs∧
   ∃o es ep,h.get? a=some o∧o.ExactDict∧o.data=.dict es ep∧es.toList=xs.map (entryOfKey (tupleKind (Gb P w)))∧(xs.map (·.1)).Nodup
 | .set S n=>h.SetOf (intKind P w) a S n
 | .ins C dx fs=>H dx=some (.own a)∧fs.length≤1000∧dx≠a∧h.get? a=some (K3 C dx)∧
   ∃mA,h.Ns1 dx mA∧(∀f,RelO (fs.lookup f) (mA f))∧uh mA (fs.map (·.1))
 | .own _=>∃o,h.get? a=some o
 | .xd fs=>∃mA,h.Ns1 a mA∧∀f,RelO (fs.lookup f) (mA f)
 | .rng lo hi=>∃t u v,h.get? a=some { cls:=.type "range",data:=.fields #[.int lo t,.int hi u,.int 1 v] }
 | .frz o u=>h.get? a=some o∧Ck H h a u
 | .tbl ps=>h.get? a=some { cls:=.none,data:=.fields ps }
 | .met f x=>h.get? a=some (ul (.ref f) (.ref x))
 | .ext φ=>φ h∧(∃o,h.get? a=some o)∧∀h1 h2:Ar,φ h1→(∀o,h1.get? a=some o→h2.get? a=some o)→φ h2
def HOk (H:Hp) (h:Ar):Prop:=∀a o,H a=some o→Ck P w H h a o
end
section
variable {P:Ay} {w:Av} {H H':Hp} {h h':Ar} {a:Aa} {o:HO}
theorem Ck.lt (x:Ck P w H h a o):a < h.objs.size:=by
 cases o with
 | lst xs=>obtain⟨_,_,_,_,e⟩:=x; exact BR e
 | tup xs=>obtain⟨_,_,_,p⟩:=x; exact p.lt
 | dK kvs=>obtain⟨_,_,_,_,o,_,_,e,_⟩:=x; exact BR e
 | dT kvs=>obtain⟨_,_,_,_,o,_,_,e,_⟩:=x; exact BR e
 | set S n=>obtain⟨o,_,_,_,e,_⟩:=x; exact BR e
 | ins C dx fs=>obtain⟨_,_,_,e,_⟩:=x; exact BR e
 | own y=>obtain⟨_,e⟩:=x; exact BR e
 | xd fs=>obtain⟨_,⟨_,_,_,e,_⟩,_⟩:=x; exact BR e
 | rng lo hi=>obtain⟨_,_,_,e⟩:=x; exact BR e
 | frz ob u=>obtain⟨e,_⟩:=x; exact BR e
 | tbl ps=>exact BR (show h.get? a=some _ from x)
 | met f y=>exact BR (show h.get? a=some _ from x)
 | ext φ=>obtain⟨_,⟨_,e⟩,_⟩:=x; exact BR e
theorem Paired.mapP {α β:Type} {F G:α→β→Prop}:∀{l₁:List α} {l₂:List β},Bd F l₁ l₂→(∀a b,F a b→G a b)→Bd G l₁ l₂
 | _,_,.nil,_=>.nil
 | _,_,.cons r t,f=>.cons (f _ _ r) (Paired.mapP t f)
theorem Ck.stay (x:Ck P w H h a o) (k:∀b u,(b=a∨H b=some (.own a))→h.get? b=some u→h'.get? b=some u)
  (ho:∀b,H b=some (.own a)→H' b=some (.own a)) (ht:∀b xs,H b=some (.tup xs)→H' b=some (.tup xs)):Ck P w H' h' a o:=by
 induction o with
 | lst xs=>obtain⟨z,its,n,r,e⟩:=x; exact⟨z,its,n,r,k _ _ (.inl rfl) e⟩
 | tup xs=>obtain⟨z,its,r,ob,e,c⟩:=x; exact⟨z,its,r,ob,k _ _ (.inl rfl) e,c⟩
 | dK kvs=>obtain⟨z,y,vs,r,ob,es,ep,e,c⟩:=x; exact⟨z,y,vs,r,ob,es,ep,k _ _ (.inl rfl) e,c⟩
 | dT kvs=>
  obtain⟨z,y,xs,r,ob,es,ep,e,c⟩:=x;exact⟨z,y,xs,Paired.mapP r fun p q z=>⟨z.1,ht _ _ z.2.1,z.2.2⟩,ob,es,ep,k _ _ (.inl rfl) e,c⟩
 | set S n=>obtain⟨ob,es,ep,t,e,c⟩:=x; exact⟨ob,es,ep,t,k _ _ (.inl rfl) e,c⟩
 | ins C dx fs=>
  obtain⟨d,z,ne,e,mA,⟨od,es,ep,e2,c⟩,r⟩:=x;exact⟨ho _ d,z,ne,k _ _ (.inl rfl) e,mA,⟨od,es,ep,k _ _ (.inr d) e2,c⟩,r⟩
 | own y=>obtain⟨ob,e⟩:=x; exact⟨ob,k _ _ (.inl rfl) e⟩
 | xd fs=>obtain⟨mA,⟨od,es,ep,e,c⟩,r⟩:=x; exact⟨mA,⟨od,es,ep,k _ _ (.inl rfl) e,c⟩,r⟩
 | rng lo hi=>obtain⟨t,u,v,e⟩:=x; exact⟨t,u,v,k _ _ (.inl rfl) e⟩
 | frz ob u ih=>obtain⟨e,q⟩:=x; exact⟨k _ _ (.inl rfl) e,ih q⟩
 | tbl ps=>
  have e:h.get? a=some { cls:=.none,data:=.fields ps }:=x;show h'.get? a=some { cls:=.none,data:=.fields ps };exact k a _ (.inl rfl) e
 | met f y=>
  have e:h.get? a=some (ul (.ref f) (.ref y)):=x;show h'.get? a=some (ul (.ref f) (.ref y));exact k a _ (.inl rfl) e
 | ext φ=>obtain⟨p,⟨o,e⟩,st⟩:=x; exact⟨st _ _ p fun o q=>k _ _ (.inl rfl) q,⟨o,k _ _ (.inl rfl) e⟩,st⟩
theorem HOk.lt (x:HOk P w H h) (e:H a=some o):a < h.objs.size:=(x a o e).lt
theorem HOk.fresh (x:HOk P w H h) (e:h.objs.size≤a):H a=none:=by
 cases q:H a with
 | none=>rfl
 | some u=>exact absurd (Er (x.lt q) e) (Hi _)
theorem HOk.kept (x:HOk P w H h) (k:∀b u,h.get? b=some u→h'.get? b=some u):HOk P w H h':=fun a o e=>
 (x a o e).stay (fun b u _ q=>k b u q) (fun _ q=>q) fun _ _ q=>q
theorem HOk.laid (x:HOk P w H h) (k:∀b u,h.get? b=some u→h'.get? b=some u) (hp:h.objs.size≤a) (new:Ck P w (upd H a o) h' a o):HOk P w (upd H a o) h':=fun b u e=>by
 have hn:=x.fresh hp
 by_cases hb:b=a
 ·subst hb; rw[Cp]at e; cases e; exact new
 ·rw[Bo hb]at e
  exact(x b u e).stay (fun c v _ q=>k c v q) (fun c q=>by rw[Bo (Cj q hn)]; exact q) fun c xs q=>by rw[Bo (Cj q hn)]; exact q
end
def Rd (H:Hp) (a:Aa) (u:HO):Prop:=H a=some u∨∃o,H a=some (.frz o u)
theorem Rd.ok {P:Ay} {w:Av} {H:Hp} {h:Ar} {a:Aa} {u:HO} (r:Rd H a u) (x:HOk P w H h):Ck P w H h a u:=by
 rcases r with r | ⟨o,r⟩
 ·exact x a u r
 ·obtain⟨_,q⟩:=x a _ r
  exact q
noncomputable def Mut:Option HO→Prop
 | some (.lst _)=>True
 | some (.dK _)=>True
 | some (.dT _)=>True
 | some (.set _ _)=>True
 | some (.ins _ _ _)=>True
 | some (.ext _)=>True
 | _=>False
section
variable {P:Ay} {w:Av} {H:Hp} {h h':Ar} {x e:Aa} {o':HO}
theorem HOk.write (ok:HOk P w H h) (mu:Mut (H x)) (he:e=x∨H e=some (.own x)) (k:∀b u,b≠e→h.get? b=some u→h'.get? b=some u) (heo:∃u,h'.get? e=some u)
  (new:Ck P w (upd H x o') h' x o'):HOk P w (upd H x o') h':=fun b u q=>by
 have nown:∀c y,H c=some (.own y)→c≠x:=fun c y r z=>by subst z; rw[r]at mu; exact mu
 have ntup:∀c xs,H c=some (.tup xs)→c≠x:=fun c xs r z=>by subst z; rw[r]at mu; exact mu
 by_cases hb:b=x
 ·subst hb; rw[Cp]at q; cases q; exact new
 ·rw[Bo hb]at q
  by_cases hbe:b=e
  ·have q':H b=some (.own x):=by
    rcases he with z | z
    ·exact absurd (hbe.trans z) hb
    ·rw[hbe]; exact z
   rw[q]at q'; cases q';obtain⟨v,hv⟩:=heo;exact⟨v,by rw[hbe]; exact hv⟩
  ·refine(ok b u q).stay (fun c v hc r=>k c v ?_ r) (fun c r=>by rw[Bo (nown c b r)]; exact r) fun c xs r=>by rw[Bo (ntup c xs r)]; exact r
   rcases hc with rfl | hc
   ·exact hbe
   ·rintro rfl
    rcases he with z | z
    ·exact nown c b hc z
    ·rw[hc]at z; cases z; exact hb rfl
end
structure Un (fs ex:List Aa) (H H':Hp) (h h':Ar):Prop where
 keep:∀b o,h.get? b=some o→H b=none→b∉fs→b∉ex→h'.get? b=some o
 slot:∀b o,h.get? b=some o→H b=none→b∈fs→b∉ex→∃sl,h'.get? b=some { o with slots:=sl }
 free:∀b o,h.get? b=some o→H b=none→b∉ex→H' b=none
 there:∀b o,h.get? b=some o→b∉ex→∃o',h'.get? b=some o'
 tups:∀b xs,H b=some (.tup xs)→H' b=some (.tup xs)
 frzs:∀b o u,H b=some (.frz o u)→H' b=some (.frz o u)
 tbls:∀b ps,H b=some (.tbl ps)→∃more,H' b=some (.tbl (ps++more))
section
variable {fs fs' ex ex':List Aa} {H H1 H2:Hp} {h h1 h2 h':Ar} {a x e:Aa} {o:HO}
theorem Un.any (u:Un fs ex H H1 h h1) {b:Aa} {ob:Obj} (q:h.get? b=some ob) (n:H b=none) (hx:b∉ex):∃sl,h1.get? b=some { ob with slots:=sl }:=by
 by_cases hb:b∈fs
 ·exact u.slot b ob q n hb hx
 ·exact⟨ob.slots,u.keep b ob q n hb hx⟩
theorem Un.kept (k:∀b u,h.get? b=some u→h'.get? b=some u):Un fs ex H H h h':=
 ⟨fun b ob q _ _ _=>k b ob q,fun b ob q _ _ _=>⟨ob.slots,k b ob q⟩,fun _ _ _ n _=>n,fun b ob q _=>⟨ob,k b ob q⟩,fun _ _ q=>q,fun _ _ _ q=>q,fun _ ps q=>⟨#[],by rw[q]; simp⟩⟩
theorem Un.refl:Un fs ex H H h h:=Un.kept fun _ _ q=>q
theorem Un.laid (k:∀b u,h.get? b=some u→h'.get? b=some u) (hp:h.objs.size≤a) (hn:H a=none):Un fs ex H (upd H a o) h h' where
 keep:=fun b u q _ _ _=>k b u q
 slot:=fun b u q _ _ _=>⟨u.slots,k b u q⟩
 free:=fun b u q n _=>by rw[Bo (Ce (Er (BR q) hp))]; exact n
 there:=fun b u q _=>⟨u,k b u q⟩
 tups:=fun b xs q=>by rw[Bo (Cj q hn)]; exact q
 frzs:=fun b u xs q=>by rw[Bo (Cj q hn)]; exact q
 tbls:=fun b ps q=>⟨#[],by rw[Bo (Cj q hn),q]; simp⟩
theorem Un.write (mu:Mut (H x)) (he:e=x∨H e=some (.own x)) (k:∀b u,b≠e→h.get? b=some u→h'.get? b=some u) (heo:∃u,h'.get? e=some u):Un fs ex H (upd H x o) h h':=by
 have hx:∀b,H b=none→b≠x:=fun b n z=>by subst z; rw[n]at mu; exact mu
 have hb:∀b,H b=none→b≠e:=fun b n z=>by
  subst z
  rcases he with r | r
  ·exact hx b n r
  ·rw[n]at r; cases r
 have hm:∀b u,H b=some u→¬Mut (some u)→b≠x:=fun b u q nm z=>by subst z; rw[q]at mu; exact nm mu
 refine⟨fun b u q n _ _=>k b u (hb b n) q,fun b u q n _ _=>⟨u.slots,k b u (hb b n) q⟩,fun b u q n _=>by rw[Bo (hx b n)]; exact n,fun b u q _=>?_,
  fun b xs q=>by rw[Bo (hm b _ q fun z=>z)]; exact q,fun b u xs q=>by rw[Bo (hm b _ q fun z=>z)]; exact q,fun b ps q=>⟨#[],by rw[Bo (hm b _ q fun z=>z),q]; simp⟩⟩
 by_cases hbe:b=e
 ·subst hbe; exact heo
 ·exact⟨u,k b u hbe q⟩
end
noncomputable def trk (h:Ar) (H:Hp):List Aa:=(Cd h.objs.size).filter fun a=>(H a).isSome
noncomputable def hidT (h:Ar) (H:Hp):Ar:=PySem.W.hideAll h (trk h H)
theorem Zrq (h:Ar) (H:Hp):(hidT h H).objs.size=h.objs.size:=PySem.W.hideAll_size _ _
theorem ZtV {h:Ar} {H:Hp} {b:Aa} {o:Obj} (e:h.get? b=some o) (n:H b=none):(hidT h H).get? b=some o:=
 PySem.W.hideAll_get _ e fun hm=>by
  have q:(H b).isSome=true:=(Fj.mp hm).2;rw[n]at q; simp at q
theorem Zw2 {h:Ar} {H:Hp} {b:Aa} {o:Obj} (e:(hidT h H).get? b=some o):h.get? b=some o∧H b=none:=by
 have e':h.get? b=some o:=PySem.W.of_hideAll (trk h H) e;refine⟨e',?_⟩
 cases q:H b with
 | none=>rfl
 | some x=>
  have hm:b∈trk h H:=Fj.mpr ⟨Es.mpr (BR e'),by simp[q]⟩;have z:(hidT h H).get? b=none:=PySem.W.hideAll_none (trk h H) hm;rw[z]at e; cases e
end L2
namespace L2
open PySem PySem.Spec PyProof.Rows
structure Mod (K:Ao) (mg:Str→Option Ab) (base:Ar):Prop where
 kin:K.In base
 glob:base.Ns Bj mg
 blt:∃mb,base.Ns builtinsNs mb∧∀x:Str,x≠"__name__"→mb x=bootBuiltins x
 nolimit:base.NoLimit
structure Cx where
 prog:Ay
 w:Av
 K:Ao
 mg:Str→Option Ab
 base:Ar
 A:Bp
 N:List Str
 s₀:Ae
 H₀:Hp
 env:Env
 outer:List Env
 stack:List Env
 ex:List Aa
 fn:Str→Bool
 calm:Bool
 pn:List (Aa×Obj)
 xe:Ab→Ae→Prop
noncomputable def frs (l:List Env):List Aa:=l.filterMap (·.frame)
noncomputable abbrev Cx.fs (X:Cx):List Aa:=frs X.outer
def Vis (sc:DK) (x:Str):Prop:=sc.names.lookup x=some .local∨sc.names.lookup x=some .cell∨sc.names.lookup x=some .free
def Loc (sc:DK) (x:Str):Prop:=sc.names.lookup x=some .local∨sc.names.lookup x=some .cell
def Look (env:Env) (h:Ar) (m:Str→Option Ab) (x:Str) (u:Ab):Prop:=
 (env.kindOf x=some .local∧m x=some u)∨((env.kindOf x=some .cell∨env.kindOf x=some .free)∧∃c,env.cells.lookup x=some c∧h.IsCell c (some u))
structure Cx.Ok (X:Cx):Prop where
 mod:Mod X.K X.mg X.base
 kind:X.env.scope.kind=.function
 glob:X.env.globals=Bj
 blt:X.env.builtins=builtinsNs
 above:X.s₀.heap.objs.size≤X.env.locals
 inj:∀x y c,X.env.cells.lookup x=some c→X.env.cells.lookup y=some c→x=y
 has:∀x,(X.env.kindOf x=some .cell∨X.env.kindOf x=some .free)→∃c,X.env.cells.lookup x=some c
 cab:∀x c,X.fn x=true→X.env.cells.lookup x=some c→X.s₀.heap.objs.size≤c
 hd:X.calm=true→X.A.handled=none
 frames:X.A.frames=some X.stack
 stk:X.stack=X.outer∨(X.stack=X.env::X.outer∧X.env.frame=some X.env.locals)
 exf:∀b∈X.ex,b≠X.env.locals∧∀x c,X.env.cells.lookup x=some c→c≠b
 bs:∀b o,X.base.get? b=some o→X.s₀.heap.get? b=some o∧X.H₀ b=none
 bsz:X.base.objs.size≤X.s₀.heap.objs.size
 noex:∀b o,X.base.get? b=some o→b∉X.ex
 exfs:∀b∈X.ex,b∉X.fs
 funs:X.s₀.heap.FunFrames X.base X.outer
 frf:∀b∈X.fs,X.H₀ b=none
structure Inv (X:Cx) (pins:List (Aa×Obj)) (σ:List (Option V)) (H:Hp) (s:Ae):Prop where
 ok:X.Ok
 os:s.os=X.s₀.os
 bare:Jq s.gens
 base:Un X.fs X.ex X.H₀ H X.s₀.heap s.heap
 loc:∃m,s.heap.Ns X.env.locals m∧∀(i:Nat) (x:Str) (v:V),X.N[i]?=some x→σ[i]?=some (some v)→Vis X.env.scope x→∃u,RelV v u∧Look X.env s.heap m x u
 cell:∀x c,X.env.cells.lookup x=some c→∃v,s.heap.IsCell c v
 free:H X.env.locals=none
 freeC:∀x c,X.env.cells.lookup x=some c→H c=none
 pin:∀p∈X.pn++pins,s.heap.get? p.1=some p.2∧H p.1=none∧p.1≠X.env.locals∧p.1∉X.fs∧∀v,p.2.data≠.cell v
 hok:HOk X.prog X.w H s.heap
 len:σ.length=X.N.length
section
variable {X:Cx} {pins:List (Aa×Obj)} {σ:List (Option V)} {H H':Hp} {s:Ae} {h':Ar}
theorem Cx.Ok.nofr (ok:X.Ok) {b:Aa} {o:Obj} (e:X.base.get? b=some o):b∉X.fs:=fun hb=>by
 have:=(ok.funs.mem hb).1;rw[e]at this; cases this
theorem Inv.bs (I:Inv X pins σ H s):∀b o,X.base.get? b=some o→s.heap.get? b=some o∧H b=none:=fun b o e=>
 ⟨I.base.keep b o (I.ok.bs b o e).1 (I.ok.bs b o e).2 (I.ok.nofr e) (I.ok.noex b o e),I.base.free b o (I.ok.bs b o e).1 (I.ok.bs b o e).2 (I.ok.noex b o e)⟩
theorem Inv.bk (I:Inv X pins σ H s):∀b o,X.base.get? b=some o→s.heap.get? b=some o:=fun b o e=>(I.bs b o e).1
theorem Inv.mod (I:Inv X pins σ H s):Mod X.K X.mg X.base:=I.ok.mod
theorem Inv.kIn (I:Inv X pins σ H s):X.K.In s.heap:=I.ok.mod.kin.keeps I.bk
theorem Inv.lt (I:Inv X pins σ H s):X.env.locals < s.heap.objs.size:=let ⟨_,hn,_⟩:=I.loc; hn.lt
theorem Inv.sz (I:Inv X pins σ H s):X.s₀.heap.objs.size≤s.heap.objs.size:=Eb I.ok.above (K4 I.lt)
theorem Inv.nofs (I:Inv X pins σ H s) {a:Aa} (h:s.heap.objs.size≤a):a∉X.fs:=fun hb=>by
 obtain⟨_,o,ho,_⟩:=I.ok.funs.mem hb;exact absurd (Er (BR ho) (Eb I.sz h)) (Hi _)
theorem Inv.cne (I:Inv X pins σ H s):∀x c,X.env.cells.lookup x=some c→c≠X.env.locals:=fun x c e z=>by
 obtain⟨v,o,ho,hd⟩:=I.cell x c e;obtain⟨m,⟨o',es,ep,ho',hd',_⟩,_⟩:=I.loc;rw[z,ho']at ho; cases ho; rw[hd']at hd; cases hd
theorem Inv.funs (I:Inv X pins σ H s):s.heap.FunFrames X.base X.outer:=by
 have all:∀(l:List Env),(∀b∈frs l,b∈X.fs)→X.s₀.heap.FunFrames X.base l→s.heap.FunFrames X.base l:=by
  intro l
  induction l with
  | nil=>intro _ _; trivial
  | cons env r ih=>
   intro hs hl;obtain⟨hk,⟨L,o,hf,hn,ho,hd⟩,hr⟩:=hl;have hL:L∈X.fs:=hs L (by unfold frs; rw[Rj,hf]; exact Ec);obtain⟨sl,e⟩:=I.base.slot L o ho (I.ok.frf L hL) hL fun z=>I.ok.exfs L z hL;exact⟨hk,⟨L,_,hf,hn,e,hd⟩,ih (fun b hb=>hs b (by unfold frs; rw[Rj,hf]; exact Et _ hb)) hr⟩
 exact all X.outer (fun _ hb=>hb) I.ok.funs
theorem Inv.stack (I:Inv X pins σ H s):s.heap.FunFrames X.base X.stack:=by
 rcases I.ok.stk with e | ⟨e,hf⟩
 ·rw[e]; exact I.funs
 ·rw[e]
  obtain⟨m,hn,_⟩:=I.loc;refine .cons (by rw[I.ok.kind]; decide) hf hn ?_ I.funs;exact Yas (Eb I.ok.bsz I.ok.above)
theorem Inv.stkSub (I:Inv X pins σ H s):∀b∈frs X.stack,b∈X.env.locals::X.fs:=fun b hb=>by
 rcases I.ok.stk with e | ⟨e,hf⟩
 ·rw[e]at hb; exact Et _ hb
 ·rw[e]at hb
  unfold frs at hb;rw[Rj,hf]at hb;exact hb
theorem Inv.stkFree (I:Inv X pins σ H s):∀b∈frs X.stack,H b=none:=fun b hb=>by
 rcases CZ.mp (I.stkSub b hb) with e | hb
 ·rw[e]; exact I.free
 ·obtain⟨_,o,ho,_⟩:=I.ok.funs.mem hb
  exact I.base.free b o ho (I.ok.frf b hb) fun z=>I.ok.exfs b z hb
theorem Inv.step {g':Array Ir} {t':Nat} {d':Drawn} {ch:List Aa} (I:Inv X pins σ H s)
  (hch:∀b∈ch,(b∈X.ex∨X.s₀.heap.objs.size≤b)∧b≠X.env.locals∧(∀x c,X.env.cells.lookup x=some c→c≠b)∧∀p∈X.pn++pins,p.1≠b)
  (keep:∀b o,b≠X.env.locals→b∉X.fs→b∉ch→s.heap.get? b=some o→H b=none→h'.get? b=some o)
  (slot:∀b o,b≠X.env.locals→b∈X.fs→b∉ch→s.heap.get? b=some o→H b=none→∃sl,h'.get? b=some { o with slots:=sl }) (free:∀b o,b∉ch→s.heap.get? b=some o→H b=none→H' b=none)
  (there:∀b o,b∉ch→s.heap.get? b=some o→∃o',h'.get? b=some o')
  (tups:∀b xs,H b=some (.tup xs)→H' b=some (.tup xs)) (frzs:∀b o u,H b=some (.frz o u)→H' b=some (.frz o u)) (tbls:∀b ps,H b=some (.tbl ps)→∃more,H' b=some (.tbl (ps++more)))
  (ns:∀m,s.heap.Ns X.env.locals m→h'.Ns X.env.locals m) (hok:HOk X.prog X.w H' h') (hg:Jq g') :
  Inv X pins σ H' { s with heap:=h',gens:=g',drawn:=d',toks:=t' }:=by
 have neL:∀b o,X.s₀.heap.get? b=some o→b≠X.env.locals:=fun b o e=>Ce (Er (BR e) I.ok.above)
 have neC:∀b o,X.s₀.heap.get? b=some o→b∉X.ex→b∉ch:=fun b o e hx hb=>by
  rcases(hch b hb).1 with z | z
  ·exact hx z
  ·exact absurd (Er (BR e) z) (Hi _)
 have cellK:∀x c,X.env.cells.lookup x=some c→∀v,s.heap.IsCell c v→h'.IsCell c v:=fun x c e v ⟨o,ho,hd⟩=>by
  have nch:c∉ch:=fun z=>(hch c z).2.2.1 x c e rfl
  by_cases hc:c∈X.fs
  ·obtain⟨sl,q⟩:=slot c o (I.cne x c e) hc nch ho (I.freeC x c e)
   exact⟨_,q,hd⟩
  ·exact⟨o,keep c o (I.cne x c e) hc nch ho (I.freeC x c e),hd⟩
 refine⟨I.ok,I.os,hg,⟨fun b o e n hb hx=>?_,fun b o e n hb hx=>?_,fun b o e n hx=>?_,fun b o e hx=>?_,fun b xs e=>tups b xs (I.base.tups b xs e),fun b o xs e=>frzs b o xs (I.base.frzs b o xs e),fun b ps e=>?_⟩,?_,fun x c e=>?_,?_,fun x c e=>?_,fun p hp=>?_,hok,I.len⟩
 ·exact keep b o (neL b o e) hb (neC b o e hx) (I.base.keep b o e n hb hx) (I.base.free b o e n hx)
 ·obtain⟨sl,e1⟩:=I.base.slot b o e n hb hx
  obtain⟨sl',e2⟩:=slot b _ (neL b o e) hb (neC b o e hx) e1 (I.base.free b o e n hx);exact⟨sl',e2⟩
 ·obtain⟨o',e1⟩:=I.base.there b o e hx
  exact free b o' (neC b o e hx) e1 (I.base.free b o e n hx)
 ·obtain⟨o',e1⟩:=I.base.there b o e hx
  exact there b o' (neC b o e hx) e1
 ·obtain⟨m1,e1⟩:=I.base.tbls b ps e
  obtain⟨m2,e2⟩:=tbls b _ e1;exact⟨m1++m2,by rw[e2,Array.append_assoc]⟩
 ·obtain⟨m,hn,hl⟩:=I.loc
  refine⟨m,ns m hn,fun i x v e1 e2 e3=>?_⟩;obtain⟨u,r,l⟩:=hl i x v e1 e2 e3;refine⟨u,r,?_⟩
  rcases l with l | ⟨k,c,e,z⟩
  ·exact .inl l
  ·exact .inr ⟨k,c,e,cellK x c e _ z⟩
 ·obtain⟨v,z⟩:=I.cell x c e
  exact⟨v,cellK x c e v z⟩
 ·obtain⟨m,⟨o,_,_,ho,_⟩,_⟩:=I.loc
  exact free _ o (fun z=>(hch _ z).2.1 rfl) ho I.free
 ·obtain⟨v,o,ho,hd⟩:=I.cell x c e
  exact free c o (fun z=>(hch c z).2.2.1 x c e rfl) ho (I.freeC x c e)
 ·obtain⟨e,n,ne,nf,d⟩:=I.pin p hp
  have nch:p.1∉ch:=fun z=>(hch p.1 z).2.2.2 p hp rfl;exact⟨keep p.1 p.2 ne nf nch e n,free p.1 p.2 nch e n,ne,nf,d⟩
theorem Inv.un {t':Nat} (I:Inv X pins σ H s) (u:Un X.fs [] H H' s.heap h') (hok:HOk X.prog X.w H' h'):Inv X pins σ H' { s with heap:=h',toks:=t' }:=by
 obtain⟨m,⟨o,es,ep,ho,r⟩,_⟩:=id I.loc;obtain⟨sl,hL⟩:=u.any ho I.free (by simp)
 exact I.step (g':=s.gens) (d':=s.drawn) (ch:=[]) (fun _ z=>nomatch z) (fun b o _ hb _ e n=>u.keep b o e n hb (by simp)) (fun b o _ hb _ e n=>u.slot b o e n hb (by simp)) (fun b o _ e n=>u.free b o e n (by simp)) (fun b o _ e=>u.there b o e (by simp)) u.tups u.frzs u.tbls (fun m' hm=>by
  obtain⟨o',es',ep',ho',r'⟩:=hm;rw[ho]at ho'; cases ho'
  exact⟨_,es',ep',hL,r'⟩) hok I.bare
theorem Inv.call {g':Array Ir} {t':Nat} {d':Drawn} {ch:List Aa} (I:Inv X pins σ H s) (u:Un (frs X.stack) ch H H' s.heap h') (hok:HOk X.prog X.w H' h') (hg:Jq g')
  (hch:∀b∈ch,(b∈X.ex∨X.s₀.heap.objs.size≤b)∧b≠X.env.locals∧(∀x c,X.env.cells.lookup x=some c→c≠b)∧∀p∈X.pn++pins,p.1≠b) :
  Inv X pins σ H' { s with heap:=h',gens:=g',drawn:=d',toks:=t' }:=by
 obtain⟨m,⟨o,es,ep,ho,r⟩,_⟩:=id I.loc;obtain⟨sl,hL⟩:=u.any ho I.free fun z=>(hch _ z).2.1 rfl
 exact I.step (ch:=ch) hch (fun b o hL hb hc e n=>u.keep b o e n (fun z=>(CZ.mp (I.stkSub b z)).elim hL hb) hc) (fun b o _ _ hc e n=>u.any e n hc) (fun b o hc e n=>u.free b o e n hc) (fun b o hc e=>u.there b o e hc) u.tups u.frzs u.tbls (fun m' hm=>by
  obtain⟨o',es',ep',ho',r'⟩:=hm;rw[ho]at ho'; cases ho'
  exact⟨_,es',ep',hL,r'⟩) hok hg
theorem Inv.turned {t':Nat} {it:Aa} (I:Inv X pins σ H s) (k:∀b o,b≠it→s.heap.get? b=some o→h'.get? b=some o) (hn:H it=none) (hL:it≠X.env.locals)
  (h1:it∈X.ex∨X.s₀.heap.objs.size≤it) (h2:∀x c,X.env.cells.lookup x=some c→c≠it) (h3:∀p∈X.pn++pins,p.1≠it):Inv X pins σ H { s with heap:=h',toks:=t' }:=by
 have nit:∀b u,H b=some u→b≠it:=fun b u e z=>by rw[z,hn]at e; cases e
 refine I.step (g':=s.gens) (d':=s.drawn) (ch:=[it]) (fun b hb=>?_) (fun b o _ _ hc e _=>k b o (fun z=>hc (by simp[z])) e) (fun b o _ _ hc e _=>⟨o.slots,k b o (fun z=>hc (by simp[z])) e⟩) (fun _ _ _ _ n=>n)
  (fun b o hc e=>⟨o,k b o (fun z=>hc (by simp[z])) e⟩) (fun _ _ e=>e) (fun _ _ _ e=>e) (fun b ps e=>⟨#[],by rw[e]; simp⟩) (fun m hm=>?_) (fun b u e=>?_) I.bare
 ·have e:b=it:=by simpa using hb
  subst e;exact⟨h1,hL,h2,h3⟩
 ·obtain⟨o,es,ep,ho,r⟩:=hm
  exact⟨o,es,ep,k _ o (DX hL) ho,r⟩
 ·refine(I.hok b u e).stay (fun c v hc q=>k c v ?_ q) (fun _ q=>q) fun _ _ q=>q
  rcases hc with z | z
  ·rw[z]; exact nit b u e
  ·exact nit c _ z
theorem Inv.tok (I:Inv X pins σ H s) (t:Nat):Inv X pins σ H { s with toks:=t }:=I.un (h':=s.heap) (t':=t) Un.refl I.hok
theorem Inv.kept {t':Nat} (I:Inv X pins σ H s) (k:∀b u,s.heap.get? b=some u→h'.get? b=some u):Inv X pins σ H { s with heap:=h',toks:=t' }:=I.un (Un.kept k) (I.hok.kept k)
theorem Inv.laid {a:Aa} {o:HO} {t':Nat} (I:Inv X pins σ H s) (k:∀b u,s.heap.get? b=some u→h'.get? b=some u) (hp:s.heap.objs.size≤a) (new:Ck X.prog X.w (upd H a o) h' a o) :
  Inv X pins σ (upd H a o) { s with heap:=h',toks:=t' }:=I.un (Un.laid k hp (I.hok.fresh hp)) (I.hok.laid k hp new)
theorem Inv.write {x e:Aa} {o:HO} {t':Nat} (I:Inv X pins σ H s) (mu:Mut (H x)) (he:e=x∨H e=some (.own x)) (k:∀b u,b≠e→s.heap.get? b=some u→h'.get? b=some u) (heo:∃u,h'.get? e=some u)
  (new:Ck X.prog X.w (upd H x o) h' x o):Inv X pins σ (upd H x o) { s with heap:=h',toks:=t' }:=I.un (Un.write mu he k heo) (I.hok.write mu he k heo new)
theorem Inv.pins_of {pins':List (Aa×Obj)} (I:Inv X pins σ H s) (h:∀p∈pins',s.heap.get? p.1=some p.2∧H p.1=none∧p.1≠X.env.locals∧p.1∉X.fs∧∀v,p.2.data≠.cell v):Inv X pins' σ H s:=
 ⟨I.ok,I.os,I.bare,I.base,I.loc,I.cell,I.free,I.freeC,fun p hp=>(Hj.mp hp).elim (fun z=>I.pin p (XR _ z)) (h p),I.hok,I.len⟩
theorem Zo9 {N:List Str} (hN:N.Nodup) {i j:Nat} {x:Str} (a:N[i]?=some x) (b:N[j]?=some x):i=j:=by
 obtain⟨h1,e1⟩:=Cr.mp a;obtain⟨h2,e2⟩:=Cr.mp b;exact(List.getElem_inj hN).mp (e1.trans e2.symm)
theorem Znz {M:Rk} {A:Bp} {E:Ab→Ae→Prop} {i:Nat} {x:Str} {v:V} {u:Ab} {Q:Unit→Ae→Prop} (I:Inv X pins σ H s) (hN:X.N.Nodup) (hi:X.N[i]?=some x) (hx:Loc X.env.scope x) (r:RelV v u)
  (h:∀s',Inv X pins (σ.set i (some v)) H s'→(∃a,HX a s.heap s'.heap∧(a=X.env.locals∨X.env.cells.lookup x=some a))→Q () s') (hf:X.fn x=true∨X.env.scope.names.lookup x=some .local:=by first | exact .inl rfl | exact .inr rfl | assumption):Ai M A (storeName X.env x u) Q E s:=by
 obtain⟨m,hn,hl⟩:=id I.loc
 have hcls:(X.env.scope.kind == .class || (X.env.scope.kind == .module && X.env.locals != X.env.globals))=false:=by rw[I.ok.kind]; rfl
 have hiσ:i < σ.length:=by rw[I.len]; exact(Cr.mp hi).1
 have cne:=I.cne
 have tracked:∀{a:Aa} {h':Ar},(∃o,s.heap.get? a=some o∧H a=none)→HX a s.heap h'→HOk X.prog X.w H h':=fun {a h'} ha hs b ob e=>by
  obtain⟨_,_,hfree⟩:=ha;refine(I.hok b ob e).stay (fun c w' hc q=>(hs.2 c ?_).trans q) (fun _ q=>q) fun _ _ q=>q;rintro rfl
  rcases hc with rfl | hc
  ·rw[hfree]at e; cases e
  ·rw[hfree]at hc; cases hc
 rcases hx with hk | hk
 ·refine wpAny_storeName_local hk hn (fun h' hn' hs=>?_) hcls
  obtain⟨oL,_,_,hoL,_⟩:=id hn;refine h _ ⟨I.ok,I.os,I.bare,⟨fun b o e n hb hx=>?_,fun b o e n hb hx=>?_,I.base.free,fun b o e hx=>?_,I.base.tups,I.base.frzs,I.base.tbls⟩,⟨_,hn',fun j y v' e1 e2 e3=>?_⟩,fun y c e=>?_,I.free,I.freeC,fun p hp=>?_,tracked ⟨oL,hoL,I.free⟩ hs,by simpa using I.len⟩ ⟨_,hs,.inl rfl⟩
  ·exact(hs.2 b (Ce (Er (BR e) I.ok.above))).trans (I.base.keep b o e n hb hx)
  ·obtain⟨sl,e1⟩:=I.base.slot b o e n hb hx
   exact⟨sl,(hs.2 b (Ce (Er (BR e) I.ok.above))).trans e1⟩
  ·obtain⟨o',e1⟩:=I.base.there b o e hx
   exact⟨o',(hs.2 b (Ce (Er (BR e) I.ok.above))).trans e1⟩
  ·by_cases hj:j=i
   ·subst hj
    rw[hi]at e1; cases e1;rw[Yat hiσ]at e2
    cases e2
    exact⟨u,r,.inl ⟨hk,by simp⟩⟩
   ·rw[Yau (DX hj)]at e2
    obtain⟨u',r',q⟩:=hl j y v' e1 e2 e3;refine⟨u',r',?_⟩
    rcases q with⟨k,e⟩ | ⟨k,c,e,z⟩
    ·refine .inl ⟨k,?_⟩
     have:y≠x:=fun e=>hj (Zo9 hN e1 (e ▸ hi));simp[this,e]
    ·exact .inr ⟨k,c,e,z.sameBut hs (cne y c e)⟩
  ·obtain⟨w',z⟩:=I.cell y c e
   exact⟨w',z.sameBut hs (cne y c e)⟩
  ·obtain⟨e,n,ne,nf,d⟩:=I.pin p hp
   exact⟨(hs.2 p.1 ne).trans e,n,ne,nf,d⟩
 ·have hfn:X.fn x=true:=by
   rcases hf with z | z
   ·exact z
   ·rw[z]at hk; cases hk
  obtain⟨c,hc⟩:=I.ok.has x (.inl hk);obtain⟨w',z⟩:=I.cell x c hc;refine wpAny_storeName_cell I.ok.kind hk hc z (fun h' hc' hs=>?_);obtain⟨oc,hoc,hocd⟩:=id z;refine h { s with heap:=h' } ⟨I.ok,I.os,I.bare,⟨fun b o e n hb hx=>?_,fun b o e n hb hx=>?_,I.base.free,fun b o e hx=>?_,I.base.tups,I.base.frzs,I.base.tbls⟩,⟨m,hn.sameBut hs (DX (cne x c hc)),fun j y v' e1 e2 e3=>?_⟩,fun y c' e=>?_,I.free,I.freeC,fun p hp=>?_,tracked ⟨oc,hoc,I.freeC x c hc⟩ hs,by simpa using I.len⟩ ⟨c,hs,.inr hc⟩
  ·exact(hs.2 b (Ce (Er (BR e) (I.ok.cab x c hfn hc)))).trans (I.base.keep b o e n hb hx)
  ·obtain⟨sl,e1⟩:=I.base.slot b o e n hb hx
   exact⟨sl,(hs.2 b (Ce (Er (BR e) (I.ok.cab x c hfn hc)))).trans e1⟩
  ·obtain⟨o',e1⟩:=I.base.there b o e hx
   exact⟨o',(hs.2 b (Ce (Er (BR e) (I.ok.cab x c hfn hc)))).trans e1⟩
  ·by_cases hj:j=i
   ·subst hj
    rw[hi]at e1; cases e1;rw[Yat hiσ]at e2
    cases e2
    exact⟨u,r,.inr ⟨.inl hk,c,hc,hc'⟩⟩
   ·rw[Yau (DX hj)]at e2
    obtain⟨u',r',q⟩:=hl j y v' e1 e2 e3;refine⟨u',r',?_⟩
    rcases q with q | ⟨k,c',e,z'⟩
    ·exact .inl q
    ·refine .inr ⟨k,c',e,z'.sameBut hs ?_⟩
     rintro rfl;exact hj (Zo9 hN e1 (I.ok.inj _ _ _ e hc ▸ hi))
  ·by_cases hcc:c'=c
   ·subst hcc; exact⟨_,hc'⟩
   ·obtain⟨w2,z2⟩:=I.cell y c' e
    exact⟨w2,z2.sameBut hs hcc⟩
  ·obtain⟨e,n,ne,nf,d⟩:=I.pin p hp
   refine⟨(hs.2 p.1 ?_).trans e,n,ne,nf,d⟩;intro q;rw[q,hoc]at e;have q':oc=p.2:=De e;exact d w' (by rw[←q']; exact hocd)
theorem Zpy {M:Rk} {A:Bp} {E:Ab→Ae→Prop} {i:Nat} {x:Str} {v:V} {u:Ab} {Q:Unit→Ae→Prop} (I:Inv X pins σ H s) (hN:X.N.Nodup) (hi:X.N[i]?=some x) (hx:Loc X.env.scope x) (r:RelV v u)
  (h:∀s',Inv X pins (σ.set i (some v)) H s'→Q () s') (hf:X.fn x=true∨X.env.scope.names.lookup x=some .local:=by first | exact .inl rfl | exact .inr rfl | assumption):Ai M A (storeName X.env x u) Q E s:=
 Znz I hN hi hx r (fun s' I' _=>h s' I') hf
theorem Inv.call' {s':Ae} {ch:List Aa} (I:Inv X pins σ H s) (ho:s'.os=s.os) (u:Un (frs X.stack) ch H H' s.heap s'.heap) (hok:HOk X.prog X.w H' s'.heap) (hg:Jq s'.gens)
  (hch:∀b∈ch,(b∈X.ex∨X.s₀.heap.objs.size≤b)∧b≠X.env.locals∧(∀x c,X.env.cells.lookup x=some c→c≠b)∧∀p∈X.pn++pins,p.1≠b):Inv X pins σ H' s':=by
 obtain⟨h',g',d',t',o'⟩:=s';have e:o'=s.os:=ho;subst e;exact I.call (g':=g') (t':=t') (d':=d') u hok hg hch
end
noncomputable abbrev XK:=Ab→Option Aa→Hp→Prop
noncomputable abbrev St:=List (Option V)
noncomputable abbrev VK:=V→Hp→Prop
noncomputable abbrev TE:=St→Hp→VK→Prop
noncomputable abbrev TT:=St→Hp→(Bool→Hp→Prop)→Prop
noncomputable abbrev TA:=St→Hp→(List V→Hp→Prop)→Prop
structure Ends where
 nx:St→Hp→Prop
 rt:VK
 bk:St→Hp→Prop:=fun _ _=>False
 ct:St→Hp→Prop:=fun _ _=>False
noncomputable abbrev TS:=Ends→St→Hp→Prop
def EP (X:Cx) (pins:List (Aa×Obj)) (σ:St) (Q:VK) (u:Ab) (s':Ae):Prop:=∃v H',Inv X pins σ H' s'∧RelV v u∧Q v H'
def TP (X:Cx) (pins:List (Aa×Obj)) (σ:St) (Q:Bool→Hp→Prop) (b:Bool) (s':Ae):Prop:=∃H',Inv X pins σ H' s'∧Q b H'
def AP (X:Cx) (pins:List (Aa×Obj)) (σ:St) (Q:List V→Hp→Prop) (us:List Ab) (s':Ae):Prop:=∃vs H',Inv X pins σ H' s'∧Vals vs us∧Q vs H'
def SP (X:Cx) (pins:List (Aa×Obj)) (D:Ends) (f:Flow) (s':Ae):Prop:=
 match f with
 | .next=>∃σ' H',Inv X pins σ' H' s'∧D.nx σ' H'
 | .brk=>∃σ' H',Inv X pins σ' H' s'∧D.bk σ' H'
 | .cont=>∃σ' H',Inv X pins σ' H' s'∧D.ct σ' H'
 | .ret u=>∃v σ' H',Inv X pins σ' H' s'∧RelV v u∧D.rt v H'
def PE (X:Cx) (e:Aw) (t:TE):Prop:=
 ∀(pins:List (Aa×Obj)) (s:Ae) (σ:St) (H:Hp) (Q:VK),Inv X pins σ H s→t σ H Q→Ai (model X.prog X.w) X.A (eval e X.env) (EP X pins σ Q) X.xe s
def PT (X:Cx) (e:Aw) (t:TT):Prop:=
 ∀(pins:List (Aa×Obj)) (s:Ae) (σ:St) (H:Hp) (Q:Bool→Hp→Prop),Inv X pins σ H s→t σ H Q→Ai (model X.prog X.w) X.A (isTrue e X.env (eval e X.env)) (TP X pins σ Q) X.xe s
def PW (X:Cx) (e:Aw) (t:TT):Prop:=
 ∀(whole:Sem Ab) (pins:List (Aa×Obj)) (s:Ae) (σ:St) (H:Hp) (Q:Bool→Hp→Prop),Inv X pins σ H s→t σ H Q→Ai (model X.prog X.w) X.A (isTrue e X.env whole) (TP X pins σ Q) X.xe s
theorem PW.pt {X:Cx} {e:Aw} {t:TT} (h:PW X e t):PT X e t:=h _
def PA (X:Cx) (es:List Aw) (t:TA):Prop:=
 ∀(pos:Pos) (pins:List (Aa×Obj)) (s:Ae) (σ:St) (H:Hp) (Q:List V→Hp→Prop),Inv X pins σ H s→t σ H Q→Ai (model X.prog X.w) X.A (spliced (backTo pos (BW es X.env))) (AP X pins σ Q) X.xe s
def PS (X:Cx) (st:Ba) (t:TS):Prop:=
 ∀(pins:List (Aa×Obj)) (s:Ae) (σ:St) (H:Hp) (D:Ends),Inv X pins σ H s→t D σ H→Ai (model X.prog X.w) X.A (exec st X.env) (SP X pins D) X.xe s
def PSs (X:Cx) (st:List Ba) (t:TS):Prop:=
 ∀(pins:List (Aa×Obj)) (s:Ae) (σ:St) (H:Hp) (D:Ends),Inv X pins σ H s→t D σ H→Ai (model X.prog X.w) X.A (execs st X.env) (SP X pins D) X.xe s
theorem thn {α:Type} {t:Sem α} {Q Q':α→Ae→Prop} {M:Rk} {A:Bp} {E:Ab→Ae→Prop} {s:Ae} (h:Ai M A t Q E s) (hQ:∀a s,Q a s→Q' a s):Ai M A t Q' E s:=Dn h hQ fun _ _ x=>x
end L2
namespace L2
open PySem PySem.Spec PyProof.Rows
section
variable {X:Cx}
noncomputable def tVar (i:Nat):TE:=fun σ H Q=>∃v,σ[i]?=some (some v)∧Q v H
noncomputable def tC (v:V):TE:=fun _ H Q=>Q v H
theorem ZyU {i:Nat} {x:Str} {pos:Pos} (hN:X.N[i]?=some x) (hv:Vis X.env.scope x) (hd:(x == ("__debug__" : Str))=false:=by decide) (hcd:(x == ("__classdict__" : Str))=false:=by decide):PE X (.Name x pos) (tVar i):=by
 intro pins s σ H Q I h;obtain⟨v,e,h⟩:=h;obtain⟨m,hn,hl⟩:=I.loc;obtain⟨u,r,l⟩:=hl i x v hN e hv;have fin:EP X pins σ Q u s:=⟨v,H,I,r,h⟩
 rcases l with⟨hk,hm⟩ | ⟨hk,c,hc,hcell⟩
 ·exact um (wpAny_loadName_local I.ok.kind hk hn hm fin) hd
 ·rcases hk with hk | hk
  ·exact um (wpAny_loadName_cell I.ok.kind hk hc hcell fin) hd
  ·exact um (wpAny_loadName_free I.ok.kind hk hc hcell fin hcd) hd
theorem Ah {i j pos}:PE X (.Constant (.int i) j pos) (tC (.int i)):=fun _ _ _ H _ I h=>wpAny_Constant_int ⟨.int i,H,I.tok _,⟨_,rfl⟩,h⟩
theorem Ej {b j pos}:PE X (.Constant (.bool b) j pos) (tC (.bl b)):=fun _ _ _ H _ I h=>Constant_bool ⟨.bl b,H,I,rfl,h⟩
theorem G8 {j pos}:PE X (.Constant .none j pos) (tC .non):=fun _ _ _ H _ I h=>Constant_none ⟨.non,H,I,rfl,h⟩
theorem Gd {x j pos}:PE X (.Constant (.str x) j pos) (tC (.str x)):=fun _ _ _ H _ I h=>Calls.Constant_str ⟨.str x,H,I.tok _,⟨_,rfl⟩,h⟩
def Gl (X:Cx) (x:Str):Prop:=X.env.kindOf x=some .globalImplicit
theorem Zn {E:Ab→Ae→Prop} {pins:List (Aa×Obj)} {s:Ae} {σ:St} {H:Hp} {x:Str} {u:Ab} {pos:Pos} {Q:Ab→Ae→Prop} (I:Inv X pins σ H s) (hg:Gl X x) (hm:X.mg x=some u) (h:Q u s)
  (hd:(x == ("__debug__" : Str))=false:=by decide):Ai (model X.prog X.w) X.A (eval (.Name x pos) X.env) Q E s:=
 Yav I.ok.kind hg (Calls.loadGlobal_global (by rw[I.ok.glob]; exact I.mod.glob.keeps I.bk) hm h) hd
theorem Jc {E:Ab→Ae→Prop} {pins:List (Aa×Obj)} {s:Ae} {σ:St} {H:Hp} {x:Str} {u:Ab} {pos:Pos} {Q:Ab→Ae→Prop} (I:Inv X pins σ H s) (hg:Gl X x) (hm:X.mg x=none) (hv:bootBuiltins x=some u) (h:Q u s)
  (hn:x≠"__name__":=by decide) (hd:(x == ("__debug__" : Str))=false:=by decide):Ai (model X.prog X.w) X.A (eval (.Name x pos) X.env) Q E s:=by
 obtain⟨mb,h1,h2⟩:=I.mod.blt;exact Yav I.ok.kind hg (Calls.loadGlobal_builtin (by rw[I.ok.glob]; exact I.mod.glob.keeps I.bk) hm (by rw[I.ok.blt]; exact h1.keeps I.bk) ((h2 x hn).trans hv) h) hd
theorem Jd {x:Str} {v:V} {u:Ab} {pos:Pos} (hg:Gl X x) (hm:X.mg x=none) (hv:bootBuiltins x=some u) (r:RelV v u) (hn:x≠"__name__":=by decide) (hd:(x == ("__debug__" : Str))=false:=by decide):PE X (.Name x pos) (tC v):=
 fun _ _ _ H _ I h=>Jc I hg hm hv ⟨v,H,I,r,h⟩ hn hd
variable {a b:Aw} {ta tb:TE} {pos:Pos}
variable {tA tB':TT} {rest:List Aw}
noncomputable def tAnd (t u:TT):TT:=fun σ H Q=>t σ H fun c H1=>if c=true then u σ H1 Q else Q false H1
noncomputable def tOr (t u:TT):TT:=fun σ H Q=>t σ H fun c H1=>if c=true then Q true H1 else u σ H1 Q
noncomputable def tNot (t:TT):TT:=fun σ H Q=>t σ H fun c H1=>Q (!c) H1
theorem RT (ha:PT X a tA):PW X (.BoolOp .And [a] pos) tA:=by
 intro wh pins s σ H Q I h;refine isTrue_and (thn (ha pins s σ H Q I h) fun c s1 e=>?_)
 cases c with
 | true=>exact isTrue_and_nil e
 | false=>exact e
theorem Hx (ha:PT X a tA):PW X (.BoolOp .Or [a] pos) tA:=by
 intro wh pins s σ H Q I h;refine isTrue_or (thn (ha pins s σ H Q I h) fun c s1 e=>?_)
 cases c with
 | false=>exact isTrue_or_nil e
 | true=>exact e
theorem RV (ha:PT X a tA) (hb:PW X (.BoolOp .And (b::rest) pos) tB'):PW X (.BoolOp .And (a::b::rest) pos) (tAnd tA tB'):=by
 intro wh pins s σ H Q I h;refine isTrue_and (thn (ha pins s σ H _ I h) fun c s1 ⟨H1,I1,q1⟩=>?_)
 cases c with
 | true=>exact hb wh pins s1 σ H1 Q I1 q1
 | false=>exact⟨H1,I1,q1⟩
theorem Gx (ha:PT X a tA) (hb:PW X (.BoolOp .Or (b::rest) pos) tB'):PW X (.BoolOp .Or (a::b::rest) pos) (tOr tA tB'):=by
 intro wh pins s σ H Q I h;refine isTrue_or (thn (ha pins s σ H _ I h) fun c s1 ⟨H1,I1,q1⟩=>?_)
 cases c with
 | true=>exact⟨H1,I1,q1⟩
 | false=>exact hb wh pins s1 σ H1 Q I1 q1
theorem DR (ha:PT X a tA):PT X (.UnaryOp .Not a pos) (tNot tA):=by
 intro pins s σ H Q I h;exact isTrue_not (ha pins s σ H (fun c H1=>Q (!c) H1) I h)
noncomputable def Zzl (ta tb:TE):TE:=fun σ H Q=>ta σ H fun x H1=>∃c,x=.bl c∧if c=true then tb σ H1 Q else Q (.bl false) H1
theorem Kq {op} {t:TE} (h:PE X a t):PE X (.BoolOp op [a] pos) t:=fun pins s σ H Q I hw=>BoolOp_one (h pins s σ H Q I hw)
theorem Jw (ha:PE X a ta) (hb:PE X (.BoolOp .And (b::rest) pos) tb):PE X (.BoolOp .And (a::b::rest) pos) (Zzl ta tb):=by
 intro pins s σ H Q I h;refine BoolOp_and (thn (ha pins s σ H _ I h) fun v s1 ⟨x,H1,I1,r1,q1⟩=>?_);obtain⟨c,rfl,q1⟩:=q1
 cases r1
 refine M3 ?_
 cases c with
 | true=>exact hb pins s1 σ H1 Q I1 q1
 | false=>exact⟨.bl false,H1,I1,rfl,q1⟩
end
end L2
namespace L2
open PySem PySem.Spec PyProof.Rows
def SqL (K:Ao) (H:Hp) (a:Aa) (xs:List V):Prop:=
 Rd H a (.lst xs)∨
  ∃(o:Obj) (its:Array Ab) (n:Nat),K.lookup a=some o∧o.cls=.type "list"∧o.dict=none∧o.data=.seq its n∧its.size≤Bk∧Vals xs its.toList
def SqT (K:Ao) (H:Hp) (a:Aa) (xs:List V):Prop:=
 Rd H a (.tup xs)∨
  ∃(o:Obj) (its:Array Ab) (n:Nat),K.lookup a=some o∧o.cls=.type "tuple"∧o.data=.seq its n∧its.size≤Bk∧Vals xs its.toList
noncomputable def absV:Ab→Option V
 | .none=>some .non
 | .bool b=>some (.bl b)
 | .int i _=>some (.int i)
 | .str x _=>some (.str x)
 | .bytes b _=>some (.byt b)
 | .float b _=>some (.flt b)
 | .ref a=>some (.ref a)
 | .type n=>some (.ty n)
 | _=>none
theorem RelV.abs {x:V} {u:Ab} (r:RelV x u):absV u=some x:=by
 cases x with
 | non=>cases r; rfl
 | bl _=>cases r; rfl
 | int _=>obtain⟨t,rfl⟩:=r; rfl
 | str _=>obtain⟨t,rfl⟩:=r; rfl
 | byt _=>obtain⟨t,rfl⟩:=r; rfl
 | flt _=>obtain⟨t,rfl⟩:=r; rfl
 | ref _=>cases r; rfl
 | ty _=>cases r; rfl
theorem RelV.inj {x y:V} {u:Ab} (r:RelV x u) (q:RelV y u):x=y:=De (r.abs.symm.trans q.abs)
theorem Vals.inj:∀{xs ys:List V} {us:List Ab},Vals xs us→Vals ys us→xs=ys
 | _,_,_,.nil,.nil=>rfl
 | _,_,_,.cons r t,.cons r' t'=>by rw[r.inj r',Vals.inj t t']
section
variable {X:Cx} {pins:List (Aa×Obj)} {σ:St} {H:Hp} {s:Ae} {a:Aa} {xs ys:List V}
theorem SqL.of {K:Ao} (h:H a=some (.lst xs)):SqL K H a xs:=.inl (.inl h)
theorem SqT.of {K:Ao} (h:H a=some (.tup xs)):SqT K H a xs:=.inl (.inl h)
theorem Inv.list (I:Inv X pins σ H s) (h:SqL X.K H a xs):∃its:List Ab,Vals xs its∧PlainL s.heap a its.toArray∧xs.length≤Bk:=by
 rcases h with h | ⟨o,its,n,hk,hc,hd,hs,hz,r⟩
 ·obtain⟨z,its,n,r,e⟩:=h.ok I.hok
  exact⟨its,r,⟨_,n,e,rfl,rfl,rfl⟩,z⟩
 ·refine⟨its.toList,r,⟨o,n,I.kIn a o hk,hc,hd,by simpa using hs⟩,?_⟩
  have e:=r.length;simp only [FJ]at e;omega
theorem Inv.tuple (I:Inv X pins σ H s) (h:SqT X.K H a xs):∃its:List Ab,Vals xs its∧Tg s.heap a its.toArray∧xs.length≤Bk:=by
 rcases h with h | ⟨o,its,n,hk,hc,hs,hz,r⟩
 ·obtain⟨z,its,r,p⟩:=h.ok I.hok
  exact⟨its,r,p,z⟩
 ·refine⟨its.toList,r,⟨o,I.kIn a o hk,hc,n,by simpa using hs⟩,?_⟩
  have e:=r.length;simp only [FJ]at e;omega
theorem Inv.list_inj (I:Inv X pins σ H s) (h:SqL X.K H a xs) (h':SqL X.K H a ys):xs=ys:=by
 obtain⟨its,r,⟨o,n,e,_,_,d⟩,_⟩:=I.list h;obtain⟨its',r',⟨o',n',e',_,_,d'⟩,_⟩:=I.list h';rw[e]at e'; cases e';rw[d]at d'
 injection d' with d1 _
 have:its=its':=by simpa using congrArg Yaw d1
 subst this;exact r.inj r'
theorem Inv.tuple_inj (I:Inv X pins σ H s) (h:SqT X.K H a xs) (h':SqT X.K H a ys):xs=ys:=by
 obtain⟨its,r,⟨o,e,_,n,d⟩,_⟩:=I.tuple h;obtain⟨its',r',⟨o',e',_,n',d'⟩,_⟩:=I.tuple h';rw[e]at e'; cases e';rw[d]at d'
 injection d' with d1 _
 have:its=its':=by simpa using congrArg Yaw d1
 subst this;exact r.inj r'
end
noncomputable abbrev Cx.wish (X:Cx) (E:Ab→Ae→Prop):Cx:={ X with xe:=E }
noncomputable abbrev Cx.nox (X:Cx):Cx:=X.wish fun _ _=>False
theorem Cx.Ok.wish {X:Cx} (ok:X.Ok) (E:Ab→Ae→Prop):(X.wish E).Ok:=
 ⟨ok.mod,ok.kind,ok.glob,ok.blt,ok.above,ok.inj,ok.has,ok.cab,ok.hd,ok.frames,ok.stk,ok.exf,ok.bs,ok.bsz,ok.noex,ok.exfs,ok.funs,ok.frf⟩
theorem Cx.Ok.unwish {X:Cx} {E:Ab→Ae→Prop} (ok:(X.wish E).Ok):X.Ok:=
 ⟨ok.mod,ok.kind,ok.glob,ok.blt,ok.above,ok.inj,ok.has,ok.cab,ok.hd,ok.frames,ok.stk,ok.exf,ok.bs,ok.bsz,ok.noex,ok.exfs,ok.funs,ok.frf⟩
section
variable {X:Cx} {pins:List (Aa×Obj)} {σ:St} {H:Hp} {s:Ae} {E:Ab→Ae→Prop}
theorem Inv.wish (I:Inv X pins σ H s) (E:Ab→Ae→Prop):Inv (X.wish E) pins σ H s:=⟨I.ok.wish E,I.os,I.bare,I.base,I.loc,I.cell,I.free,I.freeC,I.pin,I.hok,I.len⟩
theorem Inv.unwish (I:Inv (X.wish E) pins σ H s):Inv X pins σ H s:=⟨I.ok.unwish,I.os,I.bare,I.base,I.loc,I.cell,I.free,I.freeC,I.pin,I.hok,I.len⟩
theorem SP.unwish {D:Ends} {f:Flow} {s':Ae} (h:SP (X.wish E) pins D f s'):SP X pins D f s':=by
 cases f with
 | next=>obtain⟨σ',H',I,q⟩:=h; exact⟨σ',H',I.unwish,q⟩
 | brk=>obtain⟨σ',H',I,q⟩:=h; exact⟨σ',H',I.unwish,q⟩
 | cont=>obtain⟨σ',H',I,q⟩:=h; exact⟨σ',H',I.unwish,q⟩
 | ret u=>obtain⟨v,σ',H',I,r,q⟩:=h; exact⟨v,σ',H',I.unwish,r,q⟩
theorem PT.nox {e:Aw} {t:TT} (h:PT X.nox e t):PT X e t:=fun pins s σ H Q I hw=>
 Dn (h pins s σ H Q (I.wish _) hw) (fun _ _ ⟨H',I',q⟩=>⟨H',I'.unwish,q⟩) fun _ _ z=>Gj z
theorem PSs.nox {st:List Ba} {t:TS} (h:PSs X.nox st t):PSs X st t:=fun pins s σ H D I hw=>
 Dn (h pins s σ H D (I.wish _) hw) (fun _ _ q=>q.unwish) fun _ _ z=>Gj z
end
section
variable {X:Cx} {st:Ba} {rest:List Ba} {t u:TS} {e:Aw} {te:TE} {pos:Pos}
noncomputable def Zzp:TS:=fun D σ H=>D.nx σ H
noncomputable def tSeq (t u:TS):TS:=fun D σ H=>t { D with nx:=u D } σ H
theorem BP:PSs X [] Zzp:=fun _ _ σ H _ I h=>XS ⟨σ,H,I,h⟩
theorem Aj (h1:PS X st t) (h2:PSs X rest u):PSs X (st::rest) (tSeq t u):=by
 intro pins s σ H D I h;refine Yax (thn (h1 pins s σ H { D with nx:=u D } I h) fun f s1 q=>?_)
 cases f with
 | next=>
  obtain⟨σ',H',I',q⟩:=q;exact h2 pins s1 σ' H' D I' q
 | ret v=>exact q
 | brk=>exact q
 | cont=>exact q
theorem Al (h1:PS X st t):PSs X [st] t:=by
 intro pins s σ H D I h;refine Yax (thn (h1 pins s σ H D I h) fun f s1 q=>?_)
 cases f with
 | next=>exact XS q
 | ret v=>exact q
 | brk=>exact q
 | cont=>exact q
theorem Inv.quiet {pins:List (Aa×Obj)} {σ:St} {H:Hp} {s:Ae} (I:Inv X pins σ H s):interactive X.env=false:=by simp[interactive,I.ok.kind]
noncomputable def Zzm (te:TE):TS:=fun D σ H=>te σ H fun _ H1=>D.nx σ H1
theorem Ek (he:PE X e te) (hs:swapsWith e none pos.line X.env=pure false:=by rfl):PS X (.Expr e pos) (Zzm te):=by
 intro pins s σ H D I h;exact wpAny_Expr_any (thn (he pins s σ H _ I h) fun v s1 ⟨x,H1,I1,r1,q1⟩=>⟨σ,H1,I1,q1⟩) I.quiet hs
noncomputable def tRet (te:TE):TS:=fun D σ H=>te σ H D.rt
theorem Bb (he:PE X e te):PS X (.Return (some e) pos) (tRet te):=by
 intro pins s σ H D I h;exact wpAny_Return_some (thn (he pins s σ H _ I h) fun v s1 ⟨x,H1,I1,r1,q1⟩=>⟨x,σ,H1,I1,r1,q1⟩)
noncomputable def Zzt:TS:=fun D _ H=>D.rt .non H
theorem Zxd:PS X (.Return none pos) Zzt:=fun _ _ σ H _ I h=>wpAny_Return_none ⟨.non,σ,H,I,rfl,h⟩
noncomputable def tIfS (c:TT) (t u:TS):TS:=fun D σ H=>c σ H fun b H1=>if b=true then t D σ H1 else u D σ H1
theorem BJ {c:Aw} {a b:List Ba} {tc:TT} (hc:PT X c tc) (ha:PSs X a t) (hb:PSs X b u):PS X (.If c a b pos) (tIfS tc t u):=by
 intro pins s σ H D I h;refine wpAny_If (thn (hc pins s σ H _ I h) fun d s1 ⟨H1,I1,q1⟩=>?_)
 cases d with
 | true=>exact ha pins s1 σ H1 D I1 q1
 | false=>exact hb pins s1 σ H1 D I1 q1
noncomputable def Zzo:TS:=fun _ _ _=>False
theorem Zpj:PS X st Zzo:=fun _ _ _ _ _ _ h=>h.elim
end
noncomputable abbrev TG:=V→St→Hp→(St→Hp→Prop)→Prop
noncomputable abbrev TGs:=List V→St→Hp→(St→Hp→Prop)→Prop
def PG (X:Cx) (target:Aw) (t:TG):Prop:=
 ∀(pins:List (Aa×Obj)) (s:Ae) (σ:St) (H:Hp) (v:V) (u:Ab) (Q:St→Hp→Prop),Inv X pins σ H s→RelV v u→t v σ H Q→
  Ai (model X.prog X.w) X.A (assign target X.env u) (fun _ s'=>∃σ' H',Inv X pins σ' H' s'∧Q σ' H') X.xe s
def PGs (X:Cx) (ts:List Aw) (t:TGs):Prop:=
 ∀(pins:List (Aa×Obj)) (s:Ae) (σ:St) (H:Hp) (vs:List V) (us:List Ab) (Q:St→Hp→Prop),Inv X pins σ H s→Vals vs us→t vs σ H Q→
  Ai (model X.prog X.w) X.A (assignInOrder ((assignEach ts X.env).map (·.2)) us) (fun _ s'=>∃σ' H',Inv X pins σ' H' s'∧Q σ' H') X.xe s
noncomputable abbrev TSet:=V→V→V→Hp→(Hp→Prop)→Prop
def PSet (X:Cx) (t:TSet):Prop:=
 ∀(pins:List (Aa×Obj)) (s:Ae) (σ:St) (H:Hp) (o i v:V) (ov iv u:Ab) (Q:Hp→Prop),Inv X pins σ H s→RelV o ov→RelV i iv→RelV v u→t o i v H Q→
  Ai (model X.prog X.w) X.A (setItem ov iv u) (fun _ s'=>∃H',Inv X pins σ H' s'∧Q H') X.xe s
section
variable {X:Cx} {pos:Pos}
noncomputable def G9 (i:Nat):TG:=fun v σ H Q=>Q (σ.set i (some v)) H
theorem UV {i:Nat} {x:Str} (hN:X.N.Nodup) (hi:X.N[i]?=some x) (hx:Loc X.env.scope x) (hf:X.fn x=true∨X.env.scope.names.lookup x=some .local:=by first | exact .inl rfl | exact .inr rfl | assumption):PG X (.Name x pos) (G9 i):=by
 intro pins s σ H v u Q I r h;exact Yay (Zpy I hN hi hx r (fun s' I'=>⟨_,H,I',h⟩) hf)
noncomputable def gNil:TGs:=fun vs σ H Q=>vs=[]∧Q σ H
noncomputable def Zo (t:TG) (u:TGs):TGs:=fun vs σ H Q=>∃v r,vs=v::r∧t v σ H fun σ' H'=>u r σ' H' Q
theorem RW:PGs X [] gNil:=by
 intro pins s σ H vs us Q I r h;obtain⟨e,h⟩:=h;subst e
 cases r
 exact assignInOrder_nil ⟨σ,H,I,h⟩
theorem Je {e:Aw} {es:List Aw} {t:TG} {u:TGs} (h1:PG X e t) (h2:PGs X es u)
  (hs:(assignEach (e::es) X.env).map (·.2)=assign e X.env::(assignEach es X.env).map (·.2):=by rfl):PGs X (e::es) (Zo t u):=by
 intro pins s σ H vs us Q I r h;obtain⟨v,vr,e1,h⟩:=h;subst e1
 cases r with
 | cons r rr=>
  rw[hs];refine assignInOrder_cons (thn (h1 pins s σ H _ _ _ I r h) fun _ s1 ⟨σ1,H1,I1,q1⟩=>?_);exact h2 pins s1 σ1 H1 _ _ Q I1 rr q1
noncomputable def gTup (K:Ao) (n:Nat) (t:TGs):TG:=fun v σ H Q=>∃a xs,v=.ref a∧SqT K H a xs∧xs.length=n∧t xs σ H Q
theorem RX {es:List Aw} {k:Nat} {t:TGs} {n:Nat} (hc:X.calm=true) (h:PGs X es t)
  (hn:(assignEach es X.env).length=n:=by rfl) (hst:(assignEach es X.env).findIdx? (·.1)=none:=by rfl):PG X (.Tuple es k pos) (gTup X.K n t):=by
 intro pins s σ H v u Q I r hw;obtain⟨a,xs,e1,hq,hl,hw⟩:=hw;subst e1
 cases r
 obtain⟨its,rv,ht,hz⟩:=I.tuple hq;refine assign_Tuple_tuple (I.ok.hd hc) ht (by simp[hn,←hl,rv.length]) hst fun h' hx=>?_;have I1:Inv X pins σ H { s with heap:=h' }:=I.kept (t':=s.toks) fun b o e=>hx b o (Ce (BR e)) e;exact h pins _ σ H xs _ Q I1 (by simpa using rv) hw
noncomputable def gSub (to ti:TE) (t:TSet):TG:=fun v σ H Q=>to σ H fun o H1=>ti σ H1 fun i H2=>t o i v H2 fun H3=>Q σ H3
theorem ZyV {o i:Aw} {to ti:TE} {t:TSet} (ho:PE X o to) (hi:PE X i ti) (hs:PSet X t)
  (ha:∀v,assign (.Subscript o i pos) X.env v=(do
   let ov ←holding [v] (eval o X.env)
   let iv ←holding [v,ov] (eval i X.env)
   standAt pos
   holding [v,ov,iv] (setItem ov iv v)
   release [v,ov,iv] []):=by intro _; rfl):PG X (.Subscript o i pos) (gSub to ti t):=by
 intro pins s σ H v u Q I r h;rw[ha];refine Af (Fq (thn (ho pins s σ H _ I h) fun ov s1 ⟨x,H1,I1,r1,q1⟩=>?_));refine Af (Fq (thn (hi pins s1 σ H1 _ I1 q1) fun iv s2 ⟨y,H2,I2,r2,q2⟩=>?_));refine Af (uo (Af (Fq (thn (hs pins s2 σ H2 x y v ov iv u _ I2 r1 r2 r q2) fun _ s3 ⟨H3,I3,q3⟩=>?_))));exact wpAny_release ⟨σ,H3,I3,q3⟩
noncomputable def tAsg (te:TE) (g:TG):TS:=fun D σ H=>te σ H fun x H1=>g x σ H1 D.nx
theorem ZyW {tg e:Aw} {te:TE} {g:TG} (he:PE X e te) (hg:PG X tg g) (hs:swapsWithSole [tg] e pos.line X.env=pure false:=by rfl) (hw:swappedStores [tg] e X.env=pure none:=by rfl)
  (h1:(assignEach [tg] X.env).map (·.2)=[assign tg X.env]:=by rfl):PS X (.Assign [tg] e pos) (tAsg te g):=by
 intro pins s σ H D I h;refine wpAny_Assign_stores (thn (he pins s σ H _ I h) fun v s1 ⟨x,H1,I1,r1,q1⟩=>?_) hs hw;rw[h1];exact thn (hg pins s1 σ H1 x v _ I1 r1 q1) fun _ s2 q=>q
theorem ZyX {i:Nat} {x:Str} {e:Aw} {te:TE} {pos':Pos} (hN:X.N.Nodup) (hi:X.N[i]?=some x) (hx:Loc X.env.scope x) (he:PE X e te) (hs:swapsWith e (some (.Name x pos')) pos.line X.env=pure false:=by rfl) (hf:X.fn x=true∨X.env.scope.names.lookup x=some .local:=by first | exact .inl rfl | exact .inr rfl | assumption) :
  PS X (.Assign [.Name x pos'] e pos) (tAsg te (G9 i)):=by
 intro pins s σ H D I h;refine wpAny_Assign_Name (thn (he pins s σ H _ I h) fun v s1 ⟨y,H1,I1,r1,q1⟩=>?_) hs;exact Zpy I1 hN hi hx r1 (fun s2 I2=>⟨_,H1,I2,q1⟩) hf
end
section
variable {X:Cx} {pos:Pos}
noncomputable def Zzu (c:TT) (tb:TS):TS:=fun D σ H=>∃W:Nat→St→Hp→Prop,(∃m,W m σ H)∧∀m σ H,W m σ H→
 c σ H fun b H1=>if b=true then ∃N:St→Hp→Prop,(∀σ' H',N σ' H'→∃m',m' < m∧W m' σ' H')∧tb { D with nx:=N,ct:=N,bk:=D.nx } σ H1 else D.nx σ H1
theorem Lw {c:Aw} {body:List Ba} {tc:TT} {tb:TS} (hp:PassesOwn (model X.prog X.w) X.A X.env X.xe) (hc:PT X c tc) (hb:PSs X body tb):PS X (.While c body [] pos) (Zzu tc tb):=by
 intro pins s σ H D I h;obtain⟨W,⟨m0,w0⟩,turn⟩:=h;refine wpAny_While (codeAny_whileLoop (fun n s'=>∃σ' H',Inv X pins σ' H' s'∧W n σ' H') ?_ m0 ⟨σ,H,I,w0⟩);rintro n s1 ⟨σ1,H1,I1,w1⟩;refine M4 hp (thn (hc pins s1 σ1 H1 _ I1 (turn n σ1 H1 w1)) fun b s2 ⟨H2,I2,q2⟩=>?_)
 cases b with
 | true=>
  obtain⟨N,hN,q2⟩:=q2;rw[if_pos rfl];refine M4 hp (thn (hb pins s2 σ1 H2 _ I2 q2) fun f s3 q3=>?_)
  cases f with
  | next=>
   obtain⟨σ3,H3,I3,n3⟩:=q3;obtain⟨m',hm,w3⟩:=hN σ3 H3 n3;exact⟨m',hm,σ3,H3,I3,w3⟩
  | cont=>
   obtain⟨σ3,H3,I3,n3⟩:=q3;obtain⟨m',hm,w3⟩:=hN σ3 H3 n3;exact⟨m',hm,σ3,H3,I3,w3⟩
  | brk=>exact q3
  | ret v=>exact q3
 | false=>
  rw[if_neg Cg];exact XS ⟨σ1,H2,I2,q2⟩
end
structure It where
 go:Nat→Hp→Prop
 yld:Nat→Hp→V→Hp→Prop
 stop:Nat→Hp→Prop
def FpOk (X:Cx) (pins:List (Aa×Obj)) (H:Hp) (b:Aa):Prop:=
 H b=none∧b≠X.env.locals∧b∉X.fs∧(b∈X.ex∨X.s₀.heap.objs.size≤b)∧(∀x c,X.env.cells.lookup x=some c→c≠b)∧∀p∈X.pn++pins,p.1≠b
theorem Inv.fpOk {X:Cx} {pins:List (Aa×Obj)} {σ:St} {H H':Hp} {s:Ae} {b:Aa} (I:Inv X pins σ H s) (hb:s.heap.objs.size≤b) (hn:H' b=none):FpOk X pins H' b:=by
 refine⟨hn,Hk (Er I.lt hb),I.nofs hb,.inr (Eb I.sz hb),fun x c e z=>?_,fun p hp z=>?_⟩
 ·obtain⟨v,q⟩:=I.cell x c e
  exact absurd (Er q.lt (by rw[z]; exact hb)) (Hi _)
 ·exact absurd (Er (BR (I.pin p hp).1) (by rw[z]; exact hb)) (Hi _)
structure Turn (P:Ay) (w:Av) (K:Ao) (tg:Aw) (J:It) (fp:List Aa) (it:Aa) (tn:Nat→Ar→Prop):Prop where
 mem:it∈fp
 obj:∀i h,tn i h→∀b∈fp,∃o,h.get? b=some o∧∀v,o.data≠.cell v
 keep:∀i h h',tn i h→(∀b∈fp,∀o,h.get? b=some o→h'.get? b=some o)→tn i h'
 item:∀(X:Cx),X.prog=P→X.w=w→X.K=K→X.calm=true→∀(i:Nat) (pins:List (Aa×Obj)) (s:Ae) (σ:St) (H:Hp) (E:Ab→Ae→Prop),Inv X pins σ H s→(∀b∈fp,FpOk X pins H b)→tn i s.heap→J.go i H→
  Ai (model P w) X.A (pyNext (.ref it)) (fun r s1=>∃u,r=some u∧
   Ai (model P w) X.A (letOwnedTupleGo tg (.ref it) u) (fun _ s2=>∃x H',Inv X pins σ H' s2∧RelV x u∧J.yld i H x H'∧tn (i+1) s2.heap∧∀b∈fp,H' b=none) E s1) E s
 done:∀(X:Cx),X.prog=P→X.w=w→X.K=K→X.calm=true→∀(i:Nat) (pins:List (Aa×Obj)) (s:Ae) (σ:St) (H:Hp) (E:Ab→Ae→Prop),Inv X pins σ H s→(∀b∈fp,FpOk X pins H b)→tn i s.heap→J.stop i H→
  Ai (model P w) X.A (pyNext (.ref it)) (fun r s1=>r=none∧Inv X pins σ H s1) E s
 self:∀(A:Bp) (i:Nat) (s:Ae) (Q:Ab→Ae→Prop) (E:Ab→Ae→Prop),tn i s.heap→Q (.ref it) s→Ai (model P w) A (pyIter (.ref it)) Q E s
noncomputable abbrev TI:=St→Hp→(It→Hp→Prop)→Prop
def PIE (X:Cx) (pins:List (Aa×Obj)) (σ:St) (tg:Aw) (R:It→Hp→Prop) (itv:Ab) (s2:Ae):Prop:=
 ∃(it:Aa) (fp:List Aa) (tn:Nat→Ar→Prop) (J:It) (H':Hp),itv=.ref it∧Inv X pins σ H' s2∧Turn X.prog X.w X.K tg J fp it tn∧tn 0 s2.heap∧(∀b∈fp,FpOk X pins H' b)∧R J H'
def PI (X:Cx) (tg iter:Aw) (wi:TI):Prop:=
 ∀(pins:List (Aa×Obj)) (s:Ae) (σ:St) (H:Hp) (R:It→Hp→Prop),Inv X pins σ H s→wi σ H R→
  Ai (model X.prog X.w) X.A (eval iter X.env) (fun v s1=>Ai (model X.prog X.w) X.A (pyIter v) (PIE X pins σ tg R) X.xe s1) X.xe s
theorem RZ {M:Rk} {A:Bp} {E:Ab→Ae→Prop} {s:Ae} {tg:Aw} {it:Aa} {u:Ab} {o:Obj} {n:String} {vs:Array Ab} {Q:Unit→Ae→Prop} (ho:s.heap.get? it=some o) (hc:o.cls=.type n) (hd:o.data=.fields vs)
    (hn:["enumerate","zip","dict_itemiterator","dict_reverseitemiterator","odict_iterator","itertools.zip_longest","itertools.pairwise"].contains n=false) (hQ:Q () s):Ai M A (letOwnedTupleGo tg (.ref it) u) Q E s:=by
  unfold letOwnedTupleGo
  cases tg <;> first
    | exact Aq hQ
    | (cases u <;> first
        | exact Aq hQ
        | (refine Af (wpAny_load ho ?_)
           rw[hc,hd];show Ai M A (if (["enumerate","zip","dict_itemiterator","dict_reverseitemiterator","odict_iterator","itertools.zip_longest","itertools.pairwise"].contains n && vs[0]? == some (rawInt _))=true then _ else _) Q E s;rw[if_neg (by intro h; rw[hn,M5]at h; cases h)]
           exact Aq hQ))
noncomputable def Itl (K:Ao) (a:Aa):It:=
 ⟨fun i H=>∃xs x,SqL K H a xs∧xs[i]?=some x,fun i H x H'=>H'=H∧∀xs,SqL K H a xs→xs[i]?=some x,fun i H=>∃xs,SqL K H a xs∧xs.length≤i⟩
noncomputable def Itt (K:Ao) (a:Aa):It:=
 ⟨fun i H=>∃xs x,SqT K H a xs∧xs[i]?=some x,fun i H x H'=>H'=H∧∀xs,SqT K H a xs→xs[i]?=some x,fun i H=>∃xs,SqT K H a xs∧xs.length≤i⟩
noncomputable def Itr (lo:Int) (n:Nat):It:=⟨fun i _=>i < n,fun i H x H'=>H'=H∧x=.int (lo+i),fun i _=>n≤i⟩
theorem Ztj {P:Ay} {w:Av} {K:Ao} {tg:Aw} (a it:Aa):Turn P w K tg (Itl K a) [it] it (fun i h=>h.IsListIter it a i) where
 mem:=by simp
 obj:=fun i h st b hb=>by
  have e:b=it:=by simpa using hb
  subst e;obtain⟨o,e,c,d⟩:=st;exact⟨o,e,fun v z=>by rw[d]at z; cases z⟩
 keep:=fun i h h' st k=>st.at fun o e=>k it (by simp) o e
 item:=by
  intro X hP hw hK hc i pins s σ H E I hf st hg;subst hP hw hK;obtain⟨xs,x,hq,hx⟩:=hg;obtain⟨its,rv,p,hz⟩:=I.list hq;obtain⟨u,hu,ru⟩:=rv.get hx;obtain⟨f0,f1,f2,f3,f4,f5⟩:=hf it (by simp);refine wpAny_pyNext_list_item st p.isList (x:=u) (by simpa using hu) fun h' st' sb=>?_;have I1:Inv X pins σ H { s with heap:=h' }:=I.turned (t':=s.toks) (fun b o hb e=>(sb.2 b hb).trans e) f0 f1 f3 f4 f5;obtain⟨o,e,c,d⟩:=id st';exact⟨u,rfl,RZ (s:={ s with heap:=h' }) e c d (by decide) ⟨x,H,I1,ru,⟨rfl,fun ys hy=>by rw[I.list_inj hy hq]; exact hx⟩,st',fun b hb=>(hf b hb).1⟩⟩
 done:=by
  intro X hP hw hK hc i pins s σ H E I hf st hg;subst hP hw hK;obtain⟨xs,hq,hx⟩:=hg;obtain⟨its,rv,p,hz⟩:=I.list hq;obtain⟨f0,f1,f2,f3,f4,f5⟩:=hf it (by simp);have hl:=rv.length;exact wpAny_pyNext_list_end (I.ok.hd hc) st p.isList (by simp; omega) fun h' eb=>⟨rfl,I.turned (t':=s.toks) (fun b o hb e=>eb b o hb e) f0 f1 f3 f4 f5⟩
 self:=fun _ _ _ _ _ st h=>wpAny_pyIter_listiter st h
theorem Zqw {P:Ay} {w:Av} {K:Ao} {tg:Aw} (a it:Aa):Turn P w K tg (Itt K a) [it] it (fun i h=>h.IsTupleIter it a i) where
 mem:=by simp
 obj:=fun i h st b hb=>by
  have e:b=it:=by simpa using hb
  subst e;obtain⟨o,e,c,d⟩:=st;exact⟨o,e,fun v z=>by rw[d]at z; cases z⟩
 keep:=fun i h h' st k=>st.at fun o e=>k it (by simp) o e
 item:=by
  intro X hP hw hK hc i pins s σ H E I hf st hg;subst hP hw hK;obtain⟨xs,x,hq,hx⟩:=hg;obtain⟨its,rv,p,hz⟩:=I.tuple hq;obtain⟨u,hu,ru⟩:=rv.get hx;obtain⟨f0,f1,f2,f3,f4,f5⟩:=hf it (by simp);refine wpAny_pyNext_tuple_item st (show s.heap.IsTuple a its.toArray from p) (x:=u) (by simpa using hu) fun h' st' sb=>?_;have I1:Inv X pins σ H { s with heap:=h' }:=I.turned (t':=s.toks) (fun b o hb e=>(sb.2 b hb).trans e) f0 f1 f3 f4 f5;obtain⟨o,e,c,d⟩:=id st';exact⟨u,rfl,RZ (s:={ s with heap:=h' }) e c d (by decide) ⟨x,H,I1,ru,⟨rfl,fun ys hy=>by rw[I.tuple_inj hy hq]; exact hx⟩,st',fun b hb=>(hf b hb).1⟩⟩
 done:=by
  intro X hP hw hK hc i pins s σ H E I hf st hg;subst hP hw hK;obtain⟨xs,hq,hx⟩:=hg;obtain⟨its,rv,p,hz⟩:=I.tuple hq;obtain⟨f0,f1,f2,f3,f4,f5⟩:=hf it (by simp);have hl:=rv.length;exact wpAny_pyNext_tuple_end (I.ok.hd hc) st (show s.heap.IsTuple a its.toArray from p) (by simp; omega) fun h' eb=>⟨rfl,I.turned (t':=s.toks) (fun b o hb e=>eb b o hb e) f0 f1 f3 f4 f5⟩
 self:=fun _ _ _ _ _ st h=>wpAny_pyIter_tupleiter st h
theorem Zqv {P:Ay} {w:Av} {K:Ao} {tg:Aw} (it:Aa) (lo:Int) (n:Nat):Turn P w K tg (Itr lo n) [it] it (fun i h=>IsRangeIter h it (lo+(i:Nat) * 1) ((n:Int) - (i:Nat)) 1) where
 mem:=by simp
 obj:=fun i h st b hb=>by
  have e:b=it:=by simpa using hb
  subst e
  exact⟨_,st,fun v z=>by
   have z':Data.fields _=Data.cell v:=z
   cases z'⟩
 keep:=fun i h h' st k=>k it (by simp) _ st
 item:=by
  intro X hP hw hK hc i pins s σ H E I hf st hg;subst hP hw hK;obtain⟨f0,f1,f2,f3,f4,f5⟩:=hf it (by simp);have W:=Walks.range (prog:=X.prog) (w:=X.w) (I.ok.hd hc) it lo 1 n;refine W.item i s _ _ hg st fun v h' tk hv st' kk=>?_;obtain⟨t,rfl⟩:=hv;have I1:Inv X pins σ H { s with heap:=h',toks:=tk }:=I.turned (fun b o hb e=>kk b o (by simpa using hb) e) f0 f1 f3 f4 f5;refine⟨_,rfl,RZ (s:={ s with heap:=h',toks:=tk }) (n:="range_iterator") st' rfl rfl (by decide) ⟨.int (lo+i),H,I1,⟨t,?_⟩,⟨rfl,rfl⟩,st',fun b hb=>(hf b hb).1⟩⟩;rw[Int.mul_one]
 done:=by
  intro X hP hw hK hc i pins s σ H E I hf st hg;subst hP hw hK;obtain⟨f0,f1,f2,f3,f4,f5⟩:=hf it (by simp);exact wpAny_pyNext_range_end (I.ok.hd hc) st (by have:n≤i:=hg; omega) fun h' eb=>⟨rfl,I.turned (t':=s.toks) (fun b o hb e=>eb b o hb e) f0 f1 f3 f4 f5⟩
 self:=fun _ _ _ _ _ st h=>wpAny_pyIter_rangeiter st h
end L2
namespace L2
open PySem PySem.Spec PyProof.Rows
section
variable {X:Cx} {tg:Aw}
theorem Zpm {pins:List (Aa×Obj)} {σ:St} {H:Hp} {s:Ae} {R:It→Hp→Prop} {E:Ab→Ae→Prop} {lo hi:Int} {t u v:Tok} {tk:Nat} (I:Inv X pins σ H s) (h1 : -(2 ^ 62)≤lo) (h2:lo < 2 ^ 62) (h3 : -(2 ^ 62)≤hi) (h4:hi < 2 ^ 62)
  (q:R (Itr lo (hi - lo).toNat) H):Ai (model X.prog X.w) X.A (pyIter (.ref s.heap.objs.size)) (PIE X pins σ tg R) E { s with heap:=s.heap.push { cls:=.type "range",data:=.fields #[.int lo t,.int hi u,.int 1 v] },toks:=tk }:=by
 refine wpAny_pyIter_range (IsRange.new ..) (small_one h1 h2 h3 h4) ?_;have I1:Inv X pins σ H { s with heap:=s.heap.push { cls:=.type "range",data:=.fields #[.int lo t,.int hi u,.int 1 v] },toks:=tk }:=I.kept fun b o e=>BK _ e
 refine⟨(s.heap.push { cls:=.type "range",data:=.fields #[.int lo t,.int hi u,.int 1 v] }).objs.size,[(s.heap.push { cls:=.type "range",data:=.fields #[.int lo t,.int hi u,.int 1 v] }).objs.size],_,_,H,rfl,
  I1.kept (t':=tk) fun b o e=>BK _ e,Zqv _ lo (hi - lo).toNat,?_,fun b hb=>?_,q⟩
 ·have e1:lo+((0:Nat):Int) * 1=lo:=by simp
  have e2:(((hi - lo).toNat:Nat):Int) - ((0:Nat):Int)=YcU lo hi 1:=by rw[rangeSize_one]; split <;> omega
  show IsRangeIter _ _ (lo+((0:Nat):Int) * 1) ((((hi - lo).toNat:Nat):Int) - ((0:Nat):Int)) 1;rw[e1,e2];exact CT _ rfl
 ·have e:b=(s.heap.push { cls:=.type "range",data:=.fields #[.int lo t,.int hi u,.int 1 v] }).objs.size:=by simpa using hb
  subst e;exact I1.fpOk (Ax _) (I1.hok.fresh (Ax _))
noncomputable def Zq (ta:TA):TI:=fun σ H R=>ta σ H fun vs H1=>∃j:Int,vs=[.int j]∧-(2 ^ 62)≤j∧j < 2 ^ 62∧R (Itr 0 j.toNat) H1
noncomputable def Zr (ta:TA):TI:=fun σ H R=>ta σ H fun vs H1=>∃i j:Int,vs=[.int i,.int j]∧(-(2 ^ 62)≤i∧i < 2 ^ 62∧-(2 ^ 62)≤j∧j < 2 ^ 62)∧R (Itr i (j - i).toNat) H1
theorem Hy {a:Aw} {ta:TA} {p pos:Pos} (hg:Gl X "range") (hm:X.mg "range" = none) (ha:PA X [a] ta) (hs:BW [a] X.env=[(false,eval a X.env)]:=by rfl):PI X tg (.Call (.Name "range" p) [a] [] pos) (Zq ta):=by
 intro pins s σ H R I h;refine Call_ (Jc I hg hm boot_range (M6 (thn (ha pos pins s σ H _ I h) fun us s1 ⟨vs,H1,I1,r1,q1⟩=>?_) hs rfl));obtain⟨j,e,q1,q2,q⟩:=q1;subst e
 cases r1 with
 | cons r rr=>
  cases rr
  obtain⟨t,rfl⟩:=r;exact call_range_1 (Zpm I1 (by omega) (by omega) q1 q2 (by simpa using q))
theorem UW {a b:Aw} {ta:TA} {p pos:Pos} (hg:Gl X "range") (hm:X.mg "range" = none) (ha:PA X [a,b] ta) (hs:BW [a,b] X.env=[(false,eval a X.env),(false,eval b X.env)]:=by rfl) (hs2:BW [b] X.env=[(false,eval b X.env)]:=by rfl) :
  PI X tg (.Call (.Name "range" p) [a,b] [] pos) (Zr ta):=by
 intro pins s σ H R I h;refine Call_ (Jc I hg hm boot_range (M6 (thn (ha pos pins s σ H _ I h) fun us s1 ⟨vs,H1,I1,r1,q1⟩=>?_) (by rw[hs,hs2]) (by rw[hs2]; rfl)));obtain⟨i,j,e,⟨q1,q2,q3,q4⟩,q⟩:=q1;subst e
 cases r1 with
 | cons r rr=>
  cases rr with
  | cons r' rr=>
   cases rr
   obtain⟨t,rfl⟩:=r;obtain⟨t',rfl⟩:=r';exact call_range_2 (Zpm I1 q1 q2 q3 q4 q)
noncomputable def tFor (wi:TI) (g:TG) (tb:TS):TS:=fun D σ H=>wi σ H fun J H1=>∃W:Nat→Nat→St→Hp→Prop,(∃m,W 0 m σ H1)∧∀i m σ H,W i m σ H→
 (J.stop i H∧D.nx σ H)∨(J.go i H∧∃N:St→Hp→Prop,(∀σ' H',N σ' H'→∃m',m' < m∧W (i+1) m' σ' H')∧∀x H',J.yld i H x H'→g x σ H' fun σ2 H2=>tb { D with nx:=N,ct:=N,bk:=D.nx } σ2 H2)
noncomputable def NB (fp:List Aa) (h:Ar):List (Aa×Obj):=fp.filterMap fun b=>(h.get? b).map fun o=>(b,o)
theorem NK {fp:List Aa} {h:Ar} {b:Aa} {o:Obj} (hb:b∈fp) (e:h.get? b=some o):(b,o)∈NB fp h:=uq.mpr ⟨b,hb,by rw[e]; rfl⟩
theorem Zsa {fp:List Aa} {h:Ar} {p:Aa×Obj} (hp:p∈NB fp h):p.1∈fp∧h.get? p.1=some p.2:=by
 obtain⟨b,hb,e⟩:=uq.mp hp
 cases q:h.get? b with
 | none=>rw[q]at e; cases e
 | some o=>
  rw[q]at e;have e':(b,o)=p:=De e;subst e';exact⟨hb,q⟩
theorem Inv.pinned {pins:List (Aa×Obj)} {σ:St} {H:Hp} {s:Ae} {fp:List Aa} (I:Inv X pins σ H s) (hf:∀b∈fp,FpOk X pins H b) (ho:∀b∈fp,∃o,s.heap.get? b=some o∧∀v,o.data≠.cell v):Inv X (pins++NB fp s.heap) σ H s:=
 I.pins_of fun p hp=>(Hj.mp hp).elim (fun z=>I.pin p (Gs _ z)) fun z=>by
  obtain⟨hb,e⟩:=Zsa z;obtain⟨f0,f1,f2,_⟩:=hf p.1 hb;obtain⟨o,e',d⟩:=ho p.1 hb;rw[e]at e'; cases e';exact⟨e,f0,f1,f2,d⟩
theorem Inv.unpinned {pins pl:List (Aa×Obj)} {σ:St} {H:Hp} {s:Ae} (I:Inv X (pins++pl) σ H s):Inv X pins σ H s:=I.pins_of fun p hp=>I.pin p (Gs _ (XR _ hp))
theorem Ea {iter:Aw} {body:List Ba} {wi:TI} {g:TG} {tb:TS} {pos:Pos} (hp:PassesOwn (model X.prog X.w) X.A X.env X.xe) (hc:X.calm=true) (hi:PI X tg iter wi) (hg:PG X tg g) (hb:PSs X body tb)
  (hs:∀x,foldedSetIterable iter X.env x=pure x:=by intro _; rfl):PS X (.For tg iter body [] pos) (tFor wi g tb):=by
 intro pins s σ H D I h;refine wpAny_For (thn (hi pins s σ H _ I h) fun v s1 h1=>thn h1 fun itv s2 h2=>?_) hs;obtain⟨it,fp,tn,J,H2,e,I2,T,st2,f2,W,⟨m0,w0⟩,turn⟩:=h2;subst e;have stat:∀{H':Hp},(∀b∈fp,H' b=none)→∀b∈fp,FpOk X pins H' b:=fun hn b hb=>⟨hn b hb,(f2 b hb).2⟩;refine codeAny_forLoop_any (fun n s'=>∃i σ' H',Inv X pins σ' H' s'∧tn i s'.heap∧(∀b∈fp,H' b=none)∧W i n σ' H') ?_ m0 ⟨0,σ,H2,I2,st2,fun b hb=>(f2 b hb).1,w0⟩;rintro n s3 ⟨i,σ3,H3,I3,st3,fr3,w3⟩
 rcases turn i n σ3 H3 w3 with⟨stop,qn⟩ | ⟨go,N,hN,step⟩
 ·refine M4 hp (thn (T.done X rfl rfl rfl hc i pins s3 σ3 H3 X.xe I3 (stat fr3) st3 stop) fun r s4 ⟨hr,I4⟩=>?_)
  subst hr;exact XS ⟨σ3,H3,I4,qn⟩
 ·refine M4 hp (thn (T.item X rfl rfl rfl hc i pins s3 σ3 H3 X.xe I3 (stat fr3) st3 go) fun r s4 ⟨u,hr,h4⟩=>?_)
  subst hr;refine M4 hp (thn h4 fun _ s5 ⟨x,H5,I5,r5,y5,st5,fr5⟩=>?_);have I5':=I5.pinned (stat fr5) (T.obj _ _ st5);refine M4 hp (thn (hg _ s5 σ3 H5 x u _ I5' r5 (step x H5 y5)) fun _ s6 ⟨σ6,H6,I6,q6⟩=>?_);refine M4 hp (thn (hb _ s6 σ6 H6 _ I6 q6) fun f s7 q7=>?_)
  have again:∀{σ7:St} {H7:Hp},Inv X (pins++NB fp s5.heap) σ7 H7 s7→N σ7 H7→∃m,m < n∧∃i σ' H',Inv X pins σ' H' s7∧tn i s7.heap∧(∀b∈fp,H' b=none)∧W i m σ' H':=fun {σ7 H7} I7 n7=>by
   obtain⟨m',hm,w7⟩:=hN σ7 H7 n7;refine⟨m',hm,i+1,σ7,H7,I7.unpinned,T.keep _ _ _ st5 fun b hb o e=>(I7.pin (b,o) (Gs _ (Gs _ (NK hb e)))).1,fun b hb=>?_,w7⟩;obtain⟨o,e,d⟩:=T.obj _ _ st5 b hb;exact(I7.pin (b,o) (Gs _ (Gs _ (NK hb e)))).2.1
  cases f with
  | next=>obtain⟨σ7,H7,I7,n7⟩:=q7; exact again I7 n7
  | cont=>obtain⟨σ7,H7,I7,n7⟩:=q7; exact again I7 n7
  | brk=>obtain⟨σ7,H7,I7,q7⟩:=q7; exact⟨σ7,H7,I7.unpinned,q7⟩
  | ret v=>obtain⟨x7,σ7,H7,I7,r7,q7⟩:=q7; exact⟨x7,σ7,H7,I7.unpinned,r7,q7⟩
end
theorem ZtP {K:Ao} {a:Aa} {xs:List V} {g:TG} {tb:TS} {D:Ends} {σ:St} {H:Hp} (Pv:Nat→St→Hp→Prop) (h0:Pv 0 σ H) (hl:∀i σ H,i≤xs.length→Pv i σ H→SqL K H a xs)
  (hs:∀i x σ H,xs[i]?=some x→Pv i σ H→g x σ H fun σ2 H2=>tb { D with nx:=Pv (i+1),ct:=Pv (i+1),bk:=D.nx } σ2 H2) (hd:∀σ H,Pv xs.length σ H→D.nx σ H) :
  ∃W:Nat→Nat→St→Hp→Prop,(∃m,W 0 m σ H)∧∀i m σ H,W i m σ H→
   ((Itl K a).stop i H∧D.nx σ H)∨((Itl K a).go i H∧∃N:St→Hp→Prop,(∀σ' H',N σ' H'→∃m',m' < m∧W (i+1) m' σ' H')∧∀x H',(Itl K a).yld i H x H'→g x σ H' fun σ2 H2=>tb { D with nx:=N,ct:=N,bk:=D.nx } σ2 H2):=by
 refine⟨fun i m σ H=>m=xs.length - i∧i≤xs.length∧Pv i σ H,⟨xs.length,by simp,Cy _,h0⟩,?_⟩;rintro i m σ H ⟨rfl,hi,p⟩;have q:=hl i σ H hi p
 by_cases hlt:i < xs.length
 ·refine .inr ⟨⟨xs,xs[i],q,by simp[hlt]⟩,Pv (i+1),fun σ' H' p'=>⟨xs.length - (i+1),by omega,rfl,hlt,p'⟩,fun x H' y=>?_⟩
  obtain⟨e,y⟩:=y;subst e;exact hs i x σ _ (y xs q) p
 ·have e:i=xs.length:=by omega
  subst e;exact .inl ⟨⟨xs,q,Ax _⟩,hd σ H p⟩
theorem U0 {lo:Int} {n:Nat} {g:TG} {tb:TS} {D:Ends} {σ:St} {H:Hp} (Pv:Nat→St→Hp→Prop) (h0:Pv 0 σ H)
  (hs:∀i σ H,i < n→Pv i σ H→g (.int (lo+i)) σ H fun σ2 H2=>tb { D with nx:=Pv (i+1),ct:=Pv (i+1),bk:=D.nx } σ2 H2) (hd:∀σ H,Pv n σ H→D.nx σ H) :
  ∃W:Nat→Nat→St→Hp→Prop,(∃m,W 0 m σ H)∧∀i m σ H,W i m σ H→
   ((Itr lo n).stop i H∧D.nx σ H)∨((Itr lo n).go i H∧∃N:St→Hp→Prop,(∀σ' H',N σ' H'→∃m',m' < m∧W (i+1) m' σ' H')∧∀x H',(Itr lo n).yld i H x H'→g x σ H' fun σ2 H2=>tb { D with nx:=N,ct:=N,bk:=D.nx } σ2 H2):=by
 refine⟨fun i m σ H=>m=n - i∧i≤n∧Pv i σ H,⟨n,by simp,Cy _,h0⟩,?_⟩;rintro i m σ H ⟨rfl,hi,p⟩
 by_cases hlt:i < n
 ·refine .inr ⟨hlt,Pv (i+1),fun σ' H' p'=>⟨n - (i+1),by omega,rfl,hlt,p'⟩,fun x H' y=>?_⟩
  obtain⟨e,y⟩:=y;subst e y;exact hs i σ _ hlt p
 ·have e:i=n:=by omega
  subst e;exact .inl ⟨Ax _,hd σ H p⟩
end L2
namespace L2
open PySem PySem.Spec PyProof.Rows
noncomputable abbrev R2:=V→V→Hp→VK→Prop
def OpR (X:Cx) (f:Ab→Ab→Sem Ab) (r:R2):Prop:=
 ∀(pins:List (Aa×Obj)) (s:Ae) (σ:St) (H:Hp) (x y:V) (v u:Ab) (Q:VK),Inv X pins σ H s→RelV x v→RelV y u→r x y H Q→
  Ai (model X.prog X.w) X.A (f v u) (EP X pins σ Q) X.xe s
def UnR (X:Cx) (f:Ab→Sem Ab) (r:V→Hp→VK→Prop):Prop:=
 ∀(pins:List (Aa×Obj)) (s:Ae) (σ:St) (H:Hp) (x:V) (v:Ab) (Q:VK),Inv X pins σ H s→RelV x v→r x H Q→
  Ai (model X.prog X.w) X.A (f v) (EP X pins σ Q) X.xe s
def Ha (X:Cx) (f:Ab) (r:List V→Hp→VK→Prop):Prop:=
 ∀(pins:List (Aa×Obj)) (s:Ae) (σ:St) (H:Hp) (xs:List V) (us:List Ab) (Q:VK),Inv X pins σ H s→Vals xs us→r xs H Q→
  Ai (model X.prog X.w) X.A (call f us) (EP X pins σ Q) X.xe s
def TruR (X:Cx) (r:V→Hp→(Bool→Hp→Prop)→Prop):Prop:=
 ∀(pins:List (Aa×Obj)) (s:Ae) (σ:St) (H:Hp) (x:V) (v:Ab) (Q:Bool→Hp→Prop),Inv X pins σ H s→RelV x v→r x H Q→
  Ai (model X.prog X.w) X.A (truthy v) (TP X pins σ Q) X.xe s
noncomputable def tOp (r:R2) (ta tb:TE):TE:=fun σ H Q=>ta σ H fun x H1=>tb σ H1 fun y H2=>r x y H2 Q
noncomputable def tUn (r:V→Hp→VK→Prop) (ta:TE):TE:=fun σ H Q=>ta σ H fun x H1=>r x H1 Q
noncomputable def rI (C:Int→Int→Prop) (g:Int→Int→V):R2:=fun x y H Q=>∃i j,x=.int i∧y=.int j∧C i j∧Q (g i j) H
noncomputable def rI0 (g:Int→Int→V):R2:=fun x y H Q=>∃i j,x=.int i∧y=.int j∧Q (g i j) H
noncomputable def rU (g:Int→V):V→Hp→VK→Prop:=fun x H Q=>∃i,x=.int i∧Q (g i) H
section
variable {X:Cx} {a b c:Aw} {ta tb tc:TE} {pos:Pos}
theorem binT (ha:PE X a ta) (hb:PE X b tb) {pins:List (Aa×Obj)} {s:Ae} {σ:St} {H:Hp} {R:V→V→Hp→Prop} (I:Inv X pins σ H s)
  (h:ta σ H fun x H1=>tb σ H1 fun y H2=>R x y H2) {Q:Ab→Ae→Prop} {f:Ab→Ab→Sem Ab}
  (hf:∀v u s2 x y H2,Inv X pins σ H2 s2→RelV x v→RelV y u→R x y H2→Ai (model X.prog X.w) X.A (f v u) Q X.xe s2) :
  Ai (model X.prog X.w) X.A (eval a X.env) (fun v s₁=>Ai (model X.prog X.w) X.A (eval b X.env) (fun u s₂=>Ai (model X.prog X.w) X.A (f v u) Q X.xe s₂) X.xe s₁) X.xe s:=by
 refine thn (ha pins s σ H _ I h) fun v s1 ⟨x,H1,I1,r1,q1⟩=>?_;refine thn (hb pins s1 σ H1 _ I1 q1) fun u s2 ⟨y,H2,I2,r2,q2⟩=>?_;exact hf v u s2 x y H2 I2 r1 r2 q2
theorem Ak {op:Operator} {r:R2} (ho:OpR X (binaryOp op) r) (ha:PE X a ta) (hb:PE X b tb):PE X (.BinOp a op b pos) (tOp r ta tb):=by
 intro pins s σ H Q I h;exact wpAny_BinOp (binT ha hb I h fun v u s2 x y H2 I2 rx ry q=>ho pins s2 σ H2 x y v u Q I2 rx ry q)
theorem Gy {op:UnaryOp} {r:V→Hp→VK→Prop} (ho:UnR X (unaryOp op) r) (ha:PE X a ta):PE X (.UnaryOp op a pos) (tUn r ta):=by
 intro pins s σ H Q I h;exact UnaryOp_ (thn (ha pins s σ H _ I h) fun v s1 ⟨x,H1,I1,r1,q1⟩=>ho pins s1 σ H1 x v Q I1 r1 q1)
theorem opI {f:Ab→Ab→Sem Ab} {C:Int→Int→Prop} {g:Int→Int→Int}
  (rule:∀(i j:Int) (t u:Tok) (s:Ae) (Q:Ab→Ae→Prop) (E:Ab→Ae→Prop),C i j→Q (.int (g i j) s.toks) { s with toks:=s.toks+1 }→Ai (model X.prog X.w) X.A (f (.int i t) (.int j u)) Q E s) :
  OpR X f (rI C fun i j=>.int (g i j)):=by
 intro pins s σ H x y v u Q I rx ry h;obtain⟨i,j,rfl,rfl,hc,q⟩:=h;obtain⟨t,rfl⟩:=rx;obtain⟨t',rfl⟩:=ry;exact rule i j t t' s _ _ hc ⟨.int (g i j),H,I.tok _,⟨_,rfl⟩,q⟩
theorem opI0 {f:Ab→Ab→Sem Ab} {g:Int→Int→Int}
  (rule:∀(i j:Int) (t u:Tok) (s:Ae) (Q:Ab→Ae→Prop) (E:Ab→Ae→Prop),Q (.int (g i j) s.toks) { s with toks:=s.toks+1 }→Ai (model X.prog X.w) X.A (f (.int i t) (.int j u)) Q E s) :
  OpR X f (rI0 fun i j=>.int (g i j)):=by
 intro pins s σ H x y v u Q I rx ry h;obtain⟨i,j,rfl,rfl,q⟩:=h;obtain⟨t,rfl⟩:=rx;obtain⟨t',rfl⟩:=ry;exact rule i j t t' s _ _ ⟨.int (g i j),H,I.tok _,⟨_,rfl⟩,q⟩
theorem opB0 {f:Ab→Ab→Sem Ab} {g:Int→Int→Bool}
  (rule:∀(i j:Int) (t u:Tok) (s:Ae) (Q:Ab→Ae→Prop) (E:Ab→Ae→Prop),Q (.bool (g i j)) s→Ai (model X.prog X.w) X.A (f (.int i t) (.int j u)) Q E s) :
  OpR X f (rI0 fun i j=>.bl (g i j)):=by
 intro pins s σ H x y v u Q I rx ry h;obtain⟨i,j,rfl,rfl,q⟩:=h;obtain⟨t,rfl⟩:=rx;obtain⟨t',rfl⟩:=ry;exact rule i j t t' s _ _ ⟨.bl (g i j),H,I,rfl,q⟩
def CPow (i j:Int):Prop:=0≤j∧j≤1000000∧i.natAbs < 2 ^ 64
def CMul (i j:Int):Prop:=(-(2 ^ 64) < i∧i < 2 ^ 64)∨(-(2 ^ 64) < j∧j < 2 ^ 64)
theorem CMul.ok {i j:Int} (h:CMul i j):IntMulOk i j:=by
 rcases h with⟨h1,h2⟩ | ⟨h1,h2⟩
 ·exact .of_left (intBits_le_64 h1 h2)
 ·exact .of_right (intBits_le_64 h1 h2)
theorem Zqx (k:Nat):(0:Int)≤2 ^ k:=by
 rw[two_pow_cast];exact ur _
theorem ZyI:OpR X (binaryOp .Add) (rI0 fun i j=>.int (i+j)):=opI0 fun _ _ _ _ _ _ _ q=>add_int q
theorem Hz:OpR X (binaryOp .Sub) (rI0 fun i j=>.int (i - j)):=opI0 fun _ _ _ _ _ _ _ q=>sub_int q
theorem ZyM:OpR X (binaryOp .Mult) (rI CMul fun i j=>.int (i * j)):=opI fun _ _ _ _ _ _ _ hc q=>mul_int q hc.ok
theorem El:OpR X (binaryOp .Mod) (rI (fun _ j=>0 < j) fun i j=>.int (i % j)):=opI fun i j _ _ _ _ _ hc q=>by
 have h1:(0:Int) < j:=hc;exact mod_int' (by omega) (by rw[Int.fmod_eq_emod_of_nonneg i (by omega)]; exact q)
theorem ZyP:OpR X (binaryOp .Pow) (rI CPow fun i j=>.int (i ^ j.toNat)):=opI fun _ _ _ _ _ _ _ hc q=>pow_int_small hc.1 hc.2.1 hc.2.2 q
theorem DW:OpR X (binaryOp .LShift) (rI CPow fun i j=>.int (i * 2 ^ j.toNat)):=opI fun _ _ _ _ _ _ _ hc q=>lshift_int_small hc.1 hc.2.1 hc.2.2 q
theorem Jx:OpR X (binaryOp .RShift) (rI (fun _ j=>0≤j) fun i j=>.int (i / 2 ^ j.toNat)):=opI fun i j _ _ _ _ _ hc q=>
 rshift_int hc (by rw[Yaz i (Zqx _)]; exact q)
theorem Cm:OpR X (binaryOp .BitAnd) (rI0 fun i j=>.int (Hl i j)):=opI0 fun _ _ _ _ _ _ _ q=>and_int q
theorem Hb:OpR X (binaryOp .BitOr) (rI0 fun i j=>.int (XX i j)):=opI0 fun _ _ _ _ _ _ _ q=>or_int q
theorem ZyQ:OpR X (binaryOp .BitXor) (rI0 fun i j=>.int (YaA i j)):=opI0 fun _ _ _ _ _ _ _ q=>xor_int q
theorem unI {f:Ab→Sem Ab} {g:Int→Int}
  (rule:∀(i:Int) (t:Tok) (s:Ae) (Q:Ab→Ae→Prop) (E:Ab→Ae→Prop),Q (.int (g i) s.toks) { s with toks:=s.toks+1 }→Ai (model X.prog X.w) X.A (f (.int i t)) Q E s) :
  UnR X f (rU fun i=>.int (g i)):=by
 intro pins s σ H x v Q I rx h;obtain⟨i,rfl,q⟩:=h;obtain⟨t,rfl⟩:=rx;exact rule i t s _ _ ⟨.int (g i),H,I.tok _,⟨_,rfl⟩,q⟩
theorem Zt:UnR X (unaryOp .USub) (rU fun i=>.int (-i)):=unI fun _ _ _ _ _ q=>neg_int q
theorem Ih:UnR X (unaryOp .Invert) (rU fun i=>.int (HY i)):=unI fun _ _ _ _ _ q=>invert_int q
end
noncomputable def scal:V→V→Bool
 | .non,.non=>true | .non,.int _=>true | .int _,.non=>true | .non,.bl _=>true | .bl _,.non=>true | .non,.str _=>true | .str _,.non=>true
 | .int _,.int _=>true | .bl _,.bl _=>true | .str _,.str _=>true | .byt _,.byt _=>true
 | .int _,.str _=>true | .str _,.int _=>true | .bl _,.str _=>true | .str _,.bl _=>true
 | _,_=>false
noncomputable def rEq:R2:=fun x y H Q=>scal x y=true∧Q (.bl (decide (x=y))) H
noncomputable def rNe:R2:=fun x y H Q=>scal x y=true∧Q (.bl (!decide (x=y))) H
theorem Zrb {i j:Int}:decide (V.int i=V.int j)=(i == j):=by
 rw[GX];simp
theorem Zvd {i j:Bool}:decide (V.bl i=V.bl j)=(i == j):=by
 rw[GX];simp
theorem Zrc {i j:Str}:decide (V.str i=V.str j)=(i == j):=by
 rw[GX];simp
theorem Zra {i j:Array UInt8}:decide (V.byt i=V.byt j)=(i.toList == j.toList):=by
 rw[GX]
 cases i
 cases j
 simp
section
variable {X:Cx} {a b c:Aw} {ta tb tc:TE} {pos:Pos}
theorem Dc {pins:List (Aa×Obj)} {σ:St} {H:Hp} {s:Ae} {Q:VK} {k k':Bool} (I:Inv X pins σ H s) (q:Q (.bl k) H) (e:k=k'):EP X pins σ Q (.bool k') s:=by
 subst e;exact⟨.bl k,H,I,rfl,q⟩
theorem ZzW:OpR X (compareOp .Eq) rEq:=by
 intro pins s σ H x y v u Q I rx ry h;obtain⟨hs,q⟩:=h
 cases x with
 | non=>
  cases rx
  cases y with
  | non=>cases ry; exact YcV (Dc I q (by simp))
  | bl j=>cases ry; exact YcW (Dc I q (by simp))
  | int j=>obtain⟨t',rfl⟩:=ry; exact YcX (Dc I q (by simp))
  | str j=>obtain⟨t',rfl⟩:=ry; exact YcY (Dc I q (by simp))
  | _=>exact absurd (show false=true from hs) Cg
 | bl i=>
  cases rx
  cases y with
  | non=>cases ry; exact YcZ (Dc I q (by simp))
  | bl j=>cases ry; exact eq_bool (Dc I q Zvd)
  | str j=>obtain⟨t',rfl⟩:=ry; exact Yc0 (Dc I q (by simp))
  | _=>exact absurd (show false=true from hs) Cg
 | int i=>
  obtain⟨t,rfl⟩:=rx
  cases y with
  | non=>cases ry; exact Yc1 (Dc I q (by simp))
  | int j=>obtain⟨t',rfl⟩:=ry; exact eq_int (Dc I q Zrb)
  | str j=>obtain⟨t',rfl⟩:=ry; exact Yc2 (Dc I q (by simp))
  | _=>exact absurd (show false=true from hs) Cg
 | str i=>
  obtain⟨t,rfl⟩:=rx
  cases y with
  | non=>cases ry; exact Yc3 (Dc I q (by simp))
  | bl j=>cases ry; exact Yc4 (Dc I q (by simp))
  | int j=>obtain⟨t',rfl⟩:=ry; exact Yc5 (Dc I q (by simp))
  | str j=>obtain⟨t',rfl⟩:=ry; exact eq_str (Dc I q Zrc)
  | _=>exact absurd (show false=true from hs) Cg
 | byt i=>
  obtain⟨t,rfl⟩:=rx
  cases y with
  | byt j=>obtain⟨t',rfl⟩:=ry; exact PySem.W.eq_bytes (Dc I q Zra)
  | _=>exact absurd (show false=true from hs) Cg
 | _=>cases y <;> exact absurd (show false=true from hs) Cg
theorem ZzY:OpR X (compareOp .NotEq) rNe:=by
 intro pins s σ H x y v u Q I rx ry h;obtain⟨hs,q⟩:=h
 cases x with
 | non=>
  cases rx
  cases y with
  | non=>cases ry; exact Yc6 (Dc I q (by simp))
  | bl j=>cases ry; exact Yc7 (Dc I q (by simp))
  | int j=>obtain⟨t',rfl⟩:=ry; exact Yc8 (Dc I q (by simp))
  | str j=>obtain⟨t',rfl⟩:=ry; exact Yc9 (Dc I q (by simp))
  | _=>exact absurd (show false=true from hs) Cg
 | bl i=>
  cases rx
  cases y with
  | non=>cases ry; exact Yda (Dc I q (by simp))
  | bl j=>cases ry; exact ne_bool (Dc I q (congrArg not Zvd))
  | str j=>obtain⟨t',rfl⟩:=ry; exact Ydb (Dc I q (by simp))
  | _=>exact absurd (show false=true from hs) Cg
 | int i=>
  obtain⟨t,rfl⟩:=rx
  cases y with
  | non=>cases ry; exact Ydc (Dc I q (by simp))
  | int j=>obtain⟨t',rfl⟩:=ry; exact ne_int (Dc I q (congrArg not Zrb))
  | str j=>obtain⟨t',rfl⟩:=ry; exact Ydd (Dc I q (by simp))
  | _=>exact absurd (show false=true from hs) Cg
 | str i=>
  obtain⟨t,rfl⟩:=rx
  cases y with
  | non=>cases ry; exact Yde (Dc I q (by simp))
  | bl j=>cases ry; exact Ydf (Dc I q (by simp))
  | int j=>obtain⟨t',rfl⟩:=ry; exact Ydg (Dc I q (by simp))
  | str j=>obtain⟨t',rfl⟩:=ry; exact ne_str (Dc I q (congrArg not Zrc))
  | _=>exact absurd (show false=true from hs) Cg
 | byt i=>
  obtain⟨t,rfl⟩:=rx
  cases y with
  | byt j=>obtain⟨t',rfl⟩:=ry; exact PySem.W.ne_bytes (Dc I q (congrArg not Zra))
  | _=>exact absurd (show false=true from hs) Cg
 | _=>cases y <;> exact absurd (show false=true from hs) Cg
theorem Kr:OpR X (compareOp .Lt) (rI0 fun i j=>.bl (decide (i < j))):=opB0 fun _ _ _ _ _ _ _ q=>X3 q
theorem U3:OpR X (compareOp .LtE) (rI0 fun i j=>.bl (decide (i≤j))):=opB0 fun _ _ _ _ _ _ _ q=>le_int q
theorem Lx:OpR X (compareOp .Gt) (rI0 fun i j=>.bl (decide (j < i))):=opB0 fun _ _ _ _ _ _ _ q=>gt_int q
theorem ZzX:OpR X (compareOp .GtE) (rI0 fun i j=>.bl (decide (j≤i))):=opB0 fun _ _ _ _ _ _ _ q=>ge_int q
theorem Zu:OpR X (compareOp .Is) (fun x y H Q=>y=.non∧Q (.bl (decide (x=.non))) H):=by
 intro pins s σ H x y v u Q I rx ry h;obtain⟨rfl,q⟩:=h
 cases ry
 refine is_none_gen (Dc I q ?_)
 cases x <;> first
  | (cases rx; rfl)
  | (obtain⟨t,rfl⟩:=rx; rfl)
theorem U4:OpR X (compareOp .IsNot) (fun x y H Q=>y=.non∧Q (.bl (!decide (x=.non))) H):=by
 intro pins s σ H x y v u Q I rx ry h;obtain⟨rfl,q⟩:=h
 cases ry
 refine isnot_none_gen (Dc I q ?_)
 cases x <;> first
  | (cases rx; rfl)
  | (obtain⟨t,rfl⟩:=rx; rfl)
theorem OpR.or {f:Ab→Ab→Sem Ab} {r r':R2} (h:OpR X f r) (h':OpR X f r'):OpR X f (fun x y H Q=>r x y H Q∨r' x y H Q):=by
 intro pins s σ H x y v u Q I rx ry q
 rcases q with q | q
 ·exact h pins s σ H x y v u Q I rx ry q
 ·exact h' pins s σ H x y v u Q I rx ry q
theorem Br (b:Aw) {op:Th} (h:op≠.In:=by decide) (h2:op≠.NotIn:=by decide):behindInMarks op b=false:=by
 have e1:(op == Th.In)=false:=by cases op <;> first | rfl | exact absurd rfl h
 have e2:(op == Th.NotIn)=false:=by cases op <;> first | rfl | exact absurd rfl h2
 cases b <;> simp[behindInMarks,e1,e2]
theorem Jf {op:Th} {r:R2} (ho:OpR X (compareOp op) r) (ha:PE X a ta) (hb:PE X b tb) (hm:behindInMarks op b=false):PE X (.Compare a [op] [b] pos) (tOp r ta tb):=by
 intro pins s σ H Q I h;exact wpAny_Compare1 (binT ha hb I h fun v u s2 x y H2 I2 rx ry q=>ho pins s2 σ H2 x y v u Q I2 rx ry q) hm
noncomputable def U8 (t:TE):TT:=fun σ H Q=>t σ H fun x H'=>∃k,x=.bl k∧Q k H'
theorem BV {op:Th} {r:R2} (ho:OpR X (compareOp op) r) (ha:PE X a ta) (hb:PE X b tb) (hm:behindInMarks op b=false):PT X (.Compare a [op] [b] pos) (U8 (tOp r ta tb)):=by
 intro pins s σ H Q I h
 refine wpAny_isTrue_Compare1 (thn (ha pins s σ H _ I h) fun v s1 ⟨x,H1,I1,r1,q1⟩=>thn (hb pins s1 σ H1 _ I1 q1) fun u s2 ⟨y,H2,I2,r2,q2⟩=>
  thn (ho pins s2 σ H2 x y v u _ I2 r1 r2 q2) fun c s3 ⟨z,H3,I3,r3,k,e,q3⟩=>?_) hm
 subst e
 cases r3
 exact M3 ⟨H3,I3,q3⟩
noncomputable def Zv (r r':R2) (ta tb tc:TE):TE:=fun σ H Q=>ta σ H fun x H1=>tb σ H1 fun y H2=>r x y H2 fun z H3=>∃k,z=.bl k∧
 (if k=true then tc σ H3 fun w' H4=>r' y w' H4 Q else Q (.bl false) H3)
theorem Zux {op op':Th} {r r':R2} (ho:OpR X (compareOp op) r) (ho':OpR X (compareOp op') r') (ha:PE X a ta) (hb:PE X b tb) (hc:PE X c tc)
  (hm:lastMarks [op,op'] [b,c]=false:=by with_unfolding_all rfl):PE X (.Compare a [op,op'] [b,c] pos) (Zv r r' ta tb tc):=by
 intro pins s σ H Q I h
 refine Compare_chain (thn (ha pins s σ H _ I h) fun v s1 ⟨x,H1,I1,r1,q1⟩=>chain_link (thn (hb pins s1 σ H1 _ I1 q1) fun u s2 ⟨y,H2,I2,r2,q2⟩=>
  thn (ho pins s2 σ H2 x y v u _ I2 r1 r2 q2) fun d s3 ⟨z,H3,I3,r3,k,e,q3⟩=>?_)) hm
 subst e
 cases r3
 refine M3 ?_
 cases k with
 | false=>exact ite_ff ⟨.bl false,H3,I3,rfl,q3⟩
 | true=>exact ite_tt (chain_last (thn (hc pins s3 σ H3 _ I3 q3) fun w' s4 ⟨z',H4,I4,r4,q4⟩=>ho' pins s4 σ H4 y z' u w' Q I4 r2 r4 q4))
theorem Zpl {op op':Th} {r r':R2} (ho:OpR X (compareOp op) r) (ho':OpR X (compareOp op') r') (ha:PE X a ta) (hb:PE X b tb) (hc:PE X c tc)
  (hm:lastMarks [op,op'] [b,c]=false:=by with_unfolding_all rfl):PT X (.Compare a [op,op'] [b,c] pos) (U8 (Zv r r' ta tb tc)):=by
 intro pins s σ H Q I h
 refine isTrue_chain (thn (ha pins s σ H _ I h) fun v s1 ⟨x,H1,I1,r1,q1⟩=>test_link (thn (hb pins s1 σ H1 _ I1 q1) fun u s2 ⟨y,H2,I2,r2,q2⟩=>
  thn (ho pins s2 σ H2 x y v u _ I2 r1 r2 q2) fun d s3 ⟨z,H3,I3,r3,k,e,q3⟩=>?_)) hm
 subst e
 cases r3
 refine M3 ?_
 cases k with
 | false=>
  obtain⟨k',e',q'⟩:=q3
  cases e'
  exact ite_ff ⟨H3,I3,q'⟩
 | true=>
  refine ite_tt (test_last (thn (hc pins s3 σ H3 _ I3 q3) fun w' s4 ⟨z',H4,I4,r4,q4⟩=>thn (ho' pins s4 σ H4 y z' u w' _ I4 r2 r4 q4) fun d' s5 ⟨z2,H5,I5,r5,k2,e2,q5⟩=>?_));subst e2
  cases r5
  exact M3 ⟨H5,I5,q5⟩
def TruV (K:Ao) (x:V) (H:Hp) (k:Bool):Prop:=
 match x with
 | .non=>k=false
 | .bl b=>k=b
 | .int i=>k=(i != 0)
 | .str y=>y.length≤Bk∧k=((y.length:Int) != 0)
 | .byt y=>y.size≤Bk∧k=((y.size:Int) != 0)
 | .ref p=>(∃xs,SqL K H p xs∧k = !xs.isEmpty)∨(∃xs,SqT K H p xs∧k = !xs.isEmpty)∨∃kvs,H p=some (.dK kvs)∧k = !kvs.isEmpty
 | _=>False
theorem Zp4 {κ:Type} {kvs:List (κ×V)} {vs:List (κ×Ab)} (r:KV kvs vs):(!vs.isEmpty) = !kvs.isEmpty:=by
 cases r <;> rfl
theorem Zk4 {xs:List V} {its:List Ab} (r:Vals xs its):(!its.toArray.isEmpty) = !xs.isEmpty:=by
 cases r <;> simp
theorem NP:(Bk:Nat) < 2 ^ 63:=by rw[Iu]; decide
theorem Zwc:TruR X (fun x H Q=>∃k,TruV X.K x H k∧Q k H):=by
 intro pins s σ H x v Q I rx h;obtain⟨k,e,q⟩:=h;have hl:=NP;have hs:Bk=16777216:=Iu
 cases x with
 | non=>
  cases rx
  have e':k=false:=e;subst e';exact truthy_none ⟨H,I,q⟩
 | bl b=>
  cases rx
  have e':k=b:=e;subst e';exact M3 ⟨H,I,q⟩
 | int i=>
  obtain⟨t,rfl⟩:=rx;have e':k=(i != 0):=e;subst e';exact PySem.P.truthy_int ⟨H,I,q⟩
 | str y=>
  obtain⟨t,rfl⟩:=rx;obtain⟨hy,e'⟩ : y.length≤Bk∧k=((y.length:Int) != 0):=e;subst e';exact PySem.P.truthy_str (by omega) ⟨H,I.tok _,q⟩
 | byt y=>
  obtain⟨t,rfl⟩:=rx;obtain⟨hy,e'⟩ : y.size≤Bk∧k=((y.size:Int) != 0):=e;subst e';exact PySem.W.truthy_bytes (by omega) ⟨H,I.tok _,q⟩
 | ref p=>
  cases rx
  have e':(∃xs,SqL X.K H p xs∧k = !xs.isEmpty)∨(∃xs,SqT X.K H p xs∧k = !xs.isEmpty)∨∃kvs,H p=some (.dK kvs)∧k = !kvs.isEmpty:=e
  rcases e' with⟨xs,hx,e'⟩ | ⟨xs,hx,e'⟩ | ⟨kvs,hx,e'⟩
  ·subst e'
   obtain⟨its,r,pl,hz⟩:=I.list hx;have hlen:=r.length;exact wpAny_truthy_list pl.isList (by simp only [Cu]; omega) ⟨H,I.tok _,by rw[Zk4 r]; exact q⟩
  ·subst e'
   obtain⟨its,r,pl,hz⟩:=I.tuple hx;have hlen:=r.length;exact truthy_tuple pl (by simp only [Cu]; omega) ⟨H,I.tok _,by rw[Zk4 r]; exact q⟩
  ·subst e'
   obtain⟨hz,hS,vs,r,m⟩ : kvs.length≤Bk∧(p == sysModules)=false∧∃vs,KV kvs vs∧s.heap.DictOf (Gb X.prog X.w) p vs:=I.hok p _ hx;have hlen:kvs.length=vs.length:=K1 r;exact wpAny_truthy_dict hS m (by omega) ⟨H,I.tok _,by rw[Zp4 r]; exact q⟩
 | _=>exact(show False from e).elim
theorem CK (ha:PE X a ta) (he:∀whole,isTrue a X.env whole=(do let v ←whole; standAt a.pos; holding [v] (truthy v))) :
  PT X a (fun σ H Q=>ta σ H fun x H'=>∃k,TruV X.K x H' k∧Q k H'):=by
 intro pins s σ H Q I h;exact isTrue_plain (thn (ha pins s σ H _ I h) fun v s1 ⟨x,H1,I1,r1,q1⟩=>Zwc pins s1 σ H1 x v Q I1 r1 q1) (he _)
theorem Zqm:OpR X (binaryOp .Add) (fun x y H Q=>∃i j,x=.str i∧y=.str j∧i.length+j.length≤Bk∧Q (.str (i++j)) H):=by
 intro pins s σ H x y v u Q I rx ry h;obtain⟨i,j,rfl,rfl,hz,q⟩:=h;obtain⟨t,rfl⟩:=rx;obtain⟨t',rfl⟩:=ry;exact add_str (fun t' tk=>⟨.str (i++j),H,I.tok _,⟨_,rfl⟩,q⟩) hz
theorem Jy {x:V} {us:List Ab} (r:Vals [x] us):∃u,us=[u]∧RelV x u:=by
 cases r with
 | cons r1 r2=>cases r2; exact⟨_,rfl,r1⟩
theorem Zzv {x y:V} {us:List Ab} (r:Vals [x,y] us):∃u w',us=[u,w']∧RelV x u∧RelV y w':=by
 cases r with
 | cons r1 r2=>
  cases r2 with
  | cons r3 r4=>cases r4; exact⟨_,_,rfl,r1,r3⟩
def LenV (K:Ao) (x:V) (H:Hp) (n:Nat):Prop:=
 match x with
 | .str y=>y.length≤Bk∧n=y.length
 | .byt y=>y.size≤Bk∧n=y.size
 | .ref p=>(∃xs,SqL K H p xs∧n=xs.length)∨∃xs,SqT K H p xs∧n=xs.length
 | _=>False
theorem ZtJ:Ha X (.builtin "len") (fun xs H Q=>∃x n,xs=[x]∧LenV X.K x H n∧Q (.int n) H):=by
 intro pins s σ H xs us Q I r h;obtain⟨x,n,rfl,e,q⟩:=h;obtain⟨u,rfl,rx⟩:=Jy r;have hl:=NP;have hs:Bk=16777216:=Iu
 cases x with
 | str y=>
  obtain⟨t,rfl⟩:=rx;obtain⟨hy,e'⟩ : y.length≤Bk∧n=y.length:=e;subst e';exact len_str (by omega) ⟨.int _,H,I.tok _,⟨_,rfl⟩,q⟩
 | byt y=>
  obtain⟨t,rfl⟩:=rx;obtain⟨hy,e'⟩ : y.size≤Bk∧n=y.size:=e;subst e';exact PySem.W.len_bytes (by omega) ⟨.int _,H,I.tok _,⟨_,rfl⟩,q⟩
 | ref p=>
  cases rx
  have e':(∃xs,SqL X.K H p xs∧n=xs.length)∨∃xs,SqT X.K H p xs∧n=xs.length:=e
  rcases e' with⟨xs,hx,e'⟩ | ⟨xs,hx,e'⟩
  ·subst e'
   obtain⟨its,r',pl,hz⟩:=I.list hx;have hlen:=r'.length;exact Calls.call_len_list pl.isList (by simp only [Cu]; omega) ⟨.int xs.length,H,I.tok _,⟨_,by simp only [Cu]; rw[hlen]⟩,q⟩
  ·subst e'
   obtain⟨its,r',pl,hz⟩:=I.tuple hx;have hlen:=r'.length;exact len_tuple pl (by simp only [Cu]; omega) ⟨.int xs.length,H,I.tok _,⟨_,by simp only [Cu]; rw[hlen]⟩,q⟩
 | _=>exact(show False from e).elim
end
end L2
namespace L2
open PySem PySem.Spec PyProof.Rows
structure ObjM (h:Ar) (x dx C:Aa) (mA:Str→Option Ab):Prop where
 obj:h.get? x=some (K3 C dx)
 ns:h.Ns1 dx mA
 ne:dx≠x
theorem ZrY {h:Ar} {dx:Aa} {mA:Str→Option Ab} (n:h.Ns1 dx mA):∃od,h.get? dx=some od∧∀name,X4 name od=some (mA name):=by
 obtain⟨o,es,ep,ho,hd,hk,_,hm⟩:=n;refine⟨o,ho,fun name=>?_⟩;have e:=hm name;unfold nsFind findBy at e;rw[←Array.find?_toList]at e;unfold X4;rw[hd]
 dsimp only
 split
 ·rename_i y q
  rw[q]at e;exact congrArg some e
 ·rename_i q
  rw[q]at e
  have a:es.toList.any (·.refKey)=false:=by
   rw[List.any_eq_false];intro y hy;obtain⟨z,t,hkey⟩:=hk y (Array.mem_toList_iff.mp hy);simp[K8.refKey,hkey]
  have a' : ¬es.toList.any (·.refKey)=true:=by rw[a]; exact Cg
  rw[if_neg a'];exact congrArg some e
theorem ObjM.look {h:Ar} {x dx C:Aa} {mA:Str→Option Ab} (I:ObjM h x dx C mA):∃od,PySem.W.InstAt h x (K3 C dx) C (some od)∧∀name,X4 name od=some (mA name):=
 let ⟨od,ho,hl⟩:=ZrY I.ns
 ⟨od,⟨I.obj,rfl,rfl,ho⟩,hl⟩
section
variable {prog:Ay} {w:Av} {A:Bp} {E:Ab→Ae→Prop} {s:Ae} {K:Ao} {x dx C f:Aa} {mA:Str→Option Ab} {name:Str} {v:Ab}
theorem Zwz {expr:Bool} {Q:Ab→Ae→Prop} (X:K.In s.heap) (I:ObjM s.heap x dx C mA) (hg:Rm K C name=true) (hh:Ti K C=true)
  (ha:Cq K (.ref C) name=some none) (hv:mA name=some v) (hv':YaB v=true) (h:Q v { s with toks:=s.toks+1 }) :
  Ai (model prog w) A (getAttr (.ref x) name expr) Q E s:=by
 obtain⟨od,J,hl⟩:=I.look;exact PySem.W.get_value X J (ut hg).1 (PySem.W.findObj_own hh ha rfl (by rw[hl,hv])) hv' h
theorem ZtS {pl:Sem Bool} {Q:Ab×List Ab→Ae→Prop} (X:K.In s.heap) (I:ObjM s.heap x dx C mA) (hg:Rm K C name=true)
  (hf:Cq K (.ref C) name=some (some (.ref f))) (ht:FN K (.ref f)=true) (hv:mA name=none) (h:Q (.ref f,[.ref x]) s) :
  Ai (model prog w) A (getMethod (.ref x) name pl) Q E s:=by
 obtain⟨od,J,hl⟩:=I.look;exact PySem.W.method_fn X J (ut hg).1 (ut hg).2 hf (beq_iff_eq.mp ht) (by show(X4 name od).map (·.isSome)=some false; rw[hl,hv]; rfl) h
theorem Zxj {ns:List Str} {Q:Unit→Ae→Prop} (X:K.In s.heap) (I:ObjM s.heap x dx C mA)
  (hs:Cq K (.ref C) "__setattr__" = some (some (.builtin "object.__setattr__"))) (hp:X5 K C=true) (ht:uv K C name=some none) (hh:Ti K C=true)
  (hw:uh mA ns) (hsz:ns.length≤Bk)
  (h:∀h',ObjM h' x dx C (fun y=>if y=name then some v else mA y)→HX dx s.heap h'→Q () { s with heap:=h',toks:=s.toks+2 }) :
  Ai (model prog w) A (setAttr (.ref x) name v) Q E s:=by
 obtain⟨od,J,hl⟩:=I.look;refine PySem.W.set_plain X J hs (PySem.W.osa_open (s:={ s with toks:=s.toks+1 }) (r:=none) X J hp ht fun b=>?_);obtain⟨cd,hc,hd'⟩:=PySem.W.any_some hh;have hx:s.heap.get? x=some ⟨.ref C,some dx,.plain,#[]⟩:=I.obj;refine Af (Aq (Af (Af (wpAny_loadPart hx (Af (Ydh (s:={ s with toks:=s.toks+1 }) (PySem.W.looks_clsIn X hc) ?_))))));rw[hd'];refine Aq (a:=some dx) (Af (Aq (Af ?_)));refine wpAny_nsSet1 (s:={ s with toks:=s.toks+1 }) I.ns fun h' hn2 hs2=>?_;obtain⟨oD,esD,epD,hoD,hdD,hcD⟩:=hn2.count (Ydi name v hw);refine Af (wpAny_lookBehind hoD (by rw[hdD]; exact pastItsLine_dict (Eb hcD (by rw[Ds]; omega))) ?_);exact Aq (h _ ⟨(hs2.2 _ (DX I.ne)).trans I.obj,hn2,I.ne⟩ hs2)
theorem Zuh {R:K5→Ae→Prop} {vs:List Ab} {kw:List (Str×Ab)} (X:K.In s.heap) (hm:X6 K C=true)
  (hi:Cq K (.ref C) "__init__" = some (some (.ref f))) (hf:PySem.W.typeIn K (.ref f)=some (.type "function"))
  (h:codeAny (model prog w) (A.under (.builtin "type.__call__" ⟨.ref C::vs,kw⟩)) (.call (.ref f) ⟨.ref (s.heap.objs.size+1)::vs,kw⟩) (PySem.W.InitBack (s.heap.objs.size+1) R)
   { s with heap:=(s.heap.push J4).push (K3 C s.heap.objs.size) }) :
  codeAny (model prog w) A (.call (.ref C) ⟨vs,kw⟩) R s:=by
 obtain⟨hh,g,d,t,os⟩:=s;exact PySem.W.make_core (PySem.W.makes_of X hm) (PySem.W.looks_findIn X hi) (fun self=>PySem.W.bind_fn X self hf) (.inl rfl) h
end
noncomputable def putF (f:Str) (v:V):List (Str×V)→List (Str×V)
 | []=>[(f,v)]
 | (g,x)::r=>if g=f then(g,v)::r else(g,x)::putF f v r
theorem Dv (f g:Str) (v:V):∀fs:List (Str×V),(putF f v fs).lookup g=if g=f then some v else fs.lookup g
 | []=>by
  show M7 g [(f,v)]=_
  by_cases h:g=f
  ·have hb:(g == f)=true:=beq_iff_eq.mpr h
   simp only [M7,hb,if_pos h]
  ·have hb:(g == f)=false:=beq_eq_false_iff_ne.mpr h
   simp only [M7,hb,if_neg h]
 | (k,x)::r=>by
  have ih:=Dv f g v r;rw[show putF f v ((k,x)::r)=(if k=f then(k,v)::r else(k,x)::putF f v r) from rfl]
  by_cases hk:k=f
  ·rw[if_pos hk]
   by_cases h:g=k
   ·have hb:(g == k)=true:=beq_iff_eq.mpr h
    simp only [M7,hb,if_pos (h.trans hk)]
   ·have hb:(g == k)=false:=beq_eq_false_iff_ne.mpr h
    simp only [M7,hb,if_neg (fun e:g=f=>h (e.trans hk.symm))]
  ·rw[if_neg hk]
   by_cases h:g=k
   ·have hb:(g == k)=true:=beq_iff_eq.mpr h
    simp only [M7,hb,if_neg (fun e:g=f=>hk (h.symm.trans e))]
   ·have hb:(g == k)=false:=beq_eq_false_iff_ne.mpr h
    simp only [M7,hb];exact ih
theorem Zw (f:Str) (v:V):∀fs:List (Str×V),f∈(putF f v fs).map (·.1)∧∀g,g∈fs.map (·.1)→g∈(putF f v fs).map (·.1)
 | []=>⟨by simp[putF],fun g h=>by simp at h⟩
 | (k,x)::r=>by
  obtain⟨i1,i2⟩:=Zw f v r;rw[show putF f v ((k,x)::r)=(if k=f then(k,v)::r else(k,x)::putF f v r) from rfl]
  by_cases hk:k=f
  ·rw[if_pos hk]
   subst hk;exact⟨by simp,fun g h=>by simpa using h⟩
  ·rw[if_neg hk]
   refine⟨?_,fun g h=>?_⟩
   ·rw[Cv]
    exact Et _ i1
   ·rw[Cv]at h ⊢
    rcases CZ.mp h with e | e
    ·exact CZ.mpr (.inl e)
    ·exact Et _ (i2 g e)
theorem ZjD (f:Str) (v:V):∀fs:List (Str×V),(putF f v fs).length≤fs.length+1
 | []=>by simp[putF]
 | (k,x)::r=>by
  have ih:=ZjD f v r;rw[show putF f v ((k,x)::r)=(if k=f then(k,v)::r else(k,x)::putF f v r) from rfl]
  by_cases hk:k=f
  ·rw[if_pos hk,Ds,Ds]; omega
  ·rw[if_neg hk,Ds,Ds]; omega
theorem RelO.some_of {v:V} {o:Option Ab} (r:RelO (some v) o):∃u,o=some u∧RelV v u:=by
 cases o with
 | none=>exact(show False from r).elim
 | some u=>exact⟨u,rfl,r⟩
theorem RelO.none_of {o:Option Ab} (r:RelO none o):o=none:=by
 cases o with
 | none=>rfl
 | some u=>exact(show False from r).elim
theorem Zrn {v:V} {u:Ab} (r:RelV v u):YaB u=true:=by
 cases v with
 | non=>cases (show u=Dd from r); rfl
 | bl b=>cases (show u=J3 b from r); rfl
 | int i=>obtain⟨t,e⟩:=(show ∃t,u=GR i t from r); cases e; rfl
 | str x=>obtain⟨t,e⟩:=(show ∃t,u=Te x t from r); cases e; rfl
 | byt b=>obtain⟨t,e⟩:=(show ∃t,u=Yar b t from r); cases e; rfl
 | flt b=>obtain⟨t,e⟩:=(show ∃t,u=ug b t from r); cases e; rfl
 | ref a=>cases (show u=Be a from r); rfl
 | ty n=>cases (show u=Fi n from r); rfl
section
variable {P:Ay} {w:Av} {H H':Hp} {h h':Ar} {a C dx:Aa} {fs fs':List (Str×V)}
theorem U9 (hok:HOk P w H h) (e:H a=some (.ins C dx fs)):∃mA,ObjM h a dx C mA∧(∀f,RelO (fs.lookup f) (mA f))∧uh mA (fs.map (·.1))∧fs.length≤1000∧H dx=some (.own a):=by
 obtain⟨d,z,ne,ob,mA,n,r,q⟩:=(show Ck P w H h a (.ins C dx fs) from hok a _ e);exact⟨mA,⟨ob,n,ne⟩,r,q,z,d⟩
end
structure Cls (K:Ao) (C:Aa):Prop where
 pg:Rm K C uw=true
 hd:Ti K C=true
 po:X5 K C=true
 sa:Cq K (.ref C) "__setattr__" = some (some (.builtin "object.__setattr__"))
theorem Cls.get {K:Ao} {C:Aa} (c:Cls K C) (f:Str):Rm K C f=true:=c.pg
def Fy (K:Ao) (C:Aa) (f:Str):Prop:=Cq K (.ref C) f=some none
theorem Fy.taker {K:Ao} {C:Aa} {f:Str} (n:Fy K C f):uv K C f=some none:=by
 unfold uv;rw[show Cq K (.ref C) f=some none from n];rfl
structure Meth (K:Ao) (C:Aa) (m:Str) (f:Aa):Prop where
 at_:Cq K (.ref C) m=some (some (.ref f))
 fn:FN K (.ref f)=true
 kp:Iv K (.ref f)=true
section
variable {X:Cx} {pins:List (Aa×Obj)} {σ:St} {H:Hp} {s:Ae} {a C dx:Aa} {fs:List (Str×V)} {f:Str} {v:V} {A:Bp} {E:Ab→Ae→Prop}
theorem Zp0 {b:Bool} {Q:Ab→Ae→Prop} (I:Inv X pins σ H s) (e:H a=some (.ins C dx fs)) (c:Cls X.K C) (n:Fy X.K C f) (l:fs.lookup f=some v)
  (h:∀u s',Inv X pins σ H s'→RelV v u→Q u s'):Ai (model X.prog X.w) A (getAttr (.ref a) f b) Q E s:=by
 obtain⟨mA,O,r,_,_,_⟩:=U9 I.hok e;obtain⟨u,hu,ru⟩:=RelO.some_of (v:=v) (o:=mA f) (by rw[←l]; exact r f);exact Zwz I.kIn O (c.get f) c.hd n hu (Zrn ru) (h u _ (I.tok _) ru)
theorem Zx {m:Str} {g:Aa} {pl:Sem Bool} {Q:Ab×List Ab→Ae→Prop} (I:Inv X pins σ H s) (e:H a=some (.ins C dx fs)) (c:Cls X.K C) (k:Meth X.K C m g) (l:fs.lookup m=none)
  (h:Q (.ref g,[.ref a]) s):Ai (model X.prog X.w) A (getMethod (.ref a) m pl) Q E s:=by
 obtain⟨mA,O,r,_,_,_⟩:=U9 I.hok e;have hn:mA m=none:=RelO.none_of (by rw[←l]; exact r m);exact ZtS I.kIn O (c.get m) k.at_ k.fn hn h
theorem Zqr {y:V} {u:Ab} {Q:Unit→Ae→Prop} (I:Inv X pins σ H s) (e:H a=some (.ins C dx fs)) (c:Cls X.K C) (n:Fy X.K C f) (hl:fs.length < 1000) (ry:RelV y u)
  (h:∀s',Inv X pins σ (upd H a (.ins C dx (putF f y fs))) s'→Q () s'):Ai (model X.prog X.w) A (setAttr (.ref a) f u) Q E s:=by
 obtain⟨mA,O,r,wi,_,ho⟩:=U9 I.hok e
 have hz:(fs.map (·.1)).length≤Bk:=by rw[Az,Iu]; omega
 refine Zxj I.kIn O c.sa c.po n.taker c.hd wi hz fun h' O' sb=>h _ ?_;have hd:∃o,h'.get? dx=some o:=let ⟨o,_,_,e',_⟩:=O'.ns; ⟨o,e'⟩;refine I.write (x:=a) (e:=dx) (by rw[e]; exact Jr) (.inr ho) (fun b q hb z=>(sb.2 b hb).trans z) hd ?_;refine⟨by rw[Bo O.ne]; exact ho,?_,O.ne,O'.obj,_,O'.ns,fun g=>?_,fun g hg=>?_⟩
 ·have:=ZjD f y fs; omega
 ·show RelO ((putF f y fs).lookup g) (if g=f then some u else mA g)
  rw[Dv]
  by_cases q:g=f
  ·rw[if_pos q,if_pos q]; exact ry
  ·rw[if_neg q,if_neg q]; exact r g
 ·by_cases q:g=f
  ·rw[q]; exact(Zw f y fs).1
  ·refine(Zw f y fs).2 g (wi g fun z=>hg ?_)
   show(if g=f then some u else mA g)=none;rw[if_neg q]; exact z
theorem Inv.made (I:Inv X pins σ H s):Inv X pins σ (upd (upd H s.heap.objs.size (.own (s.heap.objs.size+1))) (s.heap.objs.size+1) (.ins C s.heap.objs.size []))
  { s with heap:=(s.heap.push J4).push (K3 C s.heap.objs.size) }:=by
 have e1:(s.heap.push J4).get? s.heap.objs.size=some J4:=CT s.heap rfl
 have e2:((s.heap.push J4).push (K3 C s.heap.objs.size)).get? (s.heap.objs.size+1)=some (K3 C s.heap.objs.size):=by
  have:=CT (s.heap.push J4) (o:=K3 C s.heap.objs.size) rfl
  rwa [J5]at this
 have e3:(s.heap.push J4).Ns s.heap.objs.size (fun _=>none):=⟨J4,#[],_,e1,rfl,(fun e he=>absurd he (by simp)),fun _=>rfl⟩;have I1:=I.laid (a:=s.heap.objs.size) (o:=.own (s.heap.objs.size+1)) (h':=s.heap.push J4) (t':=s.toks) (fun b u q=>BK _ q) (Ax _) ⟨_,e1⟩;refine I1.laid (a:=s.heap.objs.size+1) (o:=.ins C s.heap.objs.size []) (t':=s.toks) (fun b u q=>BK _ q) (YaC (J5 _ _)) ?_;have ne:s.heap.objs.size≠s.heap.objs.size+1:=Ce (Tj _);refine⟨by rw[Bo ne,Cp],Cy _,ne,e2,fun _=>none,(Ar.Ns1.of_empty e3).at fun o q=>BK _ q,fun _=>Jr,fun y hy=>absurd rfl hy⟩
theorem Zwm {prog:Ay} {w:Av} {env:Env} {e:Aw} {f:Str} {pos:Pos} {s:Ae} {Q:Ab→Ae→Prop} (hb:attributeBase e f env (eval e env)=eval e env)
  (h:Ai (model prog w) A (eval e env) (fun o s₁=>Ai (model prog w) A (getAttr o f true) Q E s₁) E s):Ai (model prog w) A (eval (.Attribute e f pos) env) Q E s:=
 Attribute_any_ h (by rw[arm_eval_Attribute,hb])
end
noncomputable def tFld (K:Ao) (ta:TE) (f:Str):TE:=fun σ H Q=>ta σ H fun x H1=>∃a C dx fs v,x=.ref a∧H1 a=some (.ins C dx fs)∧Cls K C∧Fy K C f∧fs.lookup f=some v∧Q v H1
noncomputable def sFld (K:Ao) (ta tv:TE) (f:Str):TS:=fun D σ H=>tv σ H fun y H1=>ta σ H1 fun x H2=>∃a C dx fs,x=.ref a∧H2 a=some (.ins C dx fs)∧Cls K C∧Fy K C f∧fs.length < 1000∧
 D.nx σ (upd H2 a (.ins C dx (putF f y fs)))
section
variable {X:Cx} {o e value:Aw} {f:Str} {pos pos' tpos:Pos} {ta tv:TE}
theorem Cw (he:PE X e ta) (hb:attributeBase e f X.env (eval e X.env)=eval e X.env):PE X (.Attribute e f pos) (tFld X.K ta f):=by
 intro pins s σ H Q I h;refine Zwm hb (thn (he pins s σ H _ I h) fun u s1 ⟨x,H1,I1,rx,a,C,dx,fs,v,ex,ea,c,n,l,q⟩=>?_);subst ex;obtain rfl:u=Be a:=rx;exact Zp0 I1 ea c n l fun u' s2 I2 ru=>⟨v,H1,I2,ru,q⟩
theorem Ks (ha:PE X o ta) (hv:PE X value tv) (hs:swapsWith value (some (.Attribute o f pos')) pos.line X.env=pure false):PS X (.Assign [.Attribute o f pos'] value pos) (sFld X.K ta tv f):=by
 intro pins s σ H D I h;refine plainObj_wpAny_Assign_Attribute (thn (hv pins s σ H _ I h) fun u s1 ⟨y,H1,I1,ry,q⟩=>thn (ha pins s1 σ H1 _ I1 q) fun ov s2 ⟨x,H2,I2,rx,a,C,dx,fs,ex,ea,c,n,l,q2⟩=>?_) hs;subst ex;obtain rfl:ov=Be a:=rx;exact Zqr I2 ea c n l ry fun s3 I3=>⟨σ,_,I3,q2⟩
end
section
variable {X:Cx} {pins:List (Aa×Obj)} {σ:St} {H:Hp} {s:Ae} {A:Bp} {E:Ab→Ae→Prop} {Q:Ab→Ae→Prop} {c:Ab} {b:Bool}
inductive TyOf (K:Ao) (H:Hp):V→Ab→Prop where
 | non:TyOf K H .non (.type "NoneType")
 | bl (x:Bool):TyOf K H (.bl x) (.type "bool")
 | int (i:Int):TyOf K H (.int i) (.type "int")
 | str (x:Str):TyOf K H (.str x) (.type "str")
 | flt (x:UInt64):TyOf K H (.flt x) (.type "float")
 | lst {a:Aa} {xs:List V} (e:H a=some (.lst xs)):TyOf K H (.ref a) (.type "list")
 | frz {a:Aa} {o:Obj} {xs:List V} (e:H a=some (.frz o (.lst xs))):TyOf K H (.ref a) (.type "list")
 | tup {a:Aa} {xs:List V} (e:H a=some (.tup xs)):TyOf K H (.ref a) (.type "tuple")
 | dK {a:Aa} {kvs:List (Key×V)} (e:H a=some (.dK kvs)):TyOf K H (.ref a) (.type "dict")
 | dT {a:Aa} {kvs:List (List Key×V)} (e:H a=some (.dT kvs)):TyOf K H (.ref a) (.type "dict")
 | ins {a C dx:Aa} {fs:List (Str×V)} (e:H a=some (.ins C dx fs)) (cl:Cls K C) (ha:Cq K (.ref C) "__class__" = some (some (.builtin "object.__class__")))
   (hn:PySem.W.specialIn K (.builtin "object.__class__") "__get__" = some (some (.builtin "getset_descriptor.__get__"))) (htk:PySem.W.takesIn K (.builtin "object.__class__")=some true)
   (hm:M8 K C (.type "object")=some true):TyOf K H (.ref a) (.ref C)
theorem Zm0 {x:V} {u t:Ab} (I:Inv X pins σ H s) (rx:RelV x u) (ty:TyOf X.K H x t) (e:J6 X.K t c=some b) (h:∀tk,Q (.bool b) { s with toks:=tk }) :
  Ai (model X.prog X.w) A (call (.builtin "isinstance") [u,c]) Q E s:=by
 cases ty with
 | non=>cases (show u=Dd from rx); exact Iw PySem.W.kitx_none I.kIn Jr e (fun z=>nomatch z) h
 | bl y=>cases (show u=J3 y from rx); exact Iw PySem.W.kitx_bool I.kIn Jr e (fun z=>nomatch z) h
 | int i=>obtain⟨t,q⟩:=(show ∃t,u=GR i t from rx); cases q; exact Iw PySem.W.kitx_int I.kIn Jr e (fun z=>nomatch z) h
 | str y=>obtain⟨t,q⟩:=(show ∃t,u=Te y t from rx); cases q; exact Iw PySem.W.kitx_str I.kIn Jr e (fun z=>nomatch z) h
 | flt y=>obtain⟨t,q⟩:=(show ∃t,u=ug y t from rx); cases q; exact Iw PySem.W.kitx_float I.kIn Jr e (fun z=>nomatch z) h
 | @lst a xs ea=>
  cases (show u=Be a from rx)
  obtain⟨_,_,n,_,h1⟩:=(show Ck X.prog X.w H s.heap a (.lst xs) from I.hok a _ ea);exact Iw YaD I.kIn ⟨_,h1,rfl⟩ e (fun z=>nomatch z) h
 | @frz a ob xs ea=>
  cases (show u=Be a from rx)
  obtain⟨_,_,_,n,_,h1⟩:=(show Ck X.prog X.w H s.heap a (.frz ob (.lst xs)) from I.hok a _ ea);exact Iw YaD I.kIn ⟨_,h1,rfl⟩ e (fun z=>nomatch z) h
 | @tup a xs ea=>
  cases (show u=Be a from rx)
  obtain⟨_,_,_,p⟩:=(show Ck X.prog X.w H s.heap a (.tup xs) from I.hok a _ ea);obtain⟨o,h1,h2,_⟩:=p;exact Iw PySem.W.kitx_tuple I.kIn ⟨o,h1,h2⟩ e (fun z=>nomatch z) h
 | @dK a kvs ea=>
  cases (show u=Be a from rx)
  obtain⟨_,_,vs,_,p⟩:=(show Ck X.prog X.w H s.heap a (.dK kvs) from I.hok a _ ea);obtain⟨o,es,ep,h1,h2,_⟩:=p;exact Iw YaE I.kIn ⟨o,h1,h2.1⟩ e (fun z=>nomatch z) h
 | @dT a kvs ea=>
  cases (show u=Be a from rx)
  obtain⟨_,_,xs,_,o,es,ep,h1,h2,_⟩:=(show Ck X.prog X.w H s.heap a (.dT kvs) from I.hok a _ ea);exact Iw YaE I.kIn ⟨o,h1,h2.1⟩ e (fun z=>nomatch z) h
 | @ins a C dx fs ea cl ha hn htk hm=>
  cases (show u=Be a from rx)
  obtain⟨mA,O,_⟩:=U9 I.hok ea;obtain⟨od,J,_⟩:=O.look;exact Iw (PySem.W.kitx_own (cl.get _) cl.hd ha hn htk hm) I.kIn J e (fun z=>nomatch z) h
end
end L2
namespace L2
open PySem PySem.Spec PyProof.Rows
structure Room (k:Nat) (A:Bp):Prop where
 hd:A.handled=none
 dp:A.depth+3 * k+5 < recursionLimit
 un:A.units+16 * k+200 < cLine
theorem Room.mono {j k:Nat} {A:Bp} (r:Room k A) (h:j≤k):Room j A:=⟨r.hd,by have:=r.dp; omega,by have:=r.un; omega⟩
theorem Room.deeper {k:Nat} {A:Bp} (r:Room (k+1) A) (env:Env):Room k (A.deeper env):=
 ⟨r.hd,by have:=r.dp; show A.depth+1+3 * k+5 < _; omega,by have:=r.un; show A.units+3+16 * k+200 < _; omega⟩
theorem Zqg {A:Bp} {C:Aa} {us:List Ab} {kw:List (Str×Ab)}:(A.under (.builtin "type.__call__" ⟨.ref C::us,kw⟩)).depth=A.depth+1:=by
 first | rfl | simp[ux,Code.weight,Code.isCreation,Code.isGuard,Code.isCaller,YaF,uz,guardIds]
theorem Zqh {A:Bp} {C:Aa} {us:List Ab} {kw:List (Str×Ab)}:(A.under (.builtin "type.__call__" ⟨.ref C::us,kw⟩)).units=A.units+1:=by
 first | rfl | simp[ux,Code.cUnits,YaF,uz]
theorem Room.make {k:Nat} {A:Bp} (r:Room (k+1) A) (C:Aa) (us:List Ab) (kw:List (Str×Ab)):Room k (A.under (.builtin "type.__call__" ⟨.ref C::us,kw⟩)):=
 ⟨r.hd,by have:=r.dp; rw[Zqg]; omega,by have:=r.un; rw[Zqh]; omega⟩
theorem Room.depth {k:Nat} {A:Bp} (r:Room k A):A.depth < recursionLimit:=by have:=r.dp; omega
theorem Room.units {k:Nat} {A:Bp} (r:Room k A):A.units+64 < cLine:=by have:=r.un; omega
noncomputable def tNil:TA:=fun _ H Q=>Q [] H
noncomputable def Jz (ta:TE) (tr:TA):TA:=fun σ H Q=>ta σ H fun x H1=>tr σ H1 fun xs H2=>Q (x::xs) H2
section
variable {X:Cx} {e:Aw} {es:List Aw} {te:TE} {t:TA} {pos:Pos}
theorem Ag:PA X [] tNil:=fun _ _ _ _ H Q I h=>u5 ⟨[],H,I,.nil,h⟩
theorem Ac (ha:PE X e te) (hr:PA X es t) (hs:BW (e::es) X.env=(false,eval e X.env)::BW es X.env:=by rfl):PA X (e::es) (Jz te t):=by
 intro pos pins s σ H Q I h;rw[hs];show Ai _ _ (spliced ((false,eval e X.env)::backTo pos (BW es X.env))) _ _ s;refine u6 (thn (ha pins s σ H _ I h) fun u s1 ⟨x,H1,I1,r1,q1⟩=>?_);exact thn (hr pos pins s1 σ H1 _ I1 q1) fun us s2 ⟨xs,H2,I2,r2,q2⟩=>⟨x::xs,H2,I2,.cons r1 r2,q2⟩
noncomputable def tTup (t:TA):TE:=fun σ H Q=>t σ H fun xs H1=>xs.length≤Bk∧∀p,H1 p=none→Q (.ref p) (upd H1 p (.tup xs))
noncomputable def tLst (t:TA):TE:=fun σ H Q=>t σ H fun xs H1=>xs.length≤Bk∧∀p,H1 p=none→Q (.ref p) (upd H1 p (.lst xs))
theorem Ge {x1} (h:PA X es t):PE X (.Tuple es x1 pos) (tTup t):=by
 intro pins s σ H Q I hq;refine wpAny_Tuple_spliced (thn (h pos pins s σ H _ I hq) fun us s1 ⟨xs,H1,I1,r,z,q⟩=>⟨by rw[←r.length]; exact z,?_⟩);have hf:H1 s1.heap.objs.size=none:=I1.hok.fresh (Ax _);refine⟨.ref s1.heap.objs.size,upd H1 s1.heap.objs.size (.tup xs),I1.laid (t':=s1.toks) (fun b u e=>BK _ e) (Ax _) ?_,rfl,q _ hf⟩;exact⟨z,us,r,⟨_,CT _ rfl,rfl,_,rfl⟩⟩
theorem JB (h:PA X es t):PE X (.List es pos) (tLst t):=by
 intro pins s σ H Q I hq;refine wpAny_List_spliced (thn (h pos pins s σ H _ I hq) fun us s1 ⟨xs,H1,I1,r,z,q⟩=>⟨by rw[←r.length]; exact z,?_⟩);have hf:H1 s1.heap.objs.size=none:=I1.hok.fresh (Ax _);refine⟨.ref s1.heap.objs.size,upd H1 s1.heap.objs.size (.lst xs),I1.laid (t':=s1.toks) (fun b u e=>BK _ e) (Ax _) ?_,rfl,q _ hf⟩;exact⟨z,us,0,r,CT _ rfl⟩
end
noncomputable abbrev Sp:=List V→Hp→VK→XK→Prop
noncomputable abbrev CXT:=List Env→Hp→Ae→XK→Ab→Ae→Prop
structure Env0 (P:Ay) (w:Av) (K:Ao) (mg:Str→Option Ab) (base:Ar) (A:Bp) (outer:List Env) (s:Ae) (H:Hp):Prop where
 frames:A.frames=some outer
 mod:Mod K mg base
 bs:∀b o,base.get? b=some o→s.heap.get? b=some o∧H b=none
 bsz:base.objs.size≤s.heap.objs.size
 funs:s.heap.FunFrames base outer
 frf:∀b∈frs outer,H b=none
 hok:HOk P w H s.heap
 bare:Jq s.gens
def CE (outer:List Env) (P:Ay) (w:Av) (H:Hp) (s:Ae) (Q:VK) (u:Ab) (s':Ae):Prop:=
 ∃v H',s'.os=s.os∧Jq s'.gens∧Un (frs outer) [] H H' s.heap s'.heap∧HOk P w H' s'.heap∧RelV v u∧Q v H'
def CR (CX:CXT) (outer:List Env) (P:Ay) (w:Av) (H:Hp) (s:Ae) (Q:VK) (E:XK) (r:K5) (s':Ae):Prop:=
 match r with
 | .ok (.ret u)=>CE outer P w H s Q u s'
 | .ok _=>False
 | .error e=>CX outer H s E e s'
structure FnOk (P:Ay) (w:Av) (K:Ao) (mg:Str→Option Ab) (base:Ar) (CX:CXT) (k:Nat) (f:Aa) (fd:Bq) (ps:List Str) (sp:Sp):Prop where
 len:∀vs H Q E,sp vs H Q E→vs.length=ps.length
 run:∀(A:Bp) (outer:List Env) (s:Ae) (H:Hp) (args:Args) (us:List Ab) (vs:List V) (Q:VK) (E:XK),Room k A→Env0 P w K mg base A outer s H→Rn s fd args (ps.zip us)→Vals vs us→sp vs H Q E→
  codeAny (model P w) A (.call (.ref f) args) (CR CX outer P w H s Q E) s
theorem Env0.make {P:Ay} {w:Av} {K:Ao} {mg:Str→Option Ab} {base:Ar} {A:Bp} {outer:List Env} {s:Ae} {H:Hp} (e:Env0 P w K mg base A outer s H) (C:Aa) (us:List Ab) (kw:List (Str×Ab)) :
  Env0 P w K mg base (A.under (.builtin "type.__call__" ⟨.ref C::us,kw⟩)) outer s H:=⟨by first | exact e.frames | (simpa [ux,Code.envs,uz,pushEnvs] using e.frames),e.mod,e.bs,e.bsz,e.funs,e.frf,e.hok,e.bare⟩
section
variable {X:Cx} {pins:List (Aa×Obj)} {σ:St} {H:Hp} {s s':Ae}
theorem Inv.env0 (I:Inv X pins σ H s):Env0 X.prog X.w X.K X.mg X.base X.A X.stack s H:=
 ⟨I.ok.frames,I.ok.mod,I.bs,Eb I.ok.bsz I.sz,I.stack,I.stkFree,I.hok,I.bare⟩
theorem Inv.after {Q:VK} {u:Ab} (I:Inv X pins σ H s) (h:CE X.stack X.prog X.w H s Q u s'):EP X pins σ Q u s':=by
 obtain⟨v,H',os,bare,un,hok,r,q⟩:=h;obtain⟨hh,g,d,t,os'⟩:=s';obtain rfl:os'=s.os:=os;exact⟨v,H',I.call (h':=hh) (g':=g) (d':=d) (t':=t) (ch:=[]) un hok bare (fun b z=>absurd z (by simp)),r,q⟩
end
noncomputable def Zy (sp:Sp) (dvs:List V) (E:XK) (t:TA):TE:=fun σ H Q=>t σ H fun vs H1=>sp (vs++dvs) H1 Q E
noncomputable def Zz (C:Aa) (sp:Sp) (dvs:List V) (E:XK) (t:TA):TE:=fun σ H Q=>t σ H fun vs H1=>∀x dx,H1 x=none→H1 dx=none→dx≠x→
 sp (.ref x::(vs++dvs)) (upd (upd H1 dx (.own x)) x (.ins C dx [])) (fun v H2=>v=.non∧Q (.ref x) H2) E
def Bs (K:Ao) (fd:Bq) (ps:List Str) (ds:List Ab):Prop:=
 ∀(s:Ae) (us:List Ab),K.In s.heap→(us++ds).length=ps.length→Rn s fd ⟨us,[]⟩ (ps.zip (us++ds))
theorem Bs.all {K:Ao} {fd:Bq} {ps:List Str} (h:∀us:List Ab,us.length=ps.length→bindArgs fd ⟨us,[]⟩=pure (ps.zip us)):Bs K fd ps []:=fun s us _ hl=>by
 rw[Ed]at hl ⊢;exact .of_eq (h us hl)
def NQ (CX:CXT) (X:Cx) (E:XK):Prop:=∀(pins:List (Aa×Obj)) (σ:St) (H:Hp) (s:Ae) (e:Ab) (s':Ae),Inv X pins σ H s→CX X.stack H s E e s'→X.xe e s'
section
variable {X:Cx} {CX:CXT} {k:Nat} {f C:Aa} {fd:Bq} {ps:List Str} {sp:Sp} {dvs:List V} {ds:List Ab} {E:XK} {x m:Str} {p pos apos:Pos} {e o:Aw} {es:List Aw} {ta:TE} {t:TA}
theorem Va {pins:List (Aa×Obj)} {σ:St} {H:Hp} {s:Ae} {Q:VK} {us:List Ab} {vs:List V} (F:FnOk X.prog X.w X.K X.mg X.base CX k f fd ps sp) (hr:Room k X.A) (hb:Bs X.K fd ps ds) (hd:Vals dvs ds) (hx:NQ CX X E)
  (I:Inv X pins σ H s) (r:Vals vs us) (h:sp (vs++dvs) H Q E):Ai (model X.prog X.w) X.A (call (.ref f) us) (EP X pins σ Q) X.xe s:=by
 have r2:Vals (vs++dvs) (us++ds):=r.append hd
 have hl:(us++ds).length=ps.length:=by rw[←r2.length]; exact F.len _ _ _ _ h
 refine u9 (Ro (F.run X.A X.stack s H ⟨us,[]⟩ (us++ds) (vs++dvs) Q E hr I.env0 (hb s us I.kIn hl) r2 h) fun r s' hq=>?_)
 cases r with
 | error e=>exact hx pins σ H s e s' I hq
 | ok fl=>
  cases fl with
  | ret u=>exact I.after hq
  | next=>exact Gj hq
  | brk=>exact Gj hq
  | cont=>exact Gj hq
theorem Zsj (F:FnOk X.prog X.w X.K X.mg X.base CX k f fd ps sp) (hr:Room k X.A) (hg:Gl X x) (hm:X.mg x=some (.ref f)) (hk:Iv X.K (.ref f)=true) (hb:Bs X.K fd ps ds) (hd:Vals dvs ds) (hx:NQ CX X E)
  (ha:PA X (e::es) t) (hdb:(x == ("__debug__" : Str))=false:=by decide) (he:BW (e::es) X.env=(false,eval e X.env)::BW es X.env:=by rfl) (hpl:(backTo pos (BW es X.env)).any (·.1)=false:=by rfl) :
  PE X (.Call (.Name x p) (e::es) [] pos) (Zy sp dvs E t):=by
 intro pins s σ H Q I h;refine J7 (Zn I hg hm ?_ hdb);refine X7 (h₀:=X.base) I.ok.mod.kin hk (thn (ha pos pins s σ H _ I h) fun us s1 ⟨vs,H1,I1,r,q⟩=>⟨I1.kIn,?_⟩) he hpl;exact Va F hr hb hd hx I1 r q
structure Mk (K:Ao) (C f:Aa):Prop where
 makes:X6 K C=true
 init:Cq K (.ref C) "__init__" = some (some (.ref f))
 fn:FN K (.ref f)=true
 kp:Iv K (.ref C)=true
theorem ZuK {pins:List (Aa×Obj)} {σ:St} {H:Hp} {s:Ae} {Q:VK} {us:List Ab} {vs:List V} (M:Mk X.K C f) (F:FnOk X.prog X.w X.K X.mg X.base CX k f fd ps sp) (hr:Room (k+1) X.A) (hb:Bs X.K fd ps ds) (hd:Vals dvs ds)
  (hx:NQ CX X E) (I:Inv X pins σ H s) (r:Vals vs us)
  (h:∀x dx,H x=none→H dx=none→dx≠x→sp (.ref x::(vs++dvs)) (upd (upd H dx (.own x)) x (.ins C dx [])) (fun v H2=>v=.non∧Q (.ref x) H2) E) :
  Ai (model X.prog X.w) X.A (call (.ref C) us) (EP X pins σ Q) X.xe s:=by
 have hq:=h (s.heap.objs.size+1) s.heap.objs.size (I.hok.fresh (Ia _)) (I.hok.fresh (Ax _)) (Ce (Tj _));have I2:=Inv.made (C:=C) I;have r2:Vals (V.ref (s.heap.objs.size+1)::(vs++dvs)) (Be (s.heap.objs.size+1)::(us++ds)):=.cons rfl (r.append hd)
 have hl:(Be (s.heap.objs.size+1)::us++ds).length=ps.length:=by
  have e:=r2.length;rw[F.len _ _ _ _ hq]at e;exact e.symm
 refine u9 (Zuh (f:=f) I.kIn M.makes M.init (beq_iff_eq.mp M.fn) (Ro (F.run _ X.stack _ _ ⟨Be (s.heap.objs.size+1)::us,[]⟩ (Be (s.heap.objs.size+1)::(us++ds)) _ _ E (hr.make C us [])
  (I2.env0.make C us []) (hb _ (Be (s.heap.objs.size+1)::us) I2.kIn hl) r2 hq) fun r s' hq'=>?_))
 cases r with
 | error e=>exact hx pins σ _ _ e s' I2 hq'
 | ok fl=>
  cases fl with
  | ret u=>
   obtain⟨v,H',I3,rv,ev,q3⟩:=I2.after hq';subst ev;exact⟨rv,⟨V.ref (s.heap.objs.size+1),H',I3,rfl,q3⟩⟩
  | next=>exact Gj hq'
  | brk=>exact Gj hq'
  | cont=>exact Gj hq'
theorem Zw9 (M:Mk X.K C f) (F:FnOk X.prog X.w X.K X.mg X.base CX k f fd ps sp) (hr:Room (k+1) X.A) (hg:Gl X x) (hm:X.mg x=some (.ref C)) (hb:Bs X.K fd ps ds) (hd:Vals dvs ds) (hx:NQ CX X E)
  (ha:PA X (e::es) t) (hdb:(x == ("__debug__" : Str))=false:=by decide) (he:BW (e::es) X.env=(false,eval e X.env)::BW es X.env:=by rfl) (hpl:(backTo pos (BW es X.env)).any (·.1)=false:=by rfl) :
  PE X (.Call (.Name x p) (e::es) [] pos) (Zz C sp dvs E t):=by
 intro pins s σ H Q I h;refine J7 (Zn I hg hm ?_ hdb);refine X7 (h₀:=X.base) I.ok.mod.kin M.kp (thn (ha pos pins s σ H _ I h) fun us s1 ⟨vs,H1,I1,r,q⟩=>⟨I1.kIn,?_⟩) he hpl;exact ZuK M F hr hb hd hx I1 r q
end
section
variable {X:Cx} {CX:CXT} {k:Nat} {f C:Aa} {fd:Bq} {ps ks:List Str} {sp:Sp} {E:XK} {x m:Str} {p pos apos kpos:Pos} {e o:Aw} {es:List Aw} {kws:List Keyword} {te ta:TE} {t tk:TA} {nm:Option Str}
variable {g:List Ab→List Ab→List Ab} {gV:List V→List V→List V}
end
structure FnScope (N P:List Str) (sc:DK):Prop where
 kind:sc.kind=.function
 co:sc.isCoroutine=false
 gen:sc.isGenerator=false
 nd:N.Nodup
 pre:N.take P.length=P
 par:∀x∈P,sc.names.lookup x=some .local∨sc.names.lookup x=some .cell
 nofree:∀y∈sc.names,y.2≠.free
theorem ZmM {kindOf:Str→Option Rp} {x:Str}:∀{binds:List (Str×Ab)} {m:Str→Option Ab},(∀v,(x,v)∉binds)→bindL kindOf binds m x=m x
 | [],_,_=>rfl
 | (n,v)::r,m,h=>by
  unfold bindL;rw[ZmM fun w hw=>h w (Et _ hw)]
  split
  ·have:x≠n:=by rintro rfl; exact h v Ec
   simp[this]
  ·rfl
theorem ZmK {kindOf:Str→Option Rp} {x:Str}:∀{binds:List (Str×Ab)} {m:Str→Option Ab},(∀v,(x,v)∉binds)→bindC kindOf binds m x=m x
 | [],_,_=>rfl
 | (n,v)::r,m,h=>by
  unfold bindC;rw[ZmK fun w hw=>h w (Et _ hw)]
  split
  ·rfl
  ·have:x≠n:=by rintro rfl; exact h v Ec
   simp[this]
theorem ZmL {kindOf:Str→Option Rp} {x:Str} {v:Ab}:∀{P:List Str} {vs:List Ab} {i:Nat} {m:Str→Option Ab},P.Nodup→P[i]?=some x→vs[i]?=some v→kindOf x=some .local→
  bindL kindOf (P.zip vs) m x=some v
 | [],_,_,_,_,h,_,_=>by simp at h
 | _::_,[],_,_,_,_,h,_=>by simp at h
 | p::P,w::vs,0,m,nd,h1,h2,hk=>by
  simp at h1 h2; subst h1; subst h2;show bindL kindOf ((p,w)::P.zip vs) m p=_;unfold bindL;rw[ZmM fun v hv=>(K6.mp nd).1 (vd hv).1,if_pos hk];simp
 | p::P,w::vs,i+1,m,nd,h1,h2,hk=>by
  show bindL kindOf ((p,w)::P.zip vs) m x=_;unfold bindL;exact ZmL (i:=i) (K6.mp nd).2 (by simpa using h1) (by simpa using h2) hk
theorem ZmJ {kindOf:Str→Option Rp} {x:Str} {v:Ab}:∀{P:List Str} {vs:List Ab} {i:Nat} {m:Str→Option Ab},P.Nodup→P[i]?=some x→vs[i]?=some v→kindOf x≠some .local→
  bindC kindOf (P.zip vs) m x=some v
 | [],_,_,_,_,h,_,_=>by simp at h
 | _::_,[],_,_,_,_,h,_=>by simp at h
 | p::P,w::vs,0,m,nd,h1,h2,hk=>by
  simp at h1 h2; subst h1; subst h2;show bindC kindOf ((p,w)::P.zip vs) m p=_;unfold bindC;rw[ZmK fun v hv=>(K6.mp nd).1 (vd hv).1,if_neg hk];simp
 | p::P,w::vs,i+1,m,nd,h1,h2,hk=>by
  show bindC kindOf ((p,w)::P.zip vs) m x=_;unfold bindC;exact ZmJ (i:=i) (K6.mp nd).2 (by simpa using h1) (by simpa using h2) hk
noncomputable def start (N:List Str) (vs:List V):St:=vs.map some++Tn (N.length - vs.length) none
noncomputable def cxOf (CX:CXT) (P:Ay) (w:Av) (K:Ao) (mg:Str→Option Ab) (base:Ar) (N:List Str) (qual:Str) (scope:DK) (f:Aa) (cd:Ab) (A:Bp) (outer:List Env) (s:Ae) (H:Hp) (E:XK):Cx where
 prog:=P
 w:=w
 K:=K
 mg:=mg
 base:=base
 A:=A.deeper (envOfC qual scope s.heap.objs.size f cd)
 N:=N
 s₀:=s
 H₀:=H
 env:=envOfC qual scope s.heap.objs.size f cd
 outer:=outer
 stack:=envOfC qual scope s.heap.objs.size f cd::outer
 ex:=[]
 calm:=true
 fn:=fun _=>true
 pn:=[]
 xe:=fun e s'=>Ai (model P w) (A.deeper (envOfC qual scope s.heap.objs.size f cd)) (leaving (envOfC qual scope s.heap.objs.size f cd) e) (fun _ s''=>CX outer H s E e s'') (fun e' s''=>CX outer H s E e' s'') s'
theorem ZoD {sc:DK} {n:Nat} {x:Str} (h:sc.names.lookup x=some .cell):∃c,(cellsFrom n sc.names []).lookup x=some c:=by
 have q:=YaG sc.names n [] (.inl h);exact Option.isSome_iff_exists.mp q
theorem ZrE {CX:CXT} {P:Ay} {w:Av} {K:Ao} {mg:Str→Option Ab} {base:Ar} {N ps:List Str} {qual:Str} {scope:DK} {f:Aa} {cd:Ab} {A:Bp} {outer:List Env} {s s1:Ae} {H:Hp} {E:XK} {us:List Ab} {vs:List V}
  (S:FnScope N ps scope) (hd:A.handled=none) (e0:Env0 P w K mg base A outer s H) (hl:vs.length=ps.length) (r:Vals vs us)
  (x:InCallC s s.heap.objs.size (bindL (envOfC qual scope s.heap.objs.size f cd).kindOf (ps.zip us) fun _=>none) (cellsFrom (s.heap.objs.size+1) scope.names []) (bindC (envOfC qual scope s.heap.objs.size f cd).kindOf (ps.zip us) fun _=>none) s1) :
  Inv (cxOf CX P w K mg base N qual scope f cd A outer s H E) [] (start N vs) H s1:=by
 have hpl:ps.length≤N.length:=by have:=congrArg X8 S.pre; rw[Fb]at this; omega
 obtain⟨h1,tk,rfl,hk⟩:=x.done;have noA:∀b:Aa,b∉(cxOf CX P w K mg base N qual scope f cd A outer s H E).ex:=fun b z=>absurd (show b∈([]:List Aa) from z) (by simp)
 refine⟨⟨e0.mod,S.kind,rfl,rfl,Ax _,fun y z c h1 h2=>?_,fun y hy=>?_,fun y c _ h=>?_,fun _=>hd,Bp.frames_deeper e0.frames,.inr ⟨rfl,rfl⟩,fun b z=>absurd z (noA b),e0.bs,e0.bsz,fun b _ _=>noA b,fun b z=>absurd z (noA b),e0.funs,e0.frf⟩,
  rfl,e0.bare,Un.kept hk,⟨_,x.toInCall.ns,fun i y v h1 h2 h3=>?_⟩,fun y c h=>⟨_,x.cell y c h⟩,e0.hok.fresh (Ax _),fun y c h=>?_,fun p hp=>absurd (show p∈([]:List (Aa×Obj)) from hp) (by simp),e0.hok.kept hk,?_⟩
 ·exact name_of_addr x.apart (Tp h1) (Tp h2)
 ·have hy:scope.names.lookup y=some .cell∨scope.names.lookup y=some .free:=hy
  rcases hy with hy | hy
  ·exact ZoD hy
  ·exact absurd rfl (S.nofree _ (Tp hy))
 ·exact K4 (x.above y c (Tp h))
 ·have hi:i < vs.length:=by
   unfold start at h2
   by_cases hi:i < vs.length
   ·exact hi
   ·rw[Gk (by simpa using hi)]at h2
    rw[List.getElem?_replicate]at h2
    split at h2 <;> cases h2
  have ha:vs[i]?=some v:=by
   unfold start at h2;rw[Hm (by simpa using hi),CQ]at h2
   cases e:vs[i]? with
   | none=>rw[e]at h2; cases h2
   | some a=>rw[e]at h2; cases h2; rfl
  obtain⟨u,hu,rv⟩:=r.get ha
  have hp:ps[i]?=some y:=by
   rw[←S.pre,YaH (by omega)]; exact h1
  have ndP:ps.Nodup:=by rw[←S.pre]; exact S.nd.sublist (Yb _ _)
  refine⟨u,rv,?_⟩
  rcases S.par y (Df hp) with k | k
  ·exact .inl ⟨k,ZmL ndP hp hu k⟩
  ·obtain⟨c,e⟩:=ZoD (n:=s.heap.objs.size+1) k
   refine .inr ⟨.inl k,c,e,?_⟩;have q:=x.cell y c e;rw[ZmJ ndP hp hu (by show scope.names.lookup y≠_; rw[k]; decide)]at q;exact q
 ·exact e0.hok.fresh (K4 (x.above y c (Tp h)))
 ·unfold start
  show _=N.length;rw[Ca,Az,List.length_replicate];omega
theorem Zx4 {CX:CXT} {P:Ay} {w:Av} {K:Ao} {mg:Str→Option Ab} {base:Ar} {k:Nat} {f:Aa} {name qual:Str} {params:Arguments} {body:List Ba} {scope:DK} {dV kV doc pm cdv ct oc:Ab} {an od:Option Aa}
  {osl:Array (Option Ab)} {N ps:List Str} {sp:Sp} (lk:K.lookup f=some ⟨oc,od,.func (J8 name qual params body scope dV kV doc pm an cdv ct),osl⟩) (hcd:Tq K cdv qual=true) (S:FnScope N ps scope)
  (len:∀vs H Q E,sp vs H Q E→vs.length=ps.length)
  (hbody:∀(A:Bp) (outer:List Env) (s:Ae) (H:Hp) (vs:List V) (Q:VK) (E:XK),Room k (A.deeper (envOfC qual scope s.heap.objs.size f cdv))→sp vs H Q E→
   ∃t,PSs (cxOf CX P w K mg base N qual scope f cdv A outer s H E) body t∧t { nx:=fun _ H'=>Q .non H',rt:=Q } (start N vs) H) :
  FnOk P w K mg base CX (k+1) f (J8 name qual params body scope dV kV doc pm an cdv ct) ps sp:=by
 refine⟨len,fun A outer s H args us vs Q E hr e0 hb r hsp=>?_⟩;have hl:=len _ _ _ _ hsp;have KX:K.In s.heap:=e0.mod.kin.keeps fun b o e=>(e0.bs b o e).1;have lim:s.heap.NoLimit:=e0.mod.nolimit.keeps fun b o e=>(e0.bs b o e).1
 have hkind:∀y∈ps.zip us,scope.names.lookup y.1=some .local∨(scope.names.lookup y.1=some .cell∧((cellsFrom (s.heap.objs.size+1) scope.names []).lookup y.1).isSome=true):=fun⟨n,v⟩ hy=>by
  rcases S.par n (vd hy).1 with q | q
  ·exact .inl q
  ·exact .inr ⟨q,YaG _ _ _ (.inl q)⟩
 refine codeAny_call_function hr.depth (KX _ _ lk) rfl S.co S.gen rfl (PySem.W.codeRec_of KX hcd) (hb _ _ _ _ ?_);refine wpAny_newFunctionEnv_cells S.kind hkind fun env he s1 x=>?_;subst he;refine⟨lim.keeps x.toInCall.keep,codeAny_func ?_⟩;obtain⟨t,ht,hq⟩:=hbody A outer s H vs Q E (hr.deeper _) hsp;have I:Inv (cxOf CX P w K mg base N qual scope f cdv A outer s H E) [] (start N vs) H s1:=ZrE S hr.hd e0 hl r x;refine Dn (ht [] s1 (start N vs) H _ I hq) (fun fl s' hs=>?_) fun e s' hs=>hs
 have fin:∀{σ':St} {H':Hp} {v:V} {u:Ab},Inv (cxOf CX P w K mg base N qual scope f cdv A outer s H E) [] σ' H' s'→RelV v u→Q v H'→CE outer P w H s Q u s':=
  fun {σ' H' v u} J rv q=>⟨v,H',J.os,J.bare,J.base,J.hok,rv,q⟩
 cases fl with
 | ret u=>
  obtain⟨v,σ',H',J,rv,q⟩:=hs;exact fin J rv q
 | next=>
  obtain⟨σ',H',J,q⟩:=hs;exact fin (v:=V.non) (u:=Dd) J rfl q
 | brk=>
  obtain⟨_,_,_,q⟩:=hs;exact Gj q
 | cont=>
  obtain⟨_,_,_,q⟩:=hs;exact Gj q
end L2
namespace L2
open PySem PySem.Spec PyProof.Rows
section
variable {X:Cx} {x:Str} {p pos:Pos} {e:Aw} {es:List Aw} {t:TA} {id T:String} {r:List V→Hp→VK→Prop}
noncomputable def tCB (r:List V→Hp→VK→Prop) (t:TA):TE:=fun σ H Q=>t σ H fun vs H1=>r vs H1 Q
theorem CV (hc:Ha X (.builtin id) r) (hg:Gl X x) (hm:X.mg x=none) (hv:bootBuiltins x=some (.builtin id)) (ha:PA X (e::es) t) (hn:x≠"__name__":=by decide) (hdb:(x == ("__debug__" : Str))=false:=by decide)
  (he:BW (e::es) X.env=(false,eval e X.env)::BW es X.env:=by rfl) (hpl:(backTo pos (BW es X.env)).any (·.1)=false:=by rfl):PE X (.Call (.Name x p) (e::es) [] pos) (tCB r t):=by
 intro pins s σ H Q I h;refine J7 (Jc I hg hm hv ?_ hn hdb);exact YaI (thn (ha pos pins s σ H _ I h) fun us s1 ⟨vs,H1,I1,r1,q1⟩=>hc pins s1 σ H1 vs us Q I1 r1 q1) he hpl
theorem Vb (hc:Ha X (.type T) r) (hg:Gl X x) (hm:X.mg x=none) (hv:bootBuiltins x=some (.type T)) (ha:PA X (e::es) t) (hn:x≠"__name__":=by decide) (hdb:(x == ("__debug__" : Str))=false:=by decide)
  (he:BW (e::es) X.env=(false,eval e X.env)::BW es X.env:=by rfl) (hpl:(backTo pos (BW es X.env)).any (·.1)=false:=by rfl):PE X (.Call (.Name x p) (e::es) [] pos) (tCB r t):=by
 intro pins s σ H Q I h;refine J7 (Jc I hg hm hv ?_ hn hdb);exact M6 (thn (ha pos pins s σ H _ I h) fun us s1 ⟨vs,H1,I1,r1,q1⟩=>hc pins s1 σ H1 vs us Q I1 r1 q1) he hpl
end
end L2
namespace HT
open PySem PyProof.Rows
noncomputable def lexLt:List Int→List Int→Bool
 | [],[]=>false
 | [],_::_=>true
 | _::_,[]=>false
 | x::xs,y::ys=>if x=y then lexLt xs ys else decide (x < y)
theorem lexLt_cons (x y:Int) (xs ys:List Int):lexLt (x::xs) (y::ys)=if x=y then lexLt xs ys else decide (x < y):=rfl
theorem lexLt_nil_nil:lexLt [] []=false:=rfl
theorem ZkA (y:Int) (ys:List Int):lexLt [] (y::ys)=true:=rfl
theorem Zkz (x:Int) (xs:List Int):lexLt (x::xs) []=false:=rfl
theorem ZtO (A:Bp) (s:Ae) (a:Int) (t:Tok) (c:Int) (u:Tok):∃e,SeqAt.EqAt A s (.int a t) (.int c u) e∧(e=true ↔ a=c):=
 ⟨(a == c),SeqAt.EqAt.int_int a t c u,by simp⟩
theorem ZuI (A:Bp) (s:Ae) (a:Int) (t:Tok) (c:Int) (u:Tok) (prog:Ay) (w:Av) (E:Ab→Ae→Prop) (Q:Ab→Ae→Prop) (h:Q (.bool (decide (a < c))) s) :
  Ai (model prog w) A (richCompare .Lt (.int a t) (.int c u)) Q E s:=
 (X3 h:Ai (model prog w) A (compareOp .Lt (.int a t) (.int c u)) Q E s)
section
open PySem.SeqAt
open PySem.AutoSeq1 (wpAny_loadPart')
open PySem.MeetsSeq PySem.MeetsSeq2 PySem.MeetsSeq3
theorem Zmu (l b:Aa) (items items2:Array Ab) (n n2:Nat) (dd dd2:Option Aa) (sl sl2:Array (Option Ab)) (ns ms:List Int) (hi:GZ items.toList ns) (hj:GZ items2.toList ms) :
  Meets (Fd.«tuple.__lt__» ⟨[.ref l,.ref b],[]⟩)
   (fun _ R s=>s.heap.get? l=some { cls:=.type "tuple",dict:=dd,data:=.seq items n,slots:=sl }∧s.heap.get? b=some { cls:=.type "tuple",dict:=dd2,data:=.seq items2 n2,slots:=sl2 }∧
    R (.ok (.ret (.bool (lexLt ns ms)))) s):=
 .of_wp fun prog w A R s h=>by
  obtain⟨hp,g,d,tk,os⟩:=s; obtain⟨hl,hb,h⟩:=h;have f2:=AutoSeq1.sub_tuple_tuple
  have z1:items.size=ns.length:=by rw[←hi.length]; simp
  have z2:items2.size=ms.length:=by rw[←hj.length]; simp
  wp_walk using Tu hl,Tu hb,Yc _ (fun rest b s'=>b.1=none∧s'=⟨hp,g,d,tk,os⟩ ∧∃(vs ws:List Ab) (ns' ms':List Int),rest=vs.zip ws∧
   GZ vs ns'∧GZ ws ms'∧ns'.length+items2.size=ms'.length+items.size∧R (.ok (.ret (.bool (lexLt ns' ms')))) ⟨hp,g,d,tk,os⟩) _
  case turn=>
   rintro⟨y,x⟩ rest b s' ⟨hb',rfl,vs,ws,ns',ms',hz,hvi,hwi,hlen,hR⟩
   cases hvi with
   | nil=>rw[List.zip_nil_left]at hz; cases hz
   | cons a t hvi'=>
    cases hwi with
    | nil=>rw[List.zip_nil_right]at hz; cases hz
    | cons c u hwi'=>
     rw[YaJ]at hz
     injection hz with hyx hrest
     injection hyx with hy hx
     subst hy hx;rw[lexLt_cons]at hR;simp only [Ds]at hlen;obtain⟨e,he,hiff⟩:=ZtO A.in1 ⟨hp,g,d,tk,os⟩ a t c u;refine Af (he prog w _ _ ?_)
     cases e with
     | true=>
      rw[if_pos (hiff.mp rfl)]at hR
      wp_walk
      exact⟨rfl,rfl,_,_,_,_,hrest,hvi',hwi',by omega,hR⟩
     | false=>
      rw[if_neg (fun q=>absurd (hiff.mpr q) Cg)]at hR;have hri:=ZuI A.in1 ⟨hp,g,d,tk,os⟩ a t c u prog w
      wp_walk using hri
      exact⟨_,rfl,by simpa using hR⟩
  case fin=>
   rintro⟨b1,b2⟩ s' ⟨hb',rfl,vs,ws,ns',ms',hz,hvi,hwi,hlen,hR⟩;simp only at hb';subst hb'
   have hv:lexLt ns' ms'=decide (items.size < items2.size):=by
    cases hvi with
    | nil=>
     cases hwi with
     | nil=>
      simp only [G3]at hlen;rw[lexLt_nil_nil];exact(decide_eq_false (by omega)).symm
     | cons c u hw=>
      simp only [G3,Ds]at hlen;rw[ZkA];exact(decide_eq_true (by omega)).symm
    | cons a t hv=>
     cases hwi with
     | nil=>
      simp only [G3,Ds]at hlen;rw[Zkz];exact(decide_eq_false (by omega)).symm
     | cons c u hw=>
      rw[YaJ]at hz
      cases hz
   rw[hv]at hR
   wp_walk
   exact⟨_,rfl,by simpa [Ydj] using hR⟩
  case h=>
   exact⟨rfl,rfl,items.toList,items2.toList,ns,ms,rfl,hi,hj,by omega,h⟩
end
section
variable {prog:Ay} {w:Av} {A:Bp} {E:Ab→Ae→Prop} {s:Ae}
theorem lt_tupInts {l b:Aa} {items items2:Array Ab} {ns ms:List Int} {Q:Ab→Ae→Prop} (hl:Tg s.heap l items) (hb:Tg s.heap b items2) (hi:GZ items.toList ns) (hj:GZ items2.toList ms)
  (hu:A.units < cLine) (h:Q (.bool (lexLt ns ms)) s):Ai (model prog w) A (compareOp .Lt (.ref l) (.ref b)) Q E s:=by
 obtain⟨⟨cls,dd,data,sl⟩,ho,hc,n,hd⟩:=id hl;obtain⟨⟨cls2,dd2,data2,sl2⟩,ho2,hc2,n2,hd2⟩:=id hb;simp only at hc hd hc2 hd2;subst hc hd hc2 hd2
 exact richCompare_meets_room (op:=.Lt) ⟨_,ho,rfl⟩ ⟨_,ho2,rfl⟩ PySem.F.slot_tuple_lt PySem.F.entry_tuple_lt (PySem.F.args_tuple_lt_2 _ _) (Zmu l b items items2 n n2 dd dd2 sl sl2 ns ms hi hj)
  ⟨ho,ho2,show J3 (lexLt ns ms)≠Ab.notImplemented∧Q (.bool (lexLt ns ms)) s from⟨(fun x=>nomatch x),h⟩⟩ hu
noncomputable def sIx (n d:Nat):Option Int→Nat
 | none=>d
 | some v=>if v < 0 then(v+(n:Int)).toNat else min v.toNat n
theorem sIx_nat (n d k:Nat):sIx n d (some (k:Int))=min k n:=by
 show(if (k:Int) < 0 then((k:Int)+(n:Int)).toNat else min (k:Int).toNat n)=min k n;rw[if_neg (by omega),Ft]
theorem Zy7 (n d:Nat) (hd:d≤n) (o:Option Int):sIx n d o≤n:=by
 cases o with
 | none=>exact hd
 | some v=>
  show(if v < 0 then(v+(n:Int)).toNat else min v.toNat n)≤n
  by_cases hv:v < 0
  ·rw[if_pos hv]; omega
  ·rw[if_neg hv]; exact Nat.min_le_right _ _
theorem Zq5 (v:Int) (n d:Nat):(if v < 0 then max (v+(n:Int)) 0 else min v (n:Int))=((sIx n d (some v):Nat):Int):=by
 show(if v < 0 then max (v+(n:Int)) 0 else min v (n:Int))=(((if v < 0 then(v+(n:Int)).toNat else min v.toNat n):Nat):Int)
 by_cases hv:v < 0
 ·simp only [if_pos hv]; omega
 ·simp only [if_neg hv]; omega
theorem ZpT (lo hi:Option Int) (n:Nat):vf lo hi 1 (n:Int)=(((sIx n 0 lo:Nat):Int),((sIx n n hi:Nat):Int)):=by
 have h1 : ¬((1:Int) < 0):=by omega
 unfold vf;simp only [h1,if_false];refine Iz ?_ ?_
 ·cases lo with
  | none=>rfl
  | some v=>exact Zq5 v n 0
 ·cases hi with
  | none=>rfl
  | some v=>exact Zq5 v n n
theorem Zqo (i j:Nat):Yd (i:Int) (j:Int) 1=j - i:=by
 unfold Yd
 have h1:(1:Int) > 0:=by omega
 simp only [h1,if_true,Int.ediv_one]
 split <;> omega
theorem Zll {v:Ab} {o:Option Int} {Q:Option Int→Ae→Prop} (p:J9 v o) (h:Q o s):Ai (model prog w) A (Ydk v) Q E s:=by
 cases p with
 | none=>exact slicePart_none h
 | int i t=>exact slicePart_int h
theorem Zi2 {sl:Aa} {vl vu:Ab} {lo hi:Option Int} {n:Nat} {Q:Int×Int×Nat→Ae→Prop} (hs:s.heap.IsSliceOf sl vl vu .none) (pl:J9 vl lo) (pu:J9 vu hi)
  (h:Q (((sIx n 0 lo:Nat):Int),1,sIx n n hi - sIx n 0 lo) s):Ai (model prog w) A (YaK (.ref sl) (pure (n:Int))) Q E s:=by
 obtain⟨os,hos,hcs,hds⟩:=id hs;unfold YaK Ydl;refine Af (Af (Hn hos hds (x:=vl) rfl (Af (Hn hos hds (x:=vu) rfl (Af (Hn hos hds (x:=.none) rfl (Aq ?_)))))));refine Af (slicePart_none ?_);show Ai _ _ (if ((1:Int) == 0)=true then _ else _) _ _ s;rw[if_neg (by decide)];refine Af (Zll pl (Af (Zll pu (Af (Aq ?_)))));show Ai _ _ (match vf lo hi 1 (n:Int) with | (lo,hi)=>pure (lo,(1:Int),Yd lo hi 1)) _ _ s;rw[ZpT lo hi n];show Ai _ _ (pure (((sIx n 0 lo:Nat):Int),(1:Int),Yd ((sIx n 0 lo:Nat):Int) ((sIx n n hi:Nat):Int) 1)) _ _ s;rw[Zqo];exact Aq h
theorem ZuB (xs:Array Ab) (i k:Nat):((Cd k).filterMap fun(m:Nat)=>xs[((i:Int)+(m:Int) * 1).toNat]?).toArray=((xs.toList.drop i).take k).toArray:=by
 have e:(fun(m:Nat)=>xs[((i:Int)+(m:Int) * 1).toNat]?)=fun m=>xs[i+m]?:=by
  funext m
  have:((i:Int)+(m:Int) * 1).toNat=i+m:=by omega
  rw[this]
 rw[e];have:=pick_run xs i k;rw[List.filterMap_map]at this;have e2:((fun x=>xs[x]?) ∘ fun x=>i+x)=fun m=>xs[i+m]?:=rfl;rw[e2]at this;rw[this]
theorem getItem_tuple_cut {t sl:Aa} {items:Array Ab} {vl vu:Ab} {lo hi:Option Int} {Q:Ab→Ae→Prop} (ht:Tg s.heap t items) (hs:s.heap.IsSliceOf sl vl vu .none) (pl:J9 vl lo) (pu:J9 vu hi)
  (hw : ¬(sIx items.size 0 lo=0∧sIx items.size items.size hi=items.size))
  (h:Q (.ref s.heap.objs.size) { s with heap:=s.heap.push { cls:=.type "tuple",data:=.seq ((items.toList.drop (sIx items.size 0 lo)).take (sIx items.size items.size hi - sIx items.size 0 lo)).toArray } })
  (hsz:items.size≤Bk):Ai (model prog w) A (getItem (.ref t) (.ref sl)) Q E s:=by
 have htake:sizeOk (.seq ((items.toList.drop (sIx items.size 0 lo)).take (sIx items.size items.size hi - sIx items.size 0 lo)).toArray):=by
  show((items.toList.drop (sIx items.size 0 lo)).take (sIx items.size items.size hi - sIx items.size 0 lo)).toArray.size≤Bk;rw[Cu,Fb,G4,FJ];omega
 have hj:sIx items.size items.size hi≤items.size:=Zy7 _ _ (Ax _) hi;obtain⟨os,hos,hcs,hds⟩:=id hs;have hTs:s.TypeIs (.ref sl) "slice":=⟨os,hos,hcs⟩;unfold getItem
 try with_reducible refine Fq ?_
 first | refine Af (Aq ?_) | skip
 refine Af (wpAny_sequenceKey ht.typeIs (by decide) ?_)
 refine Af (M9 (name:=K7 "__getitem__") ht.typeIs Ye
  (Gu Ye ht.typeIs entry_tuple_getitem ?_ (args_tuple_getitem _ _)))
 show Ai _ _ (Ydm (.ref t) >>= _) _ _ s;refine Af (tupleItemsOf_ ht ?_);refine Af (Tv hTs ?_);rw[if_pos (by decide)];refine Af (Zi2 hs pl pu ?_)
 have hno : ¬((((sIx items.size 0 lo:Nat):Int) == 0 && (1:Int) == 1 && (sIx items.size items.size hi - sIx items.size 0 lo) == items.size)=true):=by
  intro q;rw[DN,DN]at q;have q1:((sIx items.size 0 lo:Nat):Int)=0:=Rq q.1.1;have q2:sIx items.size items.size hi - sIx items.size 0 lo=items.size:=Rq q.2;exact hw ⟨by omega,by omega⟩
 show Ai _ _ (if (((sIx items.size 0 lo:Nat):Int) == 0 && (1:Int) == 1 && (sIx items.size items.size hi - sIx items.size 0 lo) == items.size)=true then _ else _) _ _ s;rw[if_neg hno,ZuB]
 first
  | exact Af (m:=Yg _) (FQ (Aq ⟨_,rfl,Aq h⟩) htake)
  | exact Af (m:=Yg _) (FQ (Af (Aq (Aq ⟨_,rfl,Aq h⟩))) htake)
  | exact Af (Af (m:=Yg _) (FQ (Aq (Aq ⟨_,rfl,Aq h⟩)) htake))
  | exact Af (Af (m:=Yg _) (FQ (Aq ⟨_,rfl,Aq h⟩) htake))
end
end HT
namespace L2
open PySem PySem.Spec PyProof.Rows
noncomputable abbrev TO:=St→Hp→(Option Int→Hp→Prop)→Prop
def PO (X:Cx) (e:Option Aw) (t:TO):Prop:=
 ∀(pins:List (Aa×Obj)) (s:Ae) (σ:St) (H:Hp) (Q:Option Int→Hp→Prop),Inv X pins σ H s→t σ H Q→
  Ai (model X.prog X.w) X.A (evalPart e X.env) (fun u s'=>∃o H',Inv X pins σ H' s'∧J9 u o∧Q o H') X.xe s
noncomputable def Zzs (t:TE):TO:=fun σ H Q=>t σ H fun x H1=>∃i,x=.int i∧Q (some i) H1
theorem Zk3 {ns:List Int}:∀{us:List Ab},Vals (ns.map V.int) us→GZ us ns:=by
 induction ns with
 | nil=>intro us r; rw[Fe]at r; cases r; exact .nil
 | cons n ns ih=>
  intro us r;rw[Cv]at r
  cases r with
  | cons r1 r2=>
   obtain⟨t,e⟩:=r1;subst e;exact .cons n t (ih r2)
section
variable {X:Cx} {e:Aw} {te:TE} {lo hi:Option Aw} {tl th:TO} {pos p2:Pos}
theorem Zsr (h:PE X e te):PO X (some e) (Zzs te):=by
 intro pins s σ H Q I hw;rw[evalPart_some];refine thn (h pins s σ H _ I hw) fun u s1 ⟨x,H1,I1,r1,q1⟩=>?_;obtain⟨i,rfl,q⟩:=q1;obtain⟨t,rfl⟩:=r1;exact⟨some i,H1,I1,.int i t,q⟩
def SlR (X:Cx) (r:V→Option Int→Option Int→Hp→VK→Prop):Prop:=
 ∀(pins:List (Aa×Obj)) (s:Ae) (σ:St) (H:Hp) (x:V) (v vl vu:Ab) (lo hi:Option Int) (sl:Aa) (Q:VK),Inv X pins σ H s→RelV x v→s.heap.IsSliceOf sl vl vu .none→J9 vl lo→J9 vu hi→r x lo hi H Q→
  ∃T id,typeLookup (.type T) "__getitem__" = pure (some (.builtin id))∧s.TypeIs v T∧Ai (model X.prog X.w) X.A (getItem v (.ref sl)) (EP X pins σ Q) X.xe s
theorem SlR.or {r r':V→Option Int→Option Int→Hp→VK→Prop} (h:SlR X r) (h':SlR X r'):SlR X (fun x lo hi H Q=>r x lo hi H Q∨r' x lo hi H Q):=by
 intro pins s σ H x v vl vu lo hi sl Q I rx hs pl pu q
 rcases q with q | q
 ·exact h pins s σ H x v vl vu lo hi sl Q I rx hs pl pu q
 ·exact h' pins s σ H x v vl vu lo hi sl Q I rx hs pl pu q
noncomputable def tSl (r:V→Option Int→Option Int→Hp→VK→Prop) (te:TE) (tl th:TO):TE:=fun σ H Q=>te σ H fun x H1=>tl σ H1 fun l H2=>th σ H2 fun u H3=>r x l u H3 Q
theorem Zuy {r:V→Option Int→Option Int→Hp→VK→Prop} (hr:SlR X r) (he:PE X e te) (hl:PO X lo tl) (hu:PO X hi th):PE X (.Subscript e (.Slice lo hi none p2) pos) (tSl r te tl th):=by
 intro pins s σ H Q I h;refine Subscript_ (thn (he pins s σ H _ I h) fun v s1 ⟨x,H1,I1,r1,q1⟩=>?_);refine wpAny_Slice (thn (hl pins s1 σ H1 _ I1 q1) fun vl s2 ⟨l,H2,I2,pl,q2⟩=>thn (hu pins s2 σ H2 _ I2 q2) fun vu s3 ⟨u,H3,I3,pu,q3⟩=>?_);rw[evalPart_none];refine Aq ?_;have I4:Inv X pins σ H3 { s3 with heap:=s3.heap.push { cls:=.type "slice",data:=.fields #[vl,vu,.none] } }:=I3.kept (t':=s3.toks) fun b ob q=>BK _ q;obtain⟨T,id,hT,ht,hg⟩:=hr pins { s3 with heap:=s3.heap.push { cls:=.type "slice",data:=.fields #[vl,vu,.none] } } σ H3 x v vl vu l u s3.heap.objs.size Q I4 r1 (Ydn ..) pl pu q3;show Ai (model X.prog X.w) X.A (subscriptTail e (.Slice lo hi none p2) v (.ref s3.heap.objs.size)) (EP X pins σ Q) X.xe { s3 with heap:=s3.heap.push { cls:=.type "slice",data:=.fields #[vl,vu,.none] } };exact tail_any (ops:=[.ref s3.heap.objs.size,v]) ht hT hg (by with_unfolding_all rfl)
noncomputable def cutV (xs:List V) (lo hi:Option Int):List V:=(xs.drop (HT.sIx xs.length 0 lo)).take (HT.sIx xs.length xs.length hi - HT.sIx xs.length 0 lo)
theorem Zjp (xs:List V) (lo hi:Option Int):(cutV xs lo hi).length≤xs.length:=by
 unfold cutV;rw[Fb,G4];omega
noncomputable def rSlT (K:Ao):V→Option Int→Option Int→Hp→VK→Prop:=fun x lo hi H Q=>∃a xs,x=.ref a∧SqT K H a xs∧
 ¬(HT.sIx xs.length 0 lo=0∧HT.sIx xs.length xs.length hi=xs.length)∧∀p,H p=none→Q (.ref p) (upd H p (.tup (cutV xs lo hi)))
theorem Zzd:SlR X (rSlT X.K):=by
 intro pins s σ H x v vl vu lo hi sl Q I rx hs pl pu h;obtain⟨a,xs,rfl,hx,hw,q⟩:=h
 cases rx
 obtain⟨its,r,ht,hz⟩:=I.tuple hx
 have hlen:its.toArray.size=xs.length:=by rw[Cu]; exact r.length.symm
 refine⟨"tuple",_,Ye.lookup,ht.typeIs,?_⟩;refine HT.getItem_tuple_cut ht hs pl pu (by rw[hlen]; exact hw) ?_ (by rw[hlen]; exact hz);rw[hlen];refine⟨.ref s.heap.objs.size,_,I.laid (t':=s.toks) (o:=.tup (cutV xs lo hi)) (fun b ob q=>BK _ q) (Ax _) ?_,rfl,q _ (I.hok.fresh (Ax _))⟩;exact⟨Eb (Zjp xs lo hi) hz,_,(r.drop (HT.sIx xs.length 0 lo)).take (HT.sIx xs.length xs.length hi - HT.sIx xs.length 0 lo),vg _ _⟩
noncomputable def rLtT (K:Ao):R2:=fun x y H Q=>∃a b ns ms,x=.ref a∧y=.ref b∧SqT K H a (ns.map V.int)∧SqT K H b (ms.map V.int)∧Q (.bl (HT.lexLt ns ms)) H
theorem ZyL (hu:X.A.units < cLine):OpR X (compareOp .Lt) (rLtT X.K):=by
 intro pins s σ H x y v u Q I rx ry h;obtain⟨a,b,ns,ms,rfl,rfl,ha,hb,q⟩:=h
 cases rx
 cases ry
 obtain⟨its,r1,p1,_⟩:=I.tuple ha;obtain⟨its2,r2,p2,_⟩:=I.tuple hb;have i1:GZ its.toArray.toList ns:=Zk3 r1;have i2:GZ its2.toArray.toList ms:=Zk3 r2;exact HT.lt_tupInts p1 p2 i1 i2 hu ⟨.bl (HT.lexLt ns ms),H,I,rfl,q⟩
end
end L2
namespace L2
open PySem PySem.Spec PyProof.Rows
noncomputable def ixN (n:Nat) (i:Int):Option Nat:=if 0≤i then(if i < n then some i.toNat else none) else if -(n:Int)≤i then some (i+n).toNat else none
noncomputable def atI {α:Type} (xs:List α) (i:Int):Option α:=(ixN xs.length i).bind fun j=>xs[j]?
theorem ZrH {n:Nat} {i:Int} {j:Nat} (h:ixN n i=some j):seqIndex? i n=some j∧j < n∧-(n:Int)≤i∧i < n:=by
 unfold ixN at h
 by_cases h0:0≤i
 ·rw[if_pos h0]at h
  by_cases h1:i < n
  ·rw[if_pos h1]at h
   have e:i.toNat=j:=De h;exact⟨by rw[vh h0 h1,e],by omega,by omega,h1⟩
  ·rw[if_neg h1]at h; cases h
 ·rw[if_neg h0]at h
  by_cases h1 : -(n:Int)≤i
  ·rw[if_pos h1]at h
   have e:(i+n).toNat=j:=De h;exact⟨by rw[seqIndex_neg (by omega) h1,e],by omega,h1,by omega⟩
  ·rw[if_neg h1]at h; cases h
theorem ZC {α:Type} {xs:List α} {i:Int} {v:α} (h:atI xs i=some v):∃j,seqIndex? i xs.length=some j∧xs[j]?=some v∧j < xs.length∧-(xs.length:Int)≤i∧i < xs.length:=by
 unfold atI at h
 cases e:ixN xs.length i with
 | none=>rw[e]at h; cases h
 | some j=>
  rw[e]at h;obtain⟨h1,h2,h3,h4⟩:=ZrH e;exact⟨j,h1,h,h2,h3,h4⟩
theorem ZD {α:Type} {xs:List α} {j:Nat} {v:α} (h:xs[j]?=some v):atI xs (j:Int)=some v:=by
 have hj:j < xs.length:=(Cr.mp h).1
 have e:ixN xs.length (j:Int)=some j:=by
  unfold ixN;rw[if_pos (by omega),if_pos (by omega)]; simp
 unfold atI; rw[e]; exact h
def ZqM (b:Aw):Prop:=∀o i,subscripted b false o i=operate [o,i] (getItem o i)
def IxR (X:Cx) (r:R2):Prop:=
 ∀(value slice:Aw) (pins:List (Aa×Obj)) (s:Ae) (σ:St) (H:Hp) (x y:V) (v u:Ab) (Q:VK),Inv X pins σ H s→RelV x v→RelV y u→r x y H Q→
  subscripted slice false v u=operate [v,u] (getItem v u)→Ai (model X.prog X.w) X.A (subscriptTail value slice v u) (EP X pins σ Q) X.xe s
def MtR (X:Cx) (id:String) (r:V→List V→Hp→VK→Prop):Prop:=
 ∀(pins:List (Aa×Obj)) (s:Ae) (σ:St) (H:Hp) (x:V) (xs:List V) (v:Ab) (us:List Ab) (Q:VK),Inv X pins σ H s→RelV x v→Vals xs us→r x xs H Q→
  Ai (model X.prog X.w) X.A (call (.builtin id) (v::us)) (EP X pins σ Q) X.xe s
section
variable {X:Cx} {a b:Aw} {ta tb:TE} {pos:Pos}
theorem IxR.or {r r':R2} (h:IxR X r) (h':IxR X r'):IxR X (fun x y H Q=>r x y H Q∨r' x y H Q):=by
 intro value slice pins s σ H x y v u Q I rx ry q hs
 rcases q with q | q
 ·exact h value slice pins s σ H x y v u Q I rx ry q hs
 ·exact h' value slice pins s σ H x y v u Q I rx ry q hs
theorem Bm {r:R2} (hr:IxR X r) (ha:PE X a ta) (hb:PE X b tb) (hs:ZqM b):PE X (.Subscript a b pos) (tOp r ta tb):=by
 intro pins s σ H Q I h;exact Subscript_ (binT ha hb I h fun v u s2 x y H2 I2 rx ry q=>hr a b pins s2 σ H2 x y v u Q I2 rx ry q (hs _ _))
noncomputable def rIxL (K:Ao):R2:=fun x y H Q=>∃p xs i v,x=.ref p∧y=.int i∧SqL K H p xs∧atI xs i=some v∧Q v H
noncomputable def rIxT (K:Ao):R2:=fun x y H Q=>∃p xs i v,x=.ref p∧y=.int i∧SqT K H p xs∧atI xs i=some v∧Q v H
noncomputable def rIxS:R2:=fun x y H Q=>∃z i c,x=.str z∧y=.int i∧z.length≤Bk∧atI z.cps.toList i=some c∧Q (.str ⟨#[c]⟩) H
theorem ZwM:IxR X (rIxL X.K):=by
 intro value slice pins s σ H x y v u Q I rx ry h hs;obtain⟨p,xs,i,z,rfl,rfl,hq,he,q⟩:=h
 cases rx
 obtain⟨t,rfl⟩:=ry;obtain⟨its,r,pl,hz⟩:=I.list hq;obtain⟨j,h1,h2,h3,h4,h5⟩:=ZC he;obtain⟨w,ew,rw'⟩:=r.get h2;have hl:=r.length;have hn:=NP;have fin:EP X pins σ Q w s:=⟨z,H,I,rw',q⟩
 by_cases h0:0≤i
 ·have hj:i.toNat=j:=by
   rw[vh h0 h5]at h1;exact De h1
  exact item_listR pl.isList h0 (by omega) (by rw[hj]; simpa using ew) fin hs
 ·have hj:(i+(its.toArray.size:Int)).toNat=j:=by
   rw[seqIndex_neg (by omega) h4]at h1;rw[Cu,←hl];exact De h1
  exact YaL (x:=w) pl.isList.typeIs YaM.lookup
   (wpAny_getItem_list_neg (Q:=fun r s'=>r=w∧EP X pins σ Q r s') pl.isList (by omega) (by rw[Cu] <;> omega) (by omega) (by rw[hj]; simpa using ew) ⟨rfl,fin⟩) hs
theorem Zyp:IxR X (rIxT X.K):=by
 intro value slice pins s σ H x y v u Q I rx ry h hs;obtain⟨p,xs,i,z,rfl,rfl,hq,he,q⟩:=h
 cases rx
 obtain⟨t,rfl⟩:=ry;obtain⟨its,r,pl,hz⟩:=I.tuple hq;obtain⟨j,h1,h2,h3,h4,h5⟩:=ZC he;obtain⟨w,ew,rw'⟩:=r.get h2;have hl:=r.length;have hn:=NP;have fin:EP X pins σ Q w s:=⟨z,H,I,rw',q⟩
 exact YaL (x:=w) pl.typeIs Ye.lookup
  (getItem_tuple (j:=j) (Q:=fun r s'=>r=w∧EP X pins σ Q r s') pl (by omega) (by omega) (by rw[Cu,←hl]; exact h1) (by simpa using ew) ⟨rfl,fin⟩) hs
theorem Zyo:IxR X rIxS:=by
 intro value slice pins s σ H x y v u Q I rx ry h hs;obtain⟨z,i,c,rfl,rfl,hz,he,q⟩:=h;obtain⟨t,rfl⟩:=rx;obtain⟨t',rfl⟩:=ry;obtain⟨j,h1,h2,h3,h4,h5⟩:=ZC he
 have hl:z.cps.toList.length=z.length:=by simp[Str.length]
 rw[hl]at h1 h4 h5;have hn:=NP
 exact tail_any (vm s z t) slot_str_getitem.lookup (getItem_str (c:=c) (by
  have e1:decide (i < -(2 ^ 63:Int))=false:=decide_eq_false (by omega);have e2:decide (i ≥ 2 ^ 63)=false:=decide_eq_false (by omega)
  rw[e1,e2,Rr]) (by rw[h1]; simpa using h2) ⟨.str ⟨#[c]⟩,H,I.tok _,⟨_,rfl⟩,q⟩) hs
noncomputable def rIx (K:Ao):R2:=fun x y H Q=>rIxL K x y H Q∨rIxT K x y H Q∨rIxS x y H Q
theorem Bu:IxR X (rIx X.K):=ZwM.or (Zyp.or Zyo)
theorem Zqi (its:List Ab) (n j:Nat) (u:Ab):DP (·.setIfInBounds j u) { cls:=.type "list",data:=.seq its.toArray n } = { cls:=.type "list",data:=.seq (its.set j u).toArray n }:=by
 simp[DP]
theorem Inv.lst {pins:List (Aa×Obj)} {σ:St} {H:Hp} {s:Ae} {p:Aa} {xs:List V} (I:Inv X pins σ H s) (h:H p=some (.lst xs)) :
  ∃(its:List Ab) (n:Nat),Vals xs its∧s.heap.get? p=some { cls:=.type "list",data:=.seq its.toArray n }∧xs.length≤Bk:=by
 obtain⟨z,its,n,r,e⟩:=I.hok p _ h;exact⟨its,n,r,e,z⟩
theorem Inv.lstUpd {pins:List (Aa×Obj)} {σ:St} {H:Hp} {s:Ae} {p:Aa} {xs ys:List V} {its its':List Ab} {n n':Nat} {f:Obj→Obj} (I:Inv X pins σ H s) (h:H p=some (.lst xs))
  (ho:s.heap.get? p=some { cls:=.type "list",data:=.seq its.toArray n }) (hf:f { cls:=.type "list",data:=.seq its.toArray n } = { cls:=.type "list",data:=.seq its'.toArray n' }) (r:Vals ys its') (hz:ys.length≤Bk) (t:Nat) :
  Inv X pins σ (upd H p (.lst ys)) { s with heap:=s.heap.update p f,toks:=t }:=by
 have e:(s.heap.update p f).get? p=some { cls:=.type "list",data:=.seq its'.toArray n' }:=by
  rw[Ka f ho (by rw[hf] <;> rfl),hf]
 refine I.write (x:=p) (e:=p) (by rw[h]; trivial) (.inl rfl) (fun b u hb q=>(Kc _ _ (DX hb)).trans q) ⟨_,e⟩ ?_;exact⟨hz,its',n',r,e⟩
noncomputable def Zy1:V→V→V→Hp→(Hp→Prop)→Prop:=fun o i v H Q=>∃p xs k j,o=.ref p∧i=.int k∧H p=some (.lst xs)∧ixN xs.length k=some j∧Q (upd H p (.lst (xs.set j v)))
theorem ZuS:PSet X Zy1:=by
 intro pins s σ H o i v ov iv u Q I ro ri rv h;obtain⟨p,xs,k,j,rfl,rfl,hp,hj,q⟩:=h
 cases ro
 obtain⟨t,rfl⟩:=ri;obtain⟨its,n,r,ho,hz⟩:=I.lst hp;obtain⟨h1,h2,h3,h4⟩:=ZrH hj;have hl:=r.length;have hn:=NP
 have I':Inv X pins σ (upd H p (.lst (xs.set j v))) { s with heap:=s.heap.update p (DP (·.setIfInBounds j u)) }:=
  I.lstUpd hp ho (Zqi its n j u) (r.set rv j) (by rw[vp]; exact hz) s.toks
 by_cases h0:0≤k
 ·have hk:k.toNat=j:=by
   rw[vh h0 h4]at h1;exact De h1
  exact PySem.W.ki_setAt ho h0 (by omega) (by rw[Cu,←hl]; exact h4) (by rw[hk]; exact⟨_,I',q⟩)
 ·have hk:(k+(its.toArray.size:Int)).toNat=j:=by
   rw[seqIndex_neg (by omega) h3]at h1;rw[Cu,←hl];exact De h1
  exact PySem.W.ki_setBack ho (by omega) (by rw[Cu,←hl]; exact h3) (by omega) (by rw[hk]; exact⟨_,I',q⟩)
theorem Znw (lo hi:Option Int) (n:Nat):(sliceBounds lo hi none n).1=((HT.sIx n 0 lo:Nat):Int)∧(sliceBounds lo hi none n).2.1=((HT.sIx n n hi:Nat):Int)∧(sliceBounds lo hi none n).2.2=1:=by
 refine⟨?_,?_,rfl⟩
 ·cases lo with
  | none=>simp[sliceBounds,HT.sIx]
  | some i=>
   simp only [sliceBounds,HT.sIx,YaN,show(1:Int) > 0 by decide,if_true]
   by_cases h:i < 0
   ·simp only [h,if_true] <;> omega
   ·simp only [h,if_false] <;> omega
 ·cases hi with
  | none=>simp[sliceBounds,HT.sIx]
  | some i=>
   simp only [sliceBounds,HT.sIx,YaN,show(1:Int) > 0 by decide,if_true]
   by_cases h:i < 0
   ·simp only [h,if_true] <;> omega
   ·simp only [h,if_false] <;> omega
theorem Zmq (its:List Ab) (lo hi:Option Int):slicePick its.toArray lo hi none=((its.drop (HT.sIx its.length 0 lo)).take (HT.sIx its.length its.length hi - HT.sIx its.length 0 lo)).toArray:=by
 obtain⟨h1,h2,h3⟩:=Znw lo hi its.toArray.size;unfold slicePick;rw[h1,h2,h3]
 simp only [sliceRange_one,pick_run,Cu] <;> rfl
noncomputable def rSlL (K:Ao):V→Option Int→Option Int→Hp→VK→Prop:=fun x lo hi H Q=>∃a xs,x=.ref a∧SqL K H a xs∧∀p,H p=none→Q (.ref p) (upd H p (.lst (cutV xs lo hi)))
theorem Zxm:SlR X (rSlL X.K):=by
 intro pins s σ H x v vl vu lo hi sl Q I rx hs pl pu h;obtain⟨a,xs,rfl,hx,q⟩:=h
 cases rx
 obtain⟨its,r,ht,hz⟩:=I.list hx;have hlen:=r.length;refine⟨"list",_,YaM.lookup,ht.isList.typeIs,?_⟩;refine wpAny_getItem_list_slice ht.isList hs pl pu .none (by simp) ?_ (by rw[Cu] <;> omega);rw[Zmq,←hlen];refine⟨.ref s.heap.objs.size,_,I.laid (t':=s.toks) (o:=.lst (cutV xs lo hi)) (fun b ob q=>BK _ q) (Ax _) ?_,rfl,q _ (I.hok.fresh (Ax _))⟩;exact⟨Eb (Zjp xs lo hi) hz,_,0,(r.drop (HT.sIx xs.length 0 lo)).take (HT.sIx xs.length xs.length hi - HT.sIx xs.length 0 lo),CT _ rfl⟩
theorem ZmP:Ha X (.type "list") (fun xs H Q=>∃p ys,xs=[.ref p]∧(SqL X.K H p ys∨SqT X.K H p ys)∧∀l,H l=none→Q (.ref l) (upd H l (.lst ys))):=by
 intro pins s σ H xs us Q I r h;obtain⟨p,ys,rfl,hq,q⟩:=h;obtain⟨u,rfl,rx⟩:=Jy r
 cases rx
 have fin:∀(its:List Ab),Vals ys its→ys.length≤Bk→∀(h':Ar) (c':Nat),(∀b o',s.heap.get? b=some o'→h'.get? b=some o')→
   h'.get? s.heap.objs.size=some { cls:=.type "list",dict:=none,data:=.seq its.toArray c',slots:=#[] }→EP X pins σ Q (.ref s.heap.objs.size) { s with heap:=h' }:=fun its r' hz h' c' kp e=>
  ⟨.ref s.heap.objs.size,_,I.laid (t':=s.toks) kp (Ax _) (show Ck X.prog X.w _ h' _ (.lst ys) from⟨hz,its,c',r',e⟩),rfl,q _ (I.hok.fresh (Ax _))⟩
 rcases hq with hq | hq
 ·obtain⟨its,r',pl,hz⟩:=I.list hq
  have hlen:=r'.length;obtain⟨o,ho,hc,n,hd⟩:=pl.isList;exact call_list_seq p (.inl rfl) ho hc hd (fun h' c' kp e=>fin its r' hz h' c' kp e) (by simp only [Cu] <;> omega)
 ·obtain⟨its,r',pl,hz⟩:=I.tuple hq
  have hlen:=r'.length;obtain⟨o,ho,hc,n,hd⟩:=pl;exact call_list_seq p (.inr rfl) ho hc hd (fun h' c' kp e=>fin its r' hz h' c' kp e) (by simp only [Cu] <;> omega)
theorem Zlw:Ha X (.type "tuple") (fun xs H Q=>∃p ys,xs=[.ref p]∧((SqL X.K H p ys∧∀l,H l=none→Q (.ref l) (upd H l (.tup ys)))∨(SqT X.K H p ys∧Q (.ref p) H))):=by
 intro pins s σ H xs us Q I r h;obtain⟨p,ys,rfl,h⟩:=h;obtain⟨u,rfl,rx⟩:=Jy r
 cases rx
 rcases h with⟨hq,q⟩ | ⟨hq,q⟩
 ·obtain⟨its,r',pl,hz⟩:=I.list hq
  have hlen:=r'.length;refine call_tuple_list pl.isList (fun h' kp=>?_) (by simp only [Cu] <;> omega);have I1:Inv X pins σ H { s with heap:=h' }:=I.kept (t':=s.toks) kp
  have I2:Inv X pins σ (upd H h'.objs.size (.tup ys)) { s with heap:=h'.push { cls:=.type "tuple",data:=.seq its.toArray } }:=
   I1.laid (t':=s.toks) (fun b o e=>BK _ e) (Ax _) (show Ck X.prog X.w _ _ _ (.tup ys) from⟨hz,its,r',vg _ _⟩)
  exact⟨.ref h'.objs.size,_,I2,rfl,q _ (I1.hok.fresh (Ax _))⟩
 ·obtain⟨its,r',pl,hz⟩:=I.tuple hq
  exact call_tuple_same pl ⟨.ref p,H,I,rfl,q⟩
def tyV (K:Ao) (T:String) (x:V) (H:Hp):Prop:=match x with
 | .str _=>T = "str"
 | .int _=>T = "int"
 | .ref p=>(T = "list"∧∃xs,SqL K H p xs)∨(T = "tuple"∧∃o,K.lookup p=some o∧o.cls=.type "tuple"∧o.dict=none)∨
   (T = "dict"∧((∃kvs,H p=some (.dK kvs))∨∃kvs,H p=some (.dT kvs)))∨(T = "set"∧∃S n,H p=some (.set S n))
 | _=>False
theorem Zwd {pins:List (Aa×Obj)} {σ:St} {H:Hp} {s:Ae} {T:String} {x:V} {v:Ab} (I:Inv X pins σ H s) (r:RelV x v) (ty:tyV X.K T x H) :
  s.TypeIs v T∧∀a,v=.ref a→∃ob,s.heap.get? a=some ob∧ob.dict=none:=by
 cases x with
 | str z=>
  obtain⟨t,rfl⟩:=r
  cases (show T = "str" from ty)
  exact⟨vm s z t,fun _ e=>nomatch e⟩
 | int i=>
  obtain⟨t,rfl⟩:=r
  cases (show T = "int" from ty)
  exact⟨typeIs_int s i t,fun _ e=>nomatch e⟩
 | ref p=>
  cases r
  rcases ty with⟨rfl,xs,hq⟩ | ⟨rfl,o,hk,hc,hd⟩ | ⟨rfl,hk⟩ | ⟨rfl,S,n,hk⟩
  ·obtain⟨its,_,pl,_⟩:=I.list hq
   refine⟨pl.isList.typeIs,fun a e=>?_⟩
   cases e
   obtain⟨o,n,e,c,hd,_⟩:=pl;exact⟨o,e,hd⟩
  ·refine⟨⟨o,I.kIn p o hk,hc⟩,fun a e=>?_⟩
   cases e
   exact⟨o,I.kIn _ o hk,hd⟩
  ·have z:∃o,s.heap.get? p=some o∧o.ExactDict:=by
    rcases hk with⟨kvs,hk⟩ | ⟨kvs,hk⟩
    ·obtain⟨_,_,_,_,o,_,_,e,ex,_⟩:=I.hok p _ hk
     exact⟨o,e,ex⟩
    ·obtain⟨_,_,_,_,o,_,_,e,ex,_⟩:=I.hok p _ hk
     exact⟨o,e,ex⟩
   obtain⟨o,e,ex⟩:=z;refine⟨⟨o,e,ex.1⟩,fun a e2=>?_⟩
   cases e2
   exact⟨o,e,ex.2.1⟩
  ·obtain⟨o,_,_,_,e,ex,_⟩:=I.hok p _ hk
   refine⟨⟨o,e,ex.1⟩,fun a e2=>?_⟩
   cases e2
   exact⟨o,e,ex.2.1⟩
 | _=>exact Gj ty
noncomputable def tBM0 (K:Ao) (T:String) (r:V→List V→Hp→VK→Prop) (to:TE):TE:=fun σ H Q=>to σ H fun x H1=>tyV K T x H1∧r x [] H1 Q
noncomputable def tBM (K:Ao) (T:String) (r:V→List V→Hp→VK→Prop) (to:TE) (t:TA):TE:=fun σ H Q=>to σ H fun x H1=>tyV K T x H1∧t σ H1 fun xs H2=>r x xs H2 Q
variable {o e:Aw} {es:List Aw} {to:TE} {t:TA} {name:Str} {apos cpos:Pos} {T id:String} {r:V→List V→Hp→VK→Prop}
theorem R0 (pa:PlainAttrs T) (slot:Slot T name id) (hty:typeOf (.builtin id)=pure (.type "method_descriptor")) (hm:MtR X id r) (ho:PE X o to)
  (hbase:attributeBase o name X.env (eval o X.env)=eval o X.env:=by rfl) (hline:(apos.endLine == cpos.line)=true:=by rfl):PE X (.Call (.Attribute o name apos) [] [] cpos) (tBM0 X.K T r to):=by
 intro pins s σ H Q I h;refine YaO hbase hline (thn (ho pins s σ H _ I h) fun v s1 ⟨x,H1,I1,r1,ty,q1⟩=>?_);obtain⟨h1,h2⟩:=Zwd I1 r1 ty;exact⟨T,id,pa,slot,hty,h1,h2,vq rfl (YaP (hm pins s1 σ H1 x [] v [] Q I1 r1 .nil q1))⟩
theorem Ku (pa:PlainAttrs T) (slot:Slot T name id) (hty:typeOf (.builtin id)=pure (.type "method_descriptor")) (hm:MtR X id r) (ho:PE X o to) (ha:PA X (e::es) t)
  (hbase:attributeBase o name X.env (eval o X.env)=eval o X.env:=by rfl)
  (hfew:((backTo cpos (BW (e::es) X.env)).all (fun x=>!x.1) && (backToKw cpos (keywordEach [] X.env)).all (fun x=>x.1.isSome)
   && decide ((e::es).length+([]:List Keyword).length+(if ([]:List Keyword).isEmpty then 0 else 1) < 30))=true:=by rfl)
  (hline:(apos.endLine == cpos.line)=true:=by rfl) (hs:BW (e::es) X.env=(false,eval e X.env)::BW es X.env:=by rfl) (hplain:(backTo cpos (BW es X.env)).any (·.1)=false:=by rfl) :
  PE X (.Call (.Attribute o name apos) (e::es) [] cpos) (tBM X.K T r to t):=by
 intro pins s σ H Q I h;refine wpAny_Call_method_late hbase hfew hline rfl (thn (ho pins s σ H _ I h) fun v s1 ⟨x,H1,I1,r1,ty,q1⟩=>?_);obtain⟨h1,h2⟩:=Zwd I1 r1 ty;refine⟨T,id,pa,slot,hty,h1,h2,?_⟩;have hA:=ha cpos pins s1 σ H1 _ I1 q1;rw[hs]at hA ⊢;refine vq (by show(false || (backTo cpos (BW es X.env)).any (·.1))=false; rw[hplain] <;> rfl) (YaQ ?_);exact thn hA fun us s2 ⟨vs,H2,I2,r2,q2⟩=>hm pins s2 σ H2 x vs v us Q I2 r1 r2 q2
end
end L2
namespace L2
open PySem PySem.Spec PyProof.Rows
def MtM (X:Cx) (id:String) (r:V→List V→Hp→VK→Prop):Prop:=
 ∀(pins:List (Aa×Obj)) (s:Ae) (σ:St) (H:Hp) (x:V) (xs:List V) (v:Ab) (us:List Ab) (Q:VK),Inv X pins σ H s→RelV x v→Vals xs us→r x xs H Q→
  Ai (model X.prog X.w) X.A (call (.builtin id) (v::us)) (EP X pins σ Q) X.xe s
theorem Vals.one:∀{x:V} {us:List Ab},Vals [x] us→∃u,us=[u]∧RelV x u
 | _,_,.cons r .nil=>⟨_,rfl,r⟩
theorem Vals.zero:∀{us:List Ab},Vals [] us→us=[]
 | _,.nil=>rfl
theorem Vals.dropLast {xs:List V} {us:List Ab} (h:Vals xs us):Vals xs.dropLast us.dropLast:=by
 induction h with
 | nil=>exact .nil
 | cons r t ih=>
  cases t with
  | nil=>exact .nil
  | cons q t'=>exact .cons r ih
theorem ZpY {α:Type} (l:List α):l.eraseIdx (l.length - 1)=l.dropLast:=by
 induction l with
 | nil=>rfl
 | cons a r ih=>
  cases r with
  | nil=>rfl
  | cons b r=>
   have e:(a::b::r).length - 1=((b::r).length - 1)+1:=by
    have h1:(a::b::r).length=r.length+2:=rfl;have h2:(b::r).length=r.length+1:=rfl;omega
   rw[e,List.eraseIdx_cons_succ,ih]
   all_goals rfl
section
variable {X:Cx} {pins:List (Aa×Obj)} {σ:St} {H:Hp} {s:Ae} {l b:Aa} {xs ys zs:List V}
theorem Inv.lset {its its':List Ab} {n:Nat} {f:Array Ab→Array Ab} {t':Nat} (I:Inv X pins σ H s) (hH:H l=some (.lst xs))
  (e:s.heap.get? l=some { cls:=.type "list",data:=.seq its.toArray n }) (hf:f its.toArray=its'.toArray) (hv:Vals ys its') (hz:ys.length≤Bk) :
  Inv X pins σ (upd H l (.lst ys)) { s with heap:=s.heap.update l (DP f),toks:=t' }:=by
 have q:=PySem.IsL.update e f;rw[hf]at q;refine I.write (x:=l) (e:=l) (by rw[hH]; exact trivial) (.inl rfl) (fun b' u hb hu=>(Kc s.heap (DP f) (DX hb)).trans hu) ⟨_,q⟩ ?_;exact⟨hz,its',_,hv,q⟩
theorem Inv.lnew {its:List Ab} {t':Nat} (I:Inv X pins σ H s) (hv:Vals ys its) (hz:ys.length≤Bk) :
  Inv X pins σ (upd H s.heap.objs.size (.lst ys)) { s with heap:=s.heap.push { cls:=.type "list",data:=.seq its.toArray },toks:=t' }:=
 I.laid (fun _ _ q=>BK _ q) (Ax _) ⟨hz,its,0,hv,CT _ rfl⟩
theorem Inv.fresh (I:Inv X pins σ H s):H s.heap.objs.size=none:=I.hok.fresh (Ax _)
theorem Inv.lstM (I:Inv X pins σ H s) (hH:H l=some (.lst xs)):xs.length≤Bk∧∃(its:List Ab) (n:Nat),Vals xs its∧xs.length=its.length∧s.heap.get? l=some { cls:=.type "list",data:=.seq its.toArray n }:=by
 obtain⟨z,its,n,r,e⟩:=I.hok l _ hH;exact⟨z,its,n,r,r.length,e⟩
end
section
variable {X:Cx}
noncomputable def ZF:V→List V→Hp→VK→Prop:=fun x vs H Q=>∃l xs y,x=.ref l∧vs=[y]∧H l=some (.lst xs)∧xs.length < Bk∧Q .non (upd H l (.lst (xs++[y])))
theorem Jg:MtM X "list.append" ZF:=by
 intro pins s σ H x vs v us Q I rx rv h;obtain⟨l,xs,y,rfl,rfl,hH,hz,q⟩:=h
 cases rx
 obtain⟨u,rfl,ru⟩:=rv.one;obtain⟨z,its,n,r,hl,e⟩:=I.lstM hH;refine vy Kd ⟨_,e,rfl⟩ F.entry_list_append (F.args_list_append_2 _ _) (PySem.list_append l its.toArray n u (by rw[Cu]; omega)) ⟨e,?_⟩;refine⟨.non,_,I.lset (its':=its++[u]) hH e (by simp) (r.append (.cons ru .nil)) ?_,rfl,q⟩;rw[Ca,Ei];omega
noncomputable def rPop:V→List V→Hp→VK→Prop:=fun x vs H Q=>∃l xs y,x=.ref l∧vs=[]∧H l=some (.lst xs)∧xs[xs.length - 1]?=some y∧Q y (upd H l (.lst xs.dropLast))
theorem ZyE:MtM X "list.pop" rPop:=by
 intro pins s σ H x vs v us Q I rx rv h;obtain⟨l,xs,y,rfl,rfl,hH,hy,q⟩:=h
 cases rx
 have hus:=rv.zero;subst hus;obtain⟨z,its,n,r,hl,e⟩:=I.lstM hH;obtain⟨u,hu,ru⟩:=r.get hy
 have hy':its.toArray[its.toArray.size - 1]?=some u:=by
  show its.toArray[its.length - 1]?=some u;rw[←IK,←hl];exact hu
 refine vy YaR ⟨_,e,rfl⟩ F.entry_list_pop (F.args_list_pop_1 _) (MeetsSeq.list_pop_last l its.toArray n u hy' (by rw[Cu]; omega)) ⟨e,?_⟩;refine⟨y,_,I.lset (its':=its.dropLast) hH e ?_ r.dropLast ?_,ru,q⟩
 ·show its.toArray.eraseIdxIfInBounds (its.toArray.size - 1)=its.dropLast.toArray
  rw[Cu,YaS,ZpY]
 ·rw[List.length_dropLast]
  omega
noncomputable def ZG:V→List V→Hp→VK→Prop:=fun x vs H Q=>∃l xs,x=.ref l∧vs=[]∧H l=some (.lst xs)∧Q .non (upd H l (.lst []))
theorem Zo8:MtM X "list.clear" ZG:=by
 intro pins s σ H x vs v us Q I rx rv h;obtain⟨l,xs,rfl,rfl,hH,q⟩:=h
 cases rx
 have hus:=rv.zero;subst hus;obtain⟨z,its,n,r,hl,e⟩:=I.lstM hH;refine vy vz ⟨_,e,rfl⟩ F.entry_list_clear (F.args_list_clear_1 _) (AutoSeq1.list_clear_list_0 l its.toArray n (by rw[Cu]; omega)) ⟨e,?_⟩;exact⟨.non,_,I.lset (its':=[]) (ys:=[]) hH e rfl .nil (Cy _),rfl,q⟩
noncomputable def rCat:R2:=fun x y H Q=>∃l b xs zs,x=.ref l∧y=.ref b∧H l=some (.lst xs)∧H b=some (.lst zs)∧xs.length+zs.length≤Bk∧∀p,H p=none→Q (.ref p) (upd H p (.lst (xs++zs)))
theorem ZyJ:OpR X (binaryOp .Add) rCat:=by
 intro pins s σ H x y v u Q I rx ry h;obtain⟨l,b,xs,zs,rfl,rfl,hH,hB,hz,q⟩:=h
 cases rx
 cases ry
 obtain⟨z,its,n,r,hl,e⟩:=I.lstM hH;obtain⟨z2,its2,n2,r2,hl2,e2⟩:=I.lstM hB;refine PySem.P.add_list e e2 ?_ (by rw[Cu,Cu]; omega)
 have ea:its.toArray++its2.toArray=(its++its2).toArray:=by simp
 rw[ea];exact⟨.ref _,_,I.lnew (t':=s.toks) (r.append r2) (by rw[Ca]; omega),rfl,q _ I.fresh⟩
end
section
variable {prog:Ay} {w:Av} {A:Bp} {E:Ab→Ae→Prop} {s:Ae}
end
section
variable {X:Cx}
end
end L2
namespace L2
open PySem PySem.Spec PyProof.Rows
section
variable {κ:Type} [DecidableEq κ]
noncomputable def valV (kvs:List (κ×V)) (k:κ):Option V:=(kvs.find? fun kv=>decide (kv.1=k)).map (·.2)
noncomputable def putK (kvs:List (κ×V)) (k:κ) (v:V):List (κ×V):=
 if (kvs.any fun kv=>decide (kv.1=k))=true then kvs.map (fun kv=>if kv.1=k then(kv.1,v) else kv) else kvs++[(k,v)]
theorem ZpF {p:κ×V} {r:List (κ×V)} {k:κ} (e:p.1=k):valV (p::r) k=some p.2:=by simp[valV,Yh,e]
theorem ZpE {p:κ×V} {r:List (κ×V)} {k:κ} (e : ¬p.1=k):valV (p::r) k=valV r k:=by simp[valV,Yh,e]
theorem ZpD (k:κ):∀kvs:List (κ×V),(kvs.any fun kv=>decide (kv.1=k))=(valV kvs k).isSome
 | []=>rfl
 | p::r=>by
  rw[Yi]
  by_cases e:p.1=k
  ·simp only [ZpF e,decide_eq_true e,Bool.true_or,Option.isSome_some]
  ·rw[ZpE e,decide_eq_false e,YaT]; exact ZpD k r
theorem ZjE (kvs:List (κ×V)) (k:κ) (v:V):(putK kvs k v).length≤kvs.length+1:=by
 unfold putK
 split
 ·rw[Az]; omega
 ·rw[Ca,Ds,G3]; omega
theorem RelO.isSome_eq {o:Option V} {u:Option Ab} (r:RelO o u):o.isSome=u.isSome:=by
 cases o with
 | none=>cases u with
  | none=>rfl
  | some _=>exact(show False from r).elim
 | some _=>cases u with
  | none=>exact(show False from r).elim
  | some _=>rfl
theorem KV.any {kvs:List (κ×V)} {vs:List (κ×Ab)} (r:KV kvs vs) (k:κ):(kvs.any fun kv=>decide (kv.1=k))=vs.any fun kv=>decide (kv.1=k):=by
 unfold KV at r
 induction r with
 | nil=>rfl
 | cons h t ih=>rw[Yi,Yi,ih,h.1]
theorem KV.repl {kvs:List (κ×V)} {vs:List (κ×Ab)} (r:KV kvs vs) (k:κ) {y:V} {u:Ab} (ry:RelV y u) :
  KV (kvs.map fun kv=>if kv.1=k then(kv.1,y) else kv) (vs.map fun kv=>if kv.1=k then(kv.1,u) else kv):=by
 unfold KV at r ⊢
 induction r with
 | nil=>exact .nil
 | @cons p q ps qs h t ih=>
  rw[Cv,Cv];refine .cons ?_ ih;obtain⟨h1,h2⟩:=h
  by_cases e:p.1=k
  ·rw[if_pos e,if_pos (h1.symm.trans e)]; exact⟨h1,ry⟩
  ·rw[if_neg e,if_neg (fun z=>e (h1.trans z))]; exact⟨h1,h2⟩
theorem KV.put {kvs:List (κ×V)} {vs:List (κ×Ab)} (r:KV kvs vs) (k:κ) {y:V} {u:Ab} (ry:RelV y u):KV (putK kvs k y) (stored vs k u):=by
 unfold putK stored;rw[r.any k]
 by_cases e:(vs.any fun kv=>decide (kv.1=k))=true
 ·rw[if_pos e,if_pos e]; exact r.repl k ry
 ·rw[if_neg e,if_neg e]; exact Rt r ⟨rfl,ry⟩
theorem KV.length {kvs:List (κ×V)} {vs:List (κ×Ab)} (r:KV kvs vs):kvs.length=vs.length:=K1 r
end
theorem Zyq {P:Ay} {w:Av} {k:Key} {u:Ab} (r:RelV (kV k) u):(Gb P w).is k u=true:=by
 cases k with
 | inl i=>obtain⟨t,e⟩:=(show ∃t,u=GR i t from r); subst e; exact Zn2 P w i t
 | inr x=>obtain⟨t,e⟩:=(show ∃t,u=Te x t from r); subst e; exact Zn3 P w x t
theorem Zm1 {P:Ay} {w:Av}:∀{ks:List Key} {us:List Ab},Vals (ks.map kV) us→ItemsAre (Gb P w) ks us
 | [],_,r=>by rw[Fe]at r; cases r; exact .nil
 | k::ks,_,r=>by
  rw[Cv]at r
  cases r with
  | cons h t=>exact .cons (Zyq h) (Zm1 t)
noncomputable abbrev KT (H:Hp):List (List Key×V)→List (List Key×Aa×Ab)→Prop:=Bd fun p q=>p.1=q.1∧H q.2.1=some (.tup (p.1.map kV))∧RelV p.2 q.2.2
theorem KT.val {H:Hp} {kvs:List (List Key×V)} {xs:List (List Key×Aa×Ab)} (r:KT H kvs xs) (k:List Key):RelO (valV kvs k) ((atKey xs k).map (·.2)):=by
 induction r with
 | nil=>exact Jr
 | @cons p q ps qs h t ih=>
  obtain⟨h1,_,h2⟩:=h
  by_cases e:p.1=k
  ·have e':q.1=k:=h1.symm.trans e
   have b:atKey (q::qs) k=some q.2:=by simp[atKey,Yh,e']
   rw[ZpF e,b]; exact h2
  ·have e' : ¬q.1=k:=fun z=>e (h1.trans z)
   have b:atKey (q::qs) k=atKey qs k:=by simp[atKey,Yh,e']
   rw[ZpE e,b]; exact ih
theorem KT.repl {H:Hp} {kvs:List (List Key×V)} {xs:List (List Key×Aa×Ab)} (r:KT H kvs xs) (k:List Key) {y:V} {u:Ab} (ry:RelV y u) :
  KT H (kvs.map fun kv=>if kv.1=k then(kv.1,y) else kv) (xs.map (putAt k u)):=by
 induction r with
 | nil=>exact .nil
 | @cons p q ps qs h t ih=>
  rw[Cv,Cv];refine .cons ?_ ih;obtain⟨h1,h2,h3⟩:=h;unfold putAt
  by_cases e:p.1=k
  ·rw[if_pos e,if_pos (h1.symm.trans e)]; exact⟨h1,h2,ry⟩
  ·rw[if_neg e,if_neg (fun z=>e (h1.trans z))]; exact⟨h1,h2,h3⟩
theorem KT.put {H:Hp} {kvs:List (List Key×V)} {xs:List (List Key×Aa×Ab)} (r:KT H kvs xs) (k:List Key) {b:Aa} {y:V} {u:Ab} (hb:H b=some (.tup (k.map kV))) (ry:RelV y u) :
  KT H (putK kvs k y) (storedH xs k b u):=by
 have e:(kvs.any fun kv=>decide (kv.1=k))=(atKey xs k).isSome:=by
  rw[ZpD,(r.val k).isSome_eq,Option.isSome_map]
 unfold putK storedH;rw[e]
 by_cases q:(atKey xs k).isSome=true
 ·rw[if_pos q,if_pos q]; exact r.repl k ry
 ·rw[if_neg q,if_neg q]; exact Rt r ⟨rfl,hb,ry⟩
theorem KT.keeps {H H':Hp} {kvs:List (List Key×V)} {xs:List (List Key×Aa×Ab)} (r:KT H kvs xs) (ht:∀b ys,H b=some (.tup ys)→H' b=some (.tup ys)):KT H' kvs xs:=
 Paired.mapP r fun _ _ z=>⟨z.1,ht _ _ z.2.1,z.2.2⟩
section
variable {P:Ay} {w:Av} {H:Hp} {h:Ar} {a:Aa}
theorem Zy3 {u:HO} (ok:HOk P w H h) (e:Rd H a u):Ck P w H h a u:=e.ok ok
theorem ZzF {kvs:List (Key×V)} (ok:HOk P w H h) (e:Rd H a (.dK kvs)):kvs.length≤Bk∧(a == sysModules)=false∧∃vs,KV kvs vs∧h.DictOf (Gb P w) a vs:=
 show Ck P w H h a (.dK kvs) from Zy3 ok e
theorem ZzE {kvs:List (Key×V)} (ok:HOk P w H h) (e:H a=some (.dK kvs)):kvs.length≤Bk∧(a == sysModules)=false∧∃vs,KV kvs vs∧h.DictOf (Gb P w) a vs:=ZzF ok (.inl e)
theorem ZvP {ks:List Key} (ok:HOk P w H h) (e:H a=some (.tup (ks.map kV))):(tupleKind (Gb P w)).is h ks a:=by
 obtain⟨_,its,r,o,h1,h2,n,h3⟩:=(show Ck P w H h a (.tup (ks.map kV)) from ok a _ e);exact⟨o,its.toArray,n,h1,h2,h3,by simpa using Zm1 r⟩
theorem ZzH {kvs:List (List Key×V)} (ok:HOk P w H h) (e:Rd H a (.dT kvs)):kvs.length≤Bk∧(a == sysModules)=false∧
  ∃xs,KT H kvs xs∧h.DictOfH (tupleKind (Gb P w)) a xs:=by
 obtain⟨z,y,xs,r,o,es,ep,h1,h2,h3,h4,h5⟩:=(show Ck P w H h a (.dT kvs) from Zy3 ok e);refine⟨z,y,xs,r,o,es,ep,h1,h2,h3,h4,fun x hx=>?_,h5⟩
 have all:∀{l:List (List Key×V)} {m:List (List Key×Aa×Ab)},KT H l m→∀x∈m,(tupleKind (Gb P w)).is h x.1 x.2.1:=by
  intro l m q
  induction q with
  | nil=>intro x hx; exact nomatch hx
  | @cons p q ps qs hq t ih=>
   intro x hx
   rcases CZ.mp hx with e | hx
   ·subst e
    exact ZvP ok (by rw[←hq.1]; exact hq.2.1)
   ·exact ih x hx
 exact all r x hx
theorem ZzG {kvs:List (List Key×V)} (ok:HOk P w H h) (e:H a=some (.dT kvs)):kvs.length≤Bk∧(a == sysModules)=false∧
  ∃xs,KT H kvs xs∧h.DictOfH (tupleKind (Gb P w)) a xs:=ZzH ok (.inl e)
end
def DPut (H:Hp) (a:Aa) (y v:V) (H':Hp):Prop:=
 (∃kvs k,H a=some (.dK kvs)∧y=kV k∧kvs.length < Bk∧H'=upd H a (.dK (putK kvs k v)))∨
 ∃kvs k b,H a=some (.dT kvs)∧y=.ref b∧H b=some (.tup (k.map kV))∧kvs.length < Bk∧H'=upd H a (.dT (putK kvs k v))
theorem DPut.t {H:Hp} {a b:Aa} {kvs:List (List Key×V)} {k:List Key} {v:V} (e:H a=some (.dT kvs)) (eb:H b=some (.tup (k.map kV))) (hl:kvs.length < Bk) :
  DPut H a (.ref b) v (upd H a (.dT (putK kvs k v))):=.inr ⟨kvs,k,b,e,rfl,eb,hl,rfl⟩
section
variable {X:Cx} {pins:List (Aa×Obj)} {σ:St} {H:Hp} {s:Ae} {a:Aa} {y v:V} {u r:Ab} {o:Option V} {A:Bp} {E:Ab→Ae→Prop}
theorem Inv.big (I:Inv X pins σ H s):sysModules < s.heap.objs.size:=by
 have h:Bj < s.heap.objs.size:=(I.mod.glob.keeps I.bk).lt;exact wg (by decide) h
theorem Zq9 {h':Ar} {t':Nat} {ob:HO} (I:Inv X pins σ H s) (mu:Mut (H a)) (hs:HX a s.heap h') (he:∃q,h'.get? a=some q) (new:Ck X.prog X.w (upd H a ob) h' a ob) :
  Inv X pins σ (upd H a ob) { s with heap:=h',toks:=t' }:=
 I.write (x:=a) (e:=a) mu (.inl rfl) (fun b q hb z=>(hs.2 b hb).trans z) he new
theorem Zx0 {P:Ay} {w:Av} {H':Hp} {h':Ar} {kvs:List (Key×V)} {vs:List (Key×Ab)} (z:kvs.length≤Bk) (hd:(a == sysModules)=false) (rel:KV kvs vs) (dd:h'.DictOf (Gb P w) a vs) :
  Ck P w H' h' a (.dK kvs):=⟨z,hd,vs,rel,dd⟩
theorem Zq8 {H':Hp} {Q:Unit→Ae→Prop} (hu:A.units+1 < cLine) (I:Inv X pins σ H s) (g:DPut H a y v H') (ry:RelV y u) (rv:RelV v r) (h:∀s',Inv X pins σ H' s'→Q () s') :
  Ai (model X.prog X.w) A (setItem (.ref a) u r) Q E s:=by
 rcases g with⟨kvs,k,e,ey,l,eH⟩ | ⟨kvs,k,b,e,ey,eb,l,eH⟩
 ·subst ey eH
  obtain⟨z,hd,vs,rel,dd⟩:=ZzE I.hok e
  have hz:vs.length≤Bk:=by rw[←rel.length]; exact z
  have hl:(putK kvs k v).length≤Bk:=by have:=ZjE kvs k v; omega
  refine wpAny_setItem_pairs (hsz:=hz) (Zyq ry) dd fun h' dd' hs=>h _ ?_;have he:∃q,h'.get? a=some q:=let ⟨q,_,_,hq,_⟩:=dd'; ⟨q,hq⟩;exact Zq9 I (by rw[e]; exact Jr) hs he (Zx0 hl hd (rel.put k rv) dd')
 ·subst ey eH
  cases (show u=Be b from ry)
  obtain⟨z,hd,xs,rel,dd⟩:=ZzG I.hok e
  have hz:xs.length≤Bk:=by rw[←K1 rel]; exact z
  have hl:(putK kvs k v).length≤Bk:=by have:=ZjE kvs k v; omega
  refine wpAny_setItem_heap (hsz:=hz) (tupleKind_room_in1 hu) (ZvP I.hok eb) dd fun h' dd' hs=>h _ ?_;obtain⟨q,es,ep,hq,h2,h3,h4,_,h5⟩:=dd';refine Zq9 I (by rw[e]; exact Jr) hs ⟨q,hq⟩ ⟨hl,hd,_,(rel.put k eb rv).keeps fun c ys ec=>?_,q,es,ep,hq,h2,h3,h4,h5⟩;rw[Bo (BZ ec e (fun z=>nomatch z))];exact ec
end
section
variable {X:Cx} {pins:List (Aa×Obj)} {σ:St} {H:Hp} {s:Ae} {a:Aa} {kvs:List (Key×V)} {k:Key} {u:Ab} {A:Bp} {E:Ab→Ae→Prop}
end
noncomputable def Zy6 (td ty tv:TE):TS:=fun D σ H=>tv σ H fun v H1=>td σ H1 fun x H2=>ty σ H2 fun y H3=>∃a H4,x=.ref a∧DPut H3 a y v H4∧D.nx σ H4
section
variable {X:Cx} {o i e value:Aw} {pos pos' tpos:Pos} {td ty tv:TE}
theorem ZJ (hu:X.A.units+1 < cLine) (ho:PE X o td) (hi:PE X i ty) (hv:PE X value tv) (hs:swapsWith value (some (.Subscript o i pos')) pos.line X.env=pure false) :
  PS X (.Assign [.Subscript o i pos'] value pos) (Zy6 td ty tv):=by
 intro pins s σ H D I h;refine wpAny_Assign_Subscript (thn (hv pins s σ H _ I h) fun r s1 ⟨v,H1,I1,rv,q1⟩=>thn (ho pins s1 σ H1 _ I1 q1) fun u s2 ⟨x,H2,I2,rx,q2⟩=>thn (hi pins s2 σ H2 _ I2 q2) fun iv s3 ⟨y,H3,I3,ry,a,H4,ex,g,q3⟩=>?_) hs;subst ex;obtain rfl:u=Be a:=rx;exact Zq8 hu I3 g ry rv fun s4 I4=>⟨σ,H4,I4,q3⟩
end
theorem ZtN {P:Ay} {w:Av} {H:Hp} (h:Ar) (hb:sysModules < h.objs.size):Ck P w H (h.push { cls:=.type "dict",data:=.dict #[] }) h.objs.size (.dT []):=
 ⟨Cy _,beq_eq_false_iff_ne.mpr (DX (Ce hb)),[],.nil,_,#[],0,CT _ rfl,⟨rfl,rfl,rfl⟩,rfl,rfl,YaU⟩
noncomputable def Zv9:TE:=fun _ H Q=>∀p,H p=none→Q (.ref p) (upd H p (.dT []))
section
variable {X:Cx} {pos:Pos}
theorem Zph:PE X (.Dict [] [] pos) Zv9:=fun pins s σ H Q I h=>
 wpAny_Dict_empty ⟨.ref s.heap.objs.size,_,I.laid (a:=s.heap.objs.size) (o:=.dT []) (t':=s.toks) (fun _ _ q=>BK _ q) (Ax _) (ZtN s.heap I.big),rfl,h _ (I.hok.fresh (Ax _))⟩
end
section
variable {X:Cx} {pins:List (Aa×Obj)} {σ:St} {H:Hp} {s:Ae} {a:Aa} {y d:V} {u r:Ab} {o:Option V} {A:Bp} {E:Ab→Ae→Prop}
end
section
variable {X:Cx} {o e f:Aw} {apos cpos:Pos} {td ty tx:TE}
end
section
variable {X:Cx} {pins:List (Aa×Obj)} {σ:St} {H:Hp} {s:Ae} {a:Aa} {kvs:List (Key×V)} {A:Bp} {E:Ab→Ae→Prop}
end
section
variable {X:Cx} {pins:List (Aa×Obj)} {σ:St} {H:Hp} {s:Ae} {a:Aa} {y:V} {u:Ab} {A:Bp} {E:Ab→Ae→Prop}
end
end L2
namespace Att
open PySem PySem.W PySem.Calls PyProof.Rows
theorem Zjv {P:Yj} {h:Ar}:∀(ns:List Int) (vs:List Ab),WellAll P h vs (ns.map YaV)→GZ vs ns:=by
 intro ns
 induction ns with
 | nil=>
  intro vs w;rw[Fe]at w
  cases w
  exact .nil
 | cons n ns ih=>
  intro vs w;rw[Cv]at w
  cases w with
  | cons a b=>
   cases a
   exact .cons _ _ (ih _ b)
theorem ZsO {l:Tw} {n:Nat} (hn:l.most=some n) {P:Yj} {h:Ar} {args:List WData} {vals:List Ab}
  (hpre:l.row.toRowW.claim.pre args=true) (hwl:WellAll P h vals args) :
  ∃a vs ns,vals=[Be a]∧args=[WData.list (ns.map YaV)]∧h.get? a=some { cls:=.type "list",data:=.seq vs.toArray }∧GZ vs ns∧ns.length≤n:=by
 have hsh:WShape.hasAll [] args [.list .int]=true:=(pre_splitW hpre).1;have hc:l.pre.holds [] { args:=args } = true:=(pre_splitW hpre).2;obtain⟨d,r,rfl,h1,h2⟩:=hasAllW_cons hsh;obtain rfl:=hasAllW_nil h2;obtain⟨xs,rfl,h3⟩:=hasW_list h1;obtain⟨ns,rfl⟩:=items_int h3
 have hlen:ns.length≤n:=by
  unfold Tw.pre at hc
  have h4:(WTm.not (.lt (.lit (.int (n:Int))) (.len (.arg 0)))).holds [] { args:=[.list (ns.map .int)] } = true:=by
   have h4:=(holds_andW hc).1;rw[hn]at h4;exact h4
  have h5:=condW_of h4 (w_not (w_lt w_lit (w_len_list (w_arg rfl))));rw[Az]at h5;refine Nat.le_of_not_lt fun q=>?_
  have q':(n:Int) < ((ns.length:Nat):Int):=by omega
  first
   | (rw[decide_eq_true q']at h5; exact absurd h5 (by decide))
   | (simp at h5; omega)
 cases hwl with
 | cons w1 w2=>
  cases w2
  cases w1 with
  | list ho hall=>exact⟨_,_,ns,rfl,rfl,ho,Zjv ns _ hall,hlen⟩
theorem Zss (l:Tw) (args:List WData):l.row.toRowW.claim.post args (.bool true) args=true:=
 postW_of (r:=l.row.toRowW) (X:=(true == true))
  (show YaW [] (.bool true) .bool=true by first | rfl | decide | simp[YaW,WShape.arms,WShape.armsAll])
  (show(WTm.eq .res (.lit (.bool true))).value [] { args:=args,res:=some (.bool true),after:=args } = some (.bool (true == true)) from w_eq_bool (w_res rfl) w_lit) rfl
theorem attach_call {l:Tw} {n:Nat} {q:Ay} {loose:List Str} {XP:(Str→Option Ab)→Ar→Prop} {YP:Av→Ar→Prop} {d:DefRec}
  (hn:l.most=some n) (hdf:d.params.defaults=[])
  (call:∀(w:Av) (s₀ s₁:Ae) (mg mb:Str→Option Ab) (fa:Aa) (o:Obj) (pm cd doc:Ab) (a:Aa) (vs:List Ab) (ns:List Int),
   Ground q loose [] XP w s₀ mg mb s₁.heap→YP w s₁.heap→
   s₁.heap.get? fa=some o→o.data=.func (docDef d.name d.params d.body d.scope pm cd doc)→s₁.heap.CodeRec cd d.name→mg d.name=some (.ref fa)→
   s₁.heap.get? a=some { cls:=.type "list",data:=.seq vs.toArray }→GZ vs ns→ns.length≤n→s₁.gens = #[]→
   codeAny (model l.prog w) callerA (.call (.ref fa) ⟨[.ref a],[]⟩) (fun r s'=>r=.ok (.ret (.bool true))∧OldK s₁.heap s'.heap∧s'.os=s₁.os∧Jq s'.gens) s₁) :
  wj q loose XP YP l.row.toRowW d [] (fun f vs=>PySem.call f vs):=by
 intro w s₀ s₁ mg mb G Y fa o pm cd doc dV kV ho hd hcd hD hmg hg args vals as hpre hlay hrd hwl hlo;obtain rfl:dV=.none:=Dflts.none hD hdf;obtain rfl:kV=.none:=Dflts.noKw hD;obtain⟨a,vs,ns,rfl,rfl,hobj,hints,hlen⟩:=ZsO hn hpre hwl;refine enter_call (Ro (call w s₀ s₁ mg mb fa o pm cd doc a vs ns G Y ho (fd_plain hd) hcd hmg hobj hints hlen hg) fun r s' hq=>?_);obtain⟨rfl,h2,h3,h4⟩:=hq;exact⟨.inl ⟨.bool true,.bool true,[],rfl,fun _=>rfl,.bool true,Zss l _,fun _=>⟨YaX,fun _ hm=>(nomatch hm)⟩⟩,h2,h3,h4⟩
section
variable {prog:Ay} {w:Av} {A:Bp} {E:Ab→Ae→Prop} {s:Ae} {K:Ao}
end
end Att
namespace L2
open PySem PySem.Spec PyProof.Rows
theorem ZnE:∀{vs:List Ab} {ns:List Int},GZ vs ns→Vals (ns.map V.int) vs
 | _,_,.nil=>.nil
 | _,_,.cons n t h=>.cons ⟨t,rfl⟩ (ZnE h)
def Only (H:Hp):Prop:=∀b,H b=none∨∃o xs,H b=some (.frz o (.lst xs))
theorem Zt8 {P:Ay} {w:Av} {K:Ao} {mg mb:Str→Option Ab} {CX:CXT} {k:Nat} {fa a:Aa} {fd:Bq} {x:Str} {sp:Sp} {s₁:Ae} {vs:List Ab} {ns:List Int}
  (KX:K.In s₁.heap) (hns:s₁.heap.Ns Bj mg) (hb:s₁.heap.Ns builtinsNs mb) (hbb:∀x:Str,x≠"__name__"→mb x=bootBuiltins x) (hlim:s₁.heap.NoLimit) (hg:s₁.gens = #[])
  (ha:s₁.heap.get? a=some { cls:=.type "list",data:=.seq vs.toArray }) (hi:GZ vs ns) (hl:ns.length≤Bk) (hr:Room k callerA)
  (F:∀base:Ar,K.In base→base.Ns Bj mg→FnOk P w K mg base CX k fa fd [x] sp) (hbind:∀(s:Ae) (u:Ab),Rn s fd ⟨[u],[]⟩ [(x,u)])
  (hsp:∀H:Hp,Only H→SqL K H a (ns.map V.int)→sp [.ref a] H (fun v _=>v=.bl true) fun _ _ _=>False)
  (hCX:∀H e s',CX [] H s₁ (fun _ _ _=>False) e s'→False) :
  codeAny (model P w) callerA (.call (.ref fa) ⟨[.ref a],[]⟩) (fun r s'=>r=.ok (.ret (.bool true))∧OldK s₁.heap s'.heap∧s'.os=s₁.os∧Jq s'.gens) s₁:=by
 have rv:=ZnE hi;have lenV:=hi.length
 have core:∀H:Hp,Only H→SqL K H a (ns.map V.int)→HOk P w H s₁.heap→(∀b,H b≠none→b=a)→(H a≠none→K.lookup a=none)→
   codeAny (model P w) callerA (.call (.ref fa) ⟨[.ref a],[]⟩) (fun r s'=>r=.ok (.ret (.bool true))∧OldK s₁.heap s'.heap∧s'.os=s₁.os∧Jq s'.gens) s₁:=by
  intro H hO hS hok hA hK;have base_of:∀{b:Aa} {o:Obj},s₁.heap.get? b=some o→H b=none→(hidT s₁.heap H).get? b=some o:=fun e n=>ZtV e n
  have noA:∀{b:Aa} {o:Obj} {es:Array K8} {ep:Nat},s₁.heap.get? b=some o→o.data=.dict es ep→H b=none:=fun {b o es ep} e d=>by
   cases q:H b with
   | none=>rfl
   | some u=>
    have e':b=a:=hA b (by rw[q]; simp);subst e';rw[ha]at e; cases e;have d':Data.seq vs.toArray _=Data.dict es ep:=d
    cases d'
  have nsK:∀{b:Aa} {m:Str→Option Ab},s₁.heap.Ns b m→(hidT s₁.heap H).Ns b m:=fun {b m} ⟨o,es,ep,e,d,r⟩=>⟨o,es,ep,base_of e (noA e d),d,r⟩
  have hKb:K.In (hidT s₁.heap H):=fun b o e=>base_of (KX b o e) (by
   cases q:H b with
   | none=>rfl
   | some u=>
    have e':b=a:=hA b (by rw[q]; simp);subst e'
    rw[hK (by rw[q]; simp)]at e; cases e)
  have hM:Mod K mg (hidT s₁.heap H):=⟨hKb,nsK hns,⟨mb,nsK hb,hbb⟩,let ⟨mc,h1,h2⟩:=hlim; ⟨mc,nsK h1,h2⟩⟩;have e0:Env0 P w K mg (hidT s₁.heap H) callerA [] s₁ H:=⟨rfl,hM,fun b o e=>Zw2 e,YaC (Zrq _ _),trivial,fun b hb=>absurd (show b∈([]:List Aa) from hb) (by simp),hok,.of_eq hg⟩;refine Ro ((F _ hKb (nsK hns)).run callerA [] s₁ H ⟨[.ref a],[]⟩ [.ref a] [.ref a] _ _ hr e0 (hbind s₁ (.ref a)) (.cons rfl .nil) (hsp H hO hS)) fun r s' h=>?_
  cases r with
  | error e=>exact(hCX H e s' h).elim
  | ok fl=>
   cases fl with
   | next=>exact Gj h
   | brk=>exact Gj h
   | cont=>exact Gj h
   | ret u=>
    obtain⟨v,H',os,bare,un,hok',r',q⟩:=h;have q':v=.bl true:=q;subst q';obtain rfl:u=J3 true:=r';refine⟨rfl,OldK.of_keep fun b o e=>?_,os,bare⟩
    cases q:H b with
    | none=>exact un.keep b o e q (by intro z; exact absurd (show b∈([]:List Aa) from z) (by simp)) (by simp)
    | some u=>
     rcases hO b with z | ⟨ob,xs,z⟩
     ·rw[q]at z; cases z
     ·have z2:=un.frzs b ob _ z
      obtain⟨e1,_⟩:=hok b _ z;obtain⟨e2,_⟩:=hok' b _ z2;rw[e]at e1; cases e1;exact e2
 cases hk:K.lookup a with
 | some o=>
  have e:=KX a o hk;rw[ha]at e
  cases e
  refine core (fun _=>none) (fun _=>.inl rfl) (.inr ⟨_,vs.toArray,_,hk,rfl,rfl,rfl,by rw[Cu,lenV]; exact hl,by simpa using rv⟩) (fun b u z=>by have z':(none:Option HO)=some u:=z; cases z') (fun b z=>absurd rfl z) fun z=>absurd rfl z
 | none=>
  refine core (fun b=>if b=a then some (.frz { cls:=.type "list",data:=.seq vs.toArray } (.lst (ns.map V.int))) else none) (fun b=>?_) (.inl (.inr ⟨{ cls:=.type "list",data:=.seq vs.toArray },if_pos rfl⟩)) (fun b u z=>?_) (fun b z=>?_) fun _=>hk
  ·by_cases hb:b=a
   ·exact .inr ⟨_,_,if_pos hb⟩
   ·exact .inl (if_neg hb)
  ·by_cases hb:b=a
   ·have z':=(if_pos hb).symm.trans z
    cases z'
    subst hb;exact⟨ha,by rw[Az]; exact hl,vs,_,rv,ha⟩
   ·have z':=(if_neg hb).symm.trans z
    cases z'
  ·by_cases hb:b=a
   ·exact hb
   ·exact absurd (if_neg hb) z
end L2
namespace L2
open PySem PySem.Spec PyProof.Rows
noncomputable abbrev KOf {K:Ao} {h:Ar} (_:K.In h):Ao:=K
theorem ZxE {l:Tw} {n k:Nat} {q:Ay} {loose:List Str} {XP:(Str→Option Ab)→Ar→Prop} {YP:Av→Ar→Prop} {d:DefRec} {K:Yj→Ao} {CX:Av→CXT} {sp:Av→Sp} {x:Str}
  (hn:l.most=some n) (hn2:n≤Bk) (hdf:d.params.defaults=[]) (hr:Room k callerA)
  (hY:∀(w:Av) (h:Ar),YP w h→(K w.params).In h)
  (F:∀(w:Av) (mg:Str→Option Ab) (fa:Aa) (h:Ar),(K w.params).In h→h.Ns Bj mg→mg d.name=some (.ref fa)→
   ∃fd:Bq,(∀(s:Ae) (u:Ab),Rn s fd ⟨[u],[]⟩ [(x,u)])∧
    ∀base:Ar,(K w.params).In base→base.Ns Bj mg→FnOk l.prog w (K w.params) mg base (CX w) k fa fd [x] (sp w))
  (hsp:∀(w:Av) (H:Hp) (a:Aa) (ns:List Int),ns.length≤n→Only H→SqL (K w.params) H a (ns.map V.int)→sp w [.ref a] H (fun v _=>v=.bl true) fun _ _ _=>False)
  (hCX:∀(w:Av) (H:Hp) (s:Ae) (e:Ab) (s':Ae),CX w [] H s (fun _ _ _=>False) e s'→False) :
  wj q loose XP YP l.row.toRowW d [] (fun f vs=>PySem.call f vs):=by
 refine Att.attach_call hn hdf fun w s₀ s₁ mg mb fa o pm cd doc a vs ns G Y ho hd hcd hmg hobj hints hlen hg=>?_;have KX:=hY w _ Y;obtain⟨fd,hb,hF⟩:=F w mg fa _ KX G.T.g hmg;exact Zt8 KX G.T.g G.T.b G.T.builtins G.T.nolimit hg hobj hints (Eb hlen hn2) hr hF hb (fun H hO hS=>hsp w H a ns hlen hO hS) fun H e s'=>hCX w H s₁ e s'
theorem walk_ofK {l:Tw} {n k:Nat} {q:Ay} {loose:List Str} {XP:(Str→Option Ab)→Ar→Prop} {YP:Av→Ar→Prop} {d:DefRec} {K:Yj→Ao} {CX:CXT} {sp:Ao→Sp} {x:Str}
  (hn:l.most=some n) (hn2:n≤Bk) (hdf:d.params.defaults=[]) (hr:Room k callerA)
  (hY:∀(w:Av) (h:Ar),YP w h→(K w.params).In h)
  (F:∀(w:Av) (mg:Str→Option Ab) (fa:Aa) (h:Ar),(K w.params).In h→h.Ns Bj mg→mg d.name=some (.ref fa)→
   ∃fd:Bq,(∀(s:Ae) (u:Ab),Rn s fd ⟨[u],[]⟩ [(x,u)])∧
    ∀base:Ar,(K w.params).In base→base.Ns Bj mg→FnOk l.prog w (K w.params) mg base CX k fa fd [x] (sp (K w.params)))
  (hsp:∀(K:Ao) (H:Hp) (a:Aa) (ns:List Int),ns.length≤n→Only H→SqL K H a (ns.map V.int)→sp K [.ref a] H (fun v _=>v=.bl true) fun _ _ _=>False)
  (hCX:∀(H:Hp) (s:Ae) (e:Ab) (s':Ae),CX [] H s (fun _ _ _=>False) e s'→False) :
  wj q loose XP YP l.row.toRowW d [] (fun f vs=>PySem.call f vs):=
 ZxE (K:=K) (CX:=fun _=>CX) (sp:=fun w=>sp (K w.params)) hn hn2 hdf hr hY F (fun w H a ns h1 h2 h3=>hsp (K w.params) H a ns h1 h2 h3) fun _ H s e s'=>hCX H s e s'
end L2
namespace L2
open PySem PySem.Spec PyProof.Rows
noncomputable def Gz (s:Ba) (j:Nat):Ba:=match s with
 | .ClassDef _ _ _ body _ _ _ _ _ _ _=>body.getD j (.Pass ⟨0,0,0,0⟩)
 | _=>.Pass ⟨0,0,0,0⟩
noncomputable def Ly (s:Ba):Arguments:=match s with
 | .FunctionDef _ a _ _ _ _ _ _ _ _=>a
 | _=>{ posonlyargs:=[],args:=[],vararg:=none,kwonlyargs:=[],kw_defaults:=[],kwarg:=none,defaults:=[] }
noncomputable def JC (s:Ba):List Ba:=match s with
 | .FunctionDef _ _ b _ _ _ _ _ _ _=>b
 | _=>[]
noncomputable def Bf (s:Ba):DK:=match s with
 | .FunctionDef _ _ _ _ _ _ sc _ _ _=>sc
 | _=>{ kind:=.function,names:=[],isGenerator:=false,isCoroutine:=false }
noncomputable abbrev CX0:CXT:=fun _ _ _ _ _ _=>False
noncomputable abbrev E0:XK:=fun _ _ _=>False
theorem Vc {X:Cx}:NQ CX0 X E0:=fun _ _ _ _ _ _ _ h=>h.elim
structure Fun (K:Ao) (x qual:Str) (st:Ba) (f:Aa) (fd:Bq):Prop where
 ex:∃(oc:Ab) (od:Option Aa) (kV doc pm:Ab) (an:Option Aa) (cdv ct:Ab) (osl:Array (Option Ab)),
  fd=J8 x qual (Ly st) (JC st) (Bf st) .none kV doc pm an cdv ct∧K.lookup f=some ⟨oc,od,.func fd,osl⟩ ∧Tq K cdv qual=true
 kp:Iv K (.ref f)=true
section
variable {P:Ay} {w:Av} {K:Ao} {mg:Str→Option Ab} {base:Ar}
theorem Fun.ok {x qual:Str} {st:Ba} {f:Aa} {fd:Bq} {N ps:List Str} {k:Nat} {sp:Sp} (F:Fun K x qual st f fd) (S:FnScope N ps (Bf st)) (len:∀vs H Q E,sp vs H Q E→vs.length=ps.length)
  (hbody:∀(cdv:Ab) (A:Bp) (outer:List Env) (s:Ae) (H:Hp) (vs:List V) (Q:VK) (E:XK),Room k (A.deeper (envOfC qual (Bf st) s.heap.objs.size f cdv))→sp vs H Q E→
   ∃t,PSs (cxOf CX0 P w K mg base N qual (Bf st) f cdv A outer s H E).nox (JC st) t∧t { nx:=fun _ H'=>Q .non H',rt:=Q } (start N vs) H):FnOk P w K mg base CX0 (k+1) f fd ps sp:=by
 obtain⟨oc,od,kV,doc,pm,an,cdv,ct,osl,rfl,lk,hcd⟩:=F.ex;refine Zx4 lk hcd S len fun A outer s H vs Q E hr hsp=>?_;obtain⟨t,h,q⟩:=hbody cdv A outer s H vs Q E hr hsp;exact⟨t,h.nox,q⟩
theorem Fun.binds {x qual:Str} {st:Ba} {f:Aa} {fd:Bq} {ps:List Str} (F:Fun K x qual st f fd)
  (h:∀(kV doc pm:Ab) (an:Option Aa) (cdv ct:Ab) (us:List Ab),us.length=ps.length→bindArgs (J8 x qual (Ly st) (JC st) (Bf st) .none kV doc pm an cdv ct) ⟨us,[]⟩=pure (ps.zip us)):Bs K fd ps []:=by
 obtain⟨oc,od,kV,doc,pm,an,cdv,ct,osl,rfl,lk,hcd⟩:=F.ex;exact .all (h kV doc pm an cdv ct)
theorem Zvh {x qual:Str} {st:Ba} {f:Aa} {oc:Ab} {od an:Option Aa} {osl:Array (Option Ab)} {kV doc pm cdv ct:Ab} (l:K.lookup f=some ⟨oc,od,.func (J8 x qual (Ly st) (JC st) (Bf st) .none kV doc pm an cdv ct),osl⟩)
  (c:Tq K cdv qual=true) (k:Iv K (.ref f)=true):Fun K x qual st f (J8 x qual (Ly st) (JC st) (Bf st) .none kV doc pm an cdv ct):=⟨⟨oc,od,kV,doc,pm,an,cdv,ct,osl,rfl,l,c⟩,k⟩
end
section
variable {X:Cx}
theorem pv (i:Nat) {x:Str} {pos:Pos} (hN:X.N[i]?=some x:=by rfl) (hv:Vis X.env.scope x:=by first | exact Tz rfl | exact Ru (Tz rfl) | exact Ru (Ru rfl)) (hd:(x == ("__debug__" : Str))=false:=by decide)
  (hcd:(x == ("__classdict__" : Str))=false:=by decide):PE X (.Name x pos) (tVar i):=ZyU hN hv hd hcd
end
abbrev Same (H H':Hp):Prop:=∀b o,H b=some o→H' b=some o
theorem Same.refl (H:Hp):Same H H:=fun _ _ h=>h
theorem Same.trans {H H1 H2:Hp} (a:Same H H1) (b:Same H1 H2):Same H H2:=fun c o h=>b c o (a c o h)
theorem Same.free {H H':Hp} (e:Same H H') {l:Aa} (h:H' l=Option.none):H l=Option.none:=by
 cases q:H l with
 | none=>rfl
 | some o=>
  rw[e l o q]at h
  cases h
theorem Same.seq {K:Ao} {H H':Hp} {a:Aa} {xs:List V} (e:Same H H') (h:SqL K H a xs):SqL K H' a xs:=by
 rcases h with(h | ⟨o,h⟩) | h
 ·exact .inl (.inl (e _ _ h))
 ·exact .inl (.inr ⟨o,e _ _ h⟩)
 ·exact .inr h
section
variable {X:Cx}
end
section
variable {κ:Type} [DecidableEq κ]
end
end L2
namespace EM
noncomputable def bits (f:Nat→Bool):Nat→Nat
 | 0=>0
 | n+1=>bits f n+(if f n then 2 ^ n else 0)
theorem JD (f:Nat→Bool):∀n,bits f n < 2 ^ n
 | 0=>by simp[bits]
 | n+1=>by
  have h:=JD f n;simp only [bits]
  have e:(2:Nat) ^ (n+1)=2 ^ n+2 ^ n:=by rw[K9]; omega
  split <;> omega
theorem Gp (f:Nat→Bool) (i:Nat):∀n,(bits f n).testBit i=(decide (i < n) && f i)
 | 0=>by simp[bits]
 | n+1=>by
  have ih:=Gp f i n;have hl:=JD f n;simp only [bits]
  by_cases hf:f n=true
  ·rw[if_pos hf,Nat.add_comm]
   rcases Nb i n with h | h | h
   ·rw[wu h,ih]
    simp[h,Js h]
   ·subst h
    rw[YaY,ih];simp[hf]
   ·have:(2:Nat) ^ n+bits f n < 2 ^ i:=by
     have e:(2:Nat) ^ (n+1)=2 ^ n+2 ^ n:=by rw[K9]; omega
     have:(2:Nat) ^ (n+1)≤2 ^ i:=Hq (by decide) h;omega
    rw[TF this]
    have : ¬i < n+1:=by omega
    simp[this]
  ·rw[if_neg hf,TJ,ih]
   by_cases h:i=n
   ·subst h
    have:f i=false:=by simpa using hf
    simp[this]
   ·have:(i < n+1) ↔ (i < n):=by omega
    simp[this]
theorem Lz {f g:Nat→Bool} {n:Nat} (h:∀i,i < n→f i=g i):bits f n=bits g n:=by
 apply DQ;intro i;rw[Gp,Gp]
 by_cases hi:i < n
 ·simp[hi,h i hi]
 ·simp[hi]
theorem Zwo (f g:Nat→Bool) (n:Nat):bits f n ||| bits g n=bits (fun i=>f i || g i) n:=by
 apply DQ;intro i;rw[Fv,Gp,Gp,Gp]
 cases decide (i < n) <;> simp
theorem Vd (n:Nat):bits (fun _=>false) n=0:=by
 apply DQ;intro i;rw[Gp];simp
theorem ZnM (f:Nat→Bool) (n:Nat) (h:f n=true):bits f n ||| 2 ^ n=bits f (n+1):=by
 have e:=Nat.two_pow_add_eq_or_of_lt (JD f n) 1;rw[ww]at e;rw[Yk,←e];simp only [bits,h,if_true];omega
theorem ZmN (f:Nat→Bool) (n:Nat) (h:f n=false):bits f (n+1)=bits f n:=by
 simp[bits,h]
theorem ZtH (f:Nat→Bool) (n:Nat) (h:f n=true):bits f (n+1)=bits f n+2 ^ n:=by
 simp[bits,h]
theorem ZwV (s k:Nat):s.testBit k=decide (s / 2 ^ k % 2=1):=Nat.testBit_eq_decide_div_mod_eq
theorem ZK:∀(n x y:Nat),x < n→(x ||| y)=(x &&& y)+(x ^^^ y)
 | 0,x,y,h=>absurd h (by omega)
 | n+1,x,y,h=>by
  by_cases hx:x=0
  ·subst hx; simp
  ·have ih:=ZK n (x / 2) (y / 2) (by omega)
   have e1:=wy (x ||| y) 2;have e2:=wy (x &&& y) 2;have e3:=wy (x ^^^ y) 2;rw[Nat.or_div_two]at e1;rw[Nat.and_div_two]at e2;rw[Nat.xor_div_two]at e3;have m1:(x ||| y) % 2=(x % 2 ||| y % 2):=Nat.or_mod_two_pow (n:=1);have m2:(x &&& y) % 2=(x % 2 &&& y % 2):=Nat.and_mod_two_pow (n:=1);have m3:(x ^^^ y) % 2=(x % 2 ^^^ y % 2):=Nat.xor_mod_two_pow (n:=1)
   have m4:(x % 2 ||| y % 2)=(x % 2 &&& y % 2)+(x % 2 ^^^ y % 2):=by
    rcases Yl x with a | a <;> rcases Yl y with b | b <;> rw[a,b] <;> rfl
   omega
end EM
namespace EM
end EM
namespace L2
open PySem PySem.Spec PyProof.Rows
section
variable {σ:St} {H:Hp} {Q:VK} {D:Ends} {K:Ao} {BQ:Bool→Hp→Prop}
theorem Zym {i:Nat} {v:V} (h:σ[i]?=some (some v)) (k:Q v H):tVar i σ H Q:=⟨v,h,k⟩
theorem i_c {v:V} (k:Q v H):tC v σ H Q:=k
theorem i_op {r:R2} {ta tb:TE} (h:ta σ H fun x H1=>tb σ H1 fun y H2=>r x y H2 Q):tOp r ta tb σ H Q:=h
theorem i_un {r:V→Hp→VK→Prop} {ta:TE} (h:ta σ H fun x H1=>r x H1 Q):tUn r ta σ H Q:=h
theorem Zyi {g:Int→Int→V} {i j:Int} (h:Q (g i j) H):rI0 g (.int i) (.int j) H Q:=⟨i,j,rfl,rfl,h⟩
theorem i_rI {C:Int→Int→Prop} {g:Int→Int→V} {i j:Int} (c:C i j) (h:Q (g i j) H):rI C g (.int i) (.int j) H Q:=⟨i,j,rfl,rfl,c,h⟩
theorem i_rU {g:Int→V} {i:Int} (h:Q (g i) H):rU g (.int i) H Q:=⟨i,rfl,h⟩
theorem ZL {i j:Int} (h:Q (.bl (decide (i=j))) H):rEq (.int i) (.int j) H Q:=by
 refine⟨rfl,?_⟩
 have e:decide (V.int i=V.int j)=decide (i=j):=by simp
 rw[e]; exact h
theorem ZM {i j:Str} (h:Q (.bl (decide (i=j))) H):rEq (.str i) (.str j) H Q:=by
 refine⟨rfl,?_⟩
 have e:decide (V.str i=V.str j)=decide (i=j):=by simp
 rw[e]; exact h
theorem ZP {i j:Int} (h:Q (.bl (!decide (i=j))) H):rNe (.int i) (.int j) H Q:=by
 refine⟨rfl,?_⟩
 have e:decide (V.int i=V.int j)=decide (i=j):=by simp
 rw[e]; exact h
theorem ZQ {i j:Str} (h:Q (.bl (!decide (i=j))) H):rNe (.str i) (.str j) H Q:=by
 refine⟨rfl,?_⟩
 have e:decide (V.str i=V.str j)=decide (i=j):=by simp
 rw[e]; exact h
theorem ZvH {t:TE} (h:t σ H fun x H'=>∃k,x=.bl k∧BQ k H'):U8 t σ H BQ:=h
theorem Zya {b:Bool} {R:Bool→Prop} (h:R b):∃k,V.bl b=V.bl k∧R k:=⟨b,rfl,h⟩
theorem Zx7 {t u:TT} (h:t σ H fun c H1=>if c=true then u σ H1 BQ else BQ false H1):tAnd t u σ H BQ:=h
theorem i_or {t u:TT} (h:t σ H fun c H1=>if c=true then BQ true H1 else u σ H1 BQ):tOr t u σ H BQ:=h
theorem Zyh {t:TT} (h:t σ H fun c H1=>BQ (!c) H1):tNot t σ H BQ:=h
theorem Zvk {t u:TE} (h:t σ H fun x H1=>∃c,x=.bl c∧if c=true then u σ H1 Q else Q (.bl false) H1):Zzl t u σ H Q:=h
theorem Kv {t u:TS} (h:t { D with nx:=u D } σ H):tSeq t u D σ H:=h
theorem ZvB (h:D.nx σ H):Zzp D σ H:=h
theorem Zvm {te:TE} (h:te σ H fun _ H1=>D.nx σ H1):Zzm te D σ H:=h
theorem Zyj {te:TE} (h:te σ H D.rt):tRet te D σ H:=h
theorem ZvF (h:D.rt .non H):Zzt D σ H:=h
theorem Zyd {c:TT} {t u:TS} (h:c σ H fun b H1=>if b=true then t D σ H1 else u D σ H1):tIfS c t u D σ H:=h
theorem Zx8 {te:TE} {g:TG} (h:te σ H fun x H1=>g x σ H1 D.nx):tAsg te g D σ H:=h
theorem Zvx {i:Nat} {v:V} {R:St→Hp→Prop} (h:R (σ.set i (some v)) H):G9 i v σ H R:=h
theorem Zyg {R:List V→Hp→Prop} (h:R [] H):tNil σ H R:=h
theorem Zvl {ta:TE} {tr:TA} {R:List V→Hp→Prop} (h:ta σ H fun x H1=>tr σ H1 fun xs H2=>R (x::xs) H2):Jz ta tr σ H R:=h
theorem i_cb {r:List V→Hp→VK→Prop} {t:TA} (h:t σ H fun vs H1=>r vs H1 Q):tCB r t σ H Q:=h
abbrev NewL (xs:List V) (H:Hp) (Q:VK):Prop:=xs.length≤Bk∧∀p,H p=none→Q (.ref p) (upd H p (.lst xs))
abbrev NewT (xs:List V) (H:Hp) (Q:VK):Prop:=xs.length≤Bk∧∀p,H p=none→Q (.ref p) (upd H p (.tup xs))
theorem Zyk {t:TA} (h:t σ H fun xs H1=>NewT xs H1 Q):tTup t σ H Q:=h
theorem Zye {t:TA} (h:t σ H fun xs H1=>NewL xs H1 Q):tLst t σ H Q:=h
theorem i_bm {T:String} {r:V→List V→Hp→VK→Prop} {to:TE} {t:TA} (h:to σ H fun x H1=>tyV K T x H1∧t σ H1 fun xs H2=>r x xs H2 Q):tBM K T r to t σ H Q:=h
theorem Zx9 {T:String} {r:V→List V→Hp→VK→Prop} {to:TE} (h:to σ H fun x H1=>tyV K T x H1∧r x [] H1 Q):tBM0 K T r to σ H Q:=h
theorem Zyc {ta:TE} {f:Str} (h:ta σ H fun x H1=>∃a C dx fs v,x=.ref a∧H1 a=some (.ins C dx fs)∧Cls K C∧Fy K C f∧fs.lookup f=some v∧Q v H1):tFld K ta f σ H Q:=h
theorem ZvG {ta tv:TE} {f:Str} (h:tv σ H fun y H1=>ta σ H1 fun x H2=>∃a C dx fs,x=.ref a∧H2 a=some (.ins C dx fs)∧Cls K C∧Fy K C f∧fs.length < 1000∧D.nx σ (upd H2 a (.ins C dx (putF f y fs)))):sFld K ta tv f D σ H:=h
theorem i_sl {r:V→Option Int→Option Int→Hp→VK→Prop} {te:TE} {tl th:TO} (h:te σ H fun x H1=>tl σ H1 fun l H2=>th σ H2 fun u H3=>r x l u H3 Q):tSl r te tl th σ H Q:=h
theorem ZvE {t:TE} {R:Option Int→Hp→Prop} (h:t σ H fun x H1=>∃i,x=.int i∧R (some i) H1):Zzs t σ H R:=h
theorem Zyb {b:Int} {R:Int→Prop} (h:R b):∃k,V.int b=V.int k∧R k:=⟨b,rfl,h⟩
theorem ZvI {b:Bool} {R:Bool→Prop} (h:R b):∃k,TruV K (.bl b) H k∧R k:=⟨b,rfl,h⟩
theorem Eg {c A B:Prop} [Decidable c] (h1:c→A) (h2 : ¬c→B):if decide c=true then A else B:=by
 by_cases h:c
 ·rw[if_pos (decide_eq_true h)]; exact h1 h
 ·rw[if_neg (by simp[h])]; exact h2 h
theorem NT {c A B:Prop} [Decidable c] (h1 : ¬c→A) (h2:c→B):if (!decide c)=true then A else B:=by
 by_cases h:c
 ·rw[if_neg (by simp[h])]; exact h2 h
 ·rw[if_pos (by simp[h])]; exact h1 h
theorem Kw {b:Bool} {A B:Prop} (h1:b=true→A) (h2:b=false→B):if b=true then A else B:=by
 cases b
 ·rw[if_neg Cg]; exact h2 rfl
 ·rw[if_pos rfl]; exact h1 rfl
theorem CN {b:Bool} {A B:Prop} (h:b=true) (k:A):if b=true then A else B:=by rw[if_pos h]; exact k
theorem Bv {b:Bool} {A B:Prop} (h:b=false) (k:B):if b=true then A else B:=by rw[if_neg (by rw[h]; exact Cg)]; exact k
end
def ZR (lo:Int) (n:Nat) (g:TG) (tb:TS) (D:Ends) (σ:St) (H:Hp):Prop:=
 ∃W:Nat→Nat→St→Hp→Prop,(∃m,W 0 m σ H)∧∀i m σ H,W i m σ H→
   ((Itr lo n).stop i H∧D.nx σ H)∨((Itr lo n).go i H∧∃N:St→Hp→Prop,(∀σ' H',N σ' H'→∃m',m' < m∧W (i+1) m' σ' H')∧∀x H',(Itr lo n).yld i H x H'→g x σ H' fun σ2 H2=>tb { D with nx:=N,ct:=N,bk:=D.nx } σ2 H2)
def ZxK (K:Ao) (a:Aa) (g:TG) (tb:TS) (D:Ends) (σ:St) (H:Hp):Prop:=
 ∃W:Nat→Nat→St→Hp→Prop,(∃m,W 0 m σ H)∧∀i m σ H,W i m σ H→
   ((Itl K a).stop i H∧D.nx σ H)∨((Itl K a).go i H∧∃N:St→Hp→Prop,(∀σ' H',N σ' H'→∃m',m' < m∧W (i+1) m' σ' H')∧∀x H',(Itl K a).yld i H x H'→g x σ H' fun σ2 H2=>tb { D with nx:=N,ct:=N,bk:=D.nx } σ2 H2)
def ZzC (K:Ao) (a:Aa) (g:TG) (tb:TS) (D:Ends) (σ:St) (H:Hp):Prop:=
 ∃W:Nat→Nat→St→Hp→Prop,(∃m,W 0 m σ H)∧∀i m σ H,W i m σ H→
   ((Itt K a).stop i H∧D.nx σ H)∨((Itt K a).go i H∧∃N:St→Hp→Prop,(∀σ' H',N σ' H'→∃m',m' < m∧W (i+1) m' σ' H')∧∀x H',(Itt K a).yld i H x H'→g x σ H' fun σ2 H2=>tb { D with nx:=N,ct:=N,bk:=D.nx } σ2 H2)
section
variable {σ:St} {H:Hp} {D:Ends} {K:Ao} {g:TG} {tb:TS}
theorem Zrw {ta:TA} (h:ta σ H fun vs H1=>∃j:Int,vs=[.int j]∧-(2 ^ 62)≤j∧j < 2 ^ 62∧ZR 0 j.toNat g tb D σ H1):tFor (Zq ta) g tb D σ H:=h
theorem Zrx {ta:TA} (h:ta σ H fun vs H1=>∃i j:Int,vs=[.int i,.int j]∧(-(2 ^ 62)≤i∧i < 2 ^ 62∧-(2 ^ 62)≤j∧j < 2 ^ 62)∧ZR i (j - i).toNat g tb D σ H1):tFor (Zr ta) g tb D σ H:=h
theorem JF {n:Nat} (Pv:Nat→St→Hp→Prop) (h0:Pv 0 σ H) (hs:∀(i:Nat) σ H,i < n→Pv i σ H→g (.int (i:Int)) σ H fun σ2 H2=>tb { D with nx:=Pv (i+1),ct:=Pv (i+1),bk:=D.nx } σ2 H2) (hd:∀σ H,Pv n σ H→D.nx σ H):ZR 0 n g tb D σ H:=U0 Pv h0 (fun i σ H hi p=>by rw[Rv]; exact hs i σ H hi p) hd
theorem ZzV {a:Aa} {xs:List V} (Pv:Nat→St→Hp→Prop) (h0:Pv 0 σ H) (hl:∀i σ H,i≤xs.length→Pv i σ H→SqL K H a xs) (hs:∀i x σ H,xs[i]?=some x→Pv i σ H→g x σ H fun σ2 H2=>tb { D with nx:=Pv (i+1),ct:=Pv (i+1),bk:=D.nx } σ2 H2) (hd:∀σ H,Pv xs.length σ H→D.nx σ H):ZxK K a g tb D σ H:=ZtP Pv h0 hl hs hd
end
noncomputable def Its (x:Str):It:=⟨fun i _=>i < x.cps.size,fun i H v H'=>H'=H∧∃c,x.cps[i]?=some c∧v=.str ⟨#[c]⟩,fun i _=>x.cps.size≤i⟩
theorem Ztk {P:Ay} {w:Av} {K:Ao} {tg:Aw} (x:Str) (t:Tok) (it:Aa):Turn P w K tg (Its x) [it] it (fun i h=>h.IsStrIter it "str_ascii_iterator" x t i) where
 mem:=by simp
 obj:=fun i h st b hb=>by
  have e:b=it:=by simpa using hb
  subst e;obtain⟨o,e,c,d⟩:=st;exact⟨o,e,fun v z=>by rw[d]at z; cases z⟩
 keep:=fun i h h' st k=>let ⟨o,ho,r⟩:=st; ⟨o,k it (by simp) o ho,r⟩
 item:=by
  intro X hP hw hK hc i pins s σ H E I hf st hg;subst hP hw hK;obtain⟨f0,f1,f2,f3,f4,f5⟩:=hf it (by simp);have hg:i < x.cps.size:=hg;refine wpAny_pyNext_ascii_item st (c:=x.cps[i]) (by simp[hg]) fun h' st' sb=>?_;have I1:Inv X pins σ H { s with heap:=h',toks:=s.toks+1 }:=I.turned (fun b o hb e=>(sb.2 b hb).trans e) f0 f1 f3 f4 f5;obtain⟨o,e,c,d⟩:=id st';exact⟨_,rfl,RZ (s:={ s with heap:=h',toks:=s.toks+1 }) e c d (by decide) ⟨.str ⟨#[x.cps[i]]⟩,H,I1,⟨_,rfl⟩,⟨rfl,_,by simp[hg],rfl⟩,st',fun b hb=>(hf b hb).1⟩⟩
 done:=by
  intro X hP hw hK hc i pins s σ H E I hf st hg;subst hP hw hK;obtain⟨f0,f1,f2,f3,f4,f5⟩:=hf it (by simp);have hg:x.cps.size≤i:=hg;exact wpAny_pyNext_ascii_end (I.ok.hd hc) st (by simp[hg]) fun h' eb=>⟨rfl,I.turned (t':=s.toks) (fun b o hb e=>eb b o hb e) f0 f1 f3 f4 f5⟩
 self:=fun _ _ _ _ _ st h=>wpAny_pyIter_striter_ascii st h
theorem Ztl {P:Ay} {w:Av} {K:Ao} {tg:Aw} (x:Str) (t:Tok) (it:Aa):Turn P w K tg (Its x) [it] it (fun i h=>h.IsStrIter it "str_iterator" x t i) where
 mem:=by simp
 obj:=fun i h st b hb=>by
  have e:b=it:=by simpa using hb
  subst e;obtain⟨o,e,c,d⟩:=st;exact⟨o,e,fun v z=>by rw[d]at z; cases z⟩
 keep:=fun i h h' st k=>let ⟨o,ho,r⟩:=st; ⟨o,k it (by simp) o ho,r⟩
 item:=by
  intro X hP hw hK hc i pins s σ H E I hf st hg;subst hP hw hK;obtain⟨f0,f1,f2,f3,f4,f5⟩:=hf it (by simp);have hg:i < x.cps.size:=hg;refine wpAny_pyNext_wide_item st (c:=x.cps[i]) (by simp[hg]) fun h' st' sb=>?_;have I1:Inv X pins σ H { s with heap:=h',toks:=s.toks+1 }:=I.turned (fun b o hb e=>(sb.2 b hb).trans e) f0 f1 f3 f4 f5;obtain⟨o,e,c,d⟩:=id st';exact⟨_,rfl,RZ (s:={ s with heap:=h',toks:=s.toks+1 }) e c d (by decide) ⟨.str ⟨#[x.cps[i]]⟩,H,I1,⟨_,rfl⟩,⟨rfl,_,by simp[hg],rfl⟩,st',fun b hb=>(hf b hb).1⟩⟩
 done:=by
  intro X hP hw hK hc i pins s σ H E I hf st hg;subst hP hw hK;obtain⟨f0,f1,f2,f3,f4,f5⟩:=hf it (by simp);have hg:x.cps.size≤i:=hg;exact wpAny_pyNext_wide_end (I.ok.hd hc) st (by simp[hg]) fun h' eb=>⟨rfl,I.turned (t':=s.toks) (fun b o hb e=>eb b o hb e) f0 f1 f3 f4 f5⟩
 self:=fun _ _ _ _ _ st h=>wpAny_pyIter_striter_wide st h
noncomputable def iSeq (K:Ao) (tl:TE):TI:=fun σ H R=>tl σ H fun x H1=>(∃a xs,x=.ref a∧SqL K H1 a xs∧R (Itl K a) H1)∨(∃a xs,x=.ref a∧SqT K H1 a xs∧R (Itt K a) H1)∨(∃z,x=.str z∧R (Its z) H1)
theorem HB {X:Cx} {tg:Aw} {l:Aw} {tl:TE} (hl:PE X l tl):PI X tg l (iSeq X.K tl):=by
 intro pins s σ H R I h;refine thn (hl pins s σ H _ I h) fun v s1 ⟨x,H1,I1,r1,q1⟩=>?_
 have fp:∀b∈[s1.heap.objs.size],FpOk X pins H1 b:=fun b hb=>by
  have e:b=s1.heap.objs.size:=by simpa using hb
  subst e;exact I1.fpOk (Ax _) (I1.hok.fresh (Ax _))
 rcases q1 with⟨a,xs,e,hq,q⟩ | ⟨a,xs,e,hq,q⟩ | ⟨z,e,q⟩
 ·subst e
  cases r1
  obtain⟨its,rv,p,hz⟩:=I1.list hq;refine Ym p.isList ?_;exact⟨s1.heap.objs.size,[s1.heap.objs.size],_,_,H1,rfl,I1.kept (t':=s1.toks) fun b o e=>BK _ e,Ztj a _,⟨_,CT _ rfl,rfl,rfl⟩,fp,q⟩
 ·subst e
  cases r1
  obtain⟨its,rv,p,hz⟩:=I1.tuple hq;refine wz (show s1.heap.IsTuple a its.toArray from p) ?_;exact⟨s1.heap.objs.size,[s1.heap.objs.size],_,_,H1,rfl,I1.kept (t':=s1.toks) fun b o e=>BK _ e,Zqw a _,⟨_,CT _ rfl,rfl,rfl⟩,fp,q⟩
 ·subst e
  obtain⟨t,rfl⟩:=r1
  cases ha:z.cps.all (· < 128) with
  | false=>
   refine wpAny_pyIter_wide ha ?_;exact⟨s1.heap.objs.size,[s1.heap.objs.size],_,_,H1,rfl,I1.kept (t':=s1.toks) fun b o e=>BK _ e,Ztl z t _,⟨_,CT _ rfl,rfl,rfl⟩,fp,q⟩
  | true=>
   refine wpAny_pyIter_ascii ha ?_;exact⟨s1.heap.objs.size,[s1.heap.objs.size],_,_,H1,rfl,I1.kept (t':=s1.toks) fun b o e=>BK _ e,Ztk z t _,⟨_,CT _ rfl,rfl,rfl⟩,fp,q⟩
def ZzD (x:Str) (g:TG) (tb:TS) (D:Ends) (σ:St) (H:Hp):Prop:=
 ∃W:Nat→Nat→St→Hp→Prop,(∃m,W 0 m σ H)∧∀i m σ H,W i m σ H→
   ((Its x).stop i H∧D.nx σ H)∨((Its x).go i H∧∃N:St→Hp→Prop,(∀σ' H',N σ' H'→∃m',m' < m∧W (i+1) m' σ' H')∧∀x' H',(Its x).yld i H x' H'→g x' σ H' fun σ2 H2=>tb { D with nx:=N,ct:=N,bk:=D.nx } σ2 H2)
def SeqW (K:Ao) (x:V) (g:TG) (tb:TS) (D:Ends) (σ:St) (H1:Hp):Prop:=
 (∃a xs,x=.ref a∧SqL K H1 a xs∧ZxK K a g tb D σ H1)∨(∃a xs,x=.ref a∧SqT K H1 a xs∧ZzC K a g tb D σ H1)∨(∃z,x=.str z∧ZzD z g tb D σ H1)
section
variable {σ:St} {H:Hp} {D:Ends} {K:Ao} {g:TG} {tb:TS}
theorem Zvr {tl:TE} (h:tl σ H fun x H1=>SeqW K x g tb D σ H1):tFor (iSeq K tl) g tb D σ H:=h
theorem seqL {a:Aa} {xs:List V} (Pv:Nat→St→Hp→Prop) (h0:Pv 0 σ H) (hl:∀i σ H,i≤xs.length→Pv i σ H→SqL K H a xs) (hs:∀i x σ H,xs[i]?=some x→Pv i σ H→g x σ H fun σ2 H2=>tb { D with nx:=Pv (i+1),ct:=Pv (i+1),bk:=D.nx } σ2 H2) (hd:∀σ H,Pv xs.length σ H→D.nx σ H):SeqW K (.ref a) g tb D σ H:=.inl ⟨a,xs,rfl,hl 0 σ H (Cy _) h0,ZzV Pv h0 hl hs hd⟩
end
section
variable (P:Ay) (w:Av) (K:Ao) (mg:Str→Option Ab) (base:Ar)
def FnS (k:Nat) (x:Str) (ps:List Str) (sp:Sp):Prop:=∃f fd,FnOk P w K mg base CX0 k f fd ps sp∧Bs K fd ps []∧Iv K (.ref f)=true∧mg x=some (.ref f)
def MeS (k:Nat) (C:Aa) (m:Str) (ps:List Str) (sp:Sp):Prop:=Cls K C∧∃f fd,FnOk P w K mg base CX0 k f fd ps sp∧Bs K fd ps []∧Meth K C m f
def MkS (k:Nat) (x:Str) (C:Aa) (ps:List Str) (sp:Sp):Prop:=mg x=some (.ref C)∧∃f fd,Mk K C f∧FnOk P w K mg base CX0 k f fd ps sp∧Bs K fd ps []
end
noncomputable def tFn (sp:Sp) (t:TA):TE:=fun σ H Q=>t σ H fun vs H1=>sp vs H1 Q E0
def MkG (C:Aa) (sp:Sp) (vs:List V) (H1:Hp) (Q:VK):Prop:=∀x dx,H1 x=none→H1 dx=none→dx≠x→
 sp (.ref x::vs) (upd (upd H1 dx (.own x)) x (.ins C dx [])) (fun v H2=>v=.non∧Q (.ref x) H2) E0
noncomputable def tMk (C:Aa) (sp:Sp) (t:TA):TE:=fun σ H Q=>t σ H fun vs H1=>MkG C sp vs H1 Q
noncomputable def tDy (D:Aa→Prop) (m:Str) (sp:Sp) (ta:TE) (t:TA):TE:=fun σ H Q=>ta σ H fun x H1=>∃a C dx fs,x=.ref a∧H1 a=some (.ins C dx fs)∧D C∧fs.lookup m=none∧
 t σ H1 fun vs H2=>H2 a=some (.ins C dx fs)∧sp (x::vs) H2 Q E0
noncomputable def spAt (sp:Sp) (C:Aa):Sp:=fun vs H Q E=>sp vs H Q E∧∃a dx fs r,vs=V.ref a::r∧H a=some (.ins C dx fs)
theorem i_fn {sp:Sp} {t:TA} {σ:St} {H:Hp} {Q:VK} (h:t σ H fun vs H1=>sp vs H1 Q E0):tFn sp t σ H Q:=h
theorem i_mk {C:Aa} {sp:Sp} {t:TA} {σ:St} {H:Hp} {Q:VK} (h:t σ H fun vs H1=>MkG C sp vs H1 Q):tMk C sp t σ H Q:=h
theorem i_dy {D:Aa→Prop} {m:Str} {sp:Sp} {ta:TE} {t:TA} {σ:St} {H:Hp} {Q:VK} (h:ta σ H fun x H1=>∃a C dx fs,x=.ref a∧H1 a=some (.ins C dx fs)∧D C∧fs.lookup m=none∧
 t σ H1 fun vs H2=>H2 a=some (.ins C dx fs)∧sp (x::vs) H2 Q E0):tDy D m sp ta t σ H Q:=h
theorem ZnC (sp:Sp) (t:TA):Zy sp [] E0 t=tFn sp t:=by
 funext σ H Q
 unfold Zy tFn
 have e:(fun(vs:List V) (H1:Hp)=>sp (vs++[]) H1 Q E0)=fun vs H1=>sp vs H1 Q E0:=by
  funext vs H1; rw[Ed]
 rw[e]
theorem Ztf (C:Aa) (sp:Sp) (t:TA):Zz C sp [] E0 t=tMk C sp t:=by
 funext σ H Q
 unfold Zz tMk MkG
 congr 1
 funext vs H1
 rw[Ed]
section
variable {X:Cx} {k k':Nat} {x m:Str} {C:Aa} {ps:List Str} {sp:Sp} {e o:Aw} {es:List Aw} {ta:TE} {t:TA} {p pos apos:Pos}
theorem Bc (G:FnS X.prog X.w X.K X.mg X.base k x ps sp) (hr:Room k' X.A) (ha:PA X (e::es) t) (hk:k≤k':=by omega) (hg:Gl X x:=by rfl) (hdb:(x == ("__debug__" : Str))=false:=by decide)
  (he:BW (e::es) X.env=(false,eval e X.env)::BW es X.env:=by rfl) (hpl:(backTo pos (BW es X.env)).any (·.1)=false:=by rfl):PE X (.Call (.Name x p) (e::es) [] pos) (tFn sp t):=by
 obtain⟨f,fd,F,hb,kp,hm⟩:=G;rw[←ZnC];exact Zsj F (hr.mono hk) hg hm kp hb .nil Vc ha hdb he hpl
theorem ZS (G:MkS X.prog X.w X.K X.mg X.base k x C ps sp) (hr:Room k' X.A) (ha:PA X (e::es) t) (hk:k+1≤k':=by omega) (hg:Gl X x:=by rfl) (hdb:(x == ("__debug__" : Str))=false:=by decide)
  (he:BW (e::es) X.env=(false,eval e X.env)::BW es X.env:=by rfl) (hpl:(backTo pos (BW es X.env)).any (·.1)=false:=by rfl):PE X (.Call (.Name x p) (e::es) [] pos) (tMk C sp t):=by
 obtain⟨hm,f,fd,M,F,hb⟩:=G;rw[←Ztf];exact Zw9 M F (hr.mono hk) hg hm hb .nil Vc ha hdb he hpl
theorem Fg {pl:Sem Bool} {D:Aa→Prop} (hD:∀C,D C→MeS X.prog X.w X.K X.mg X.base k C m ps (spAt sp C)) (hr:Room k' X.A) (ho:PE X o ta) (ha:PA X (e::es) t) (hk:k≤k':=by omega)
  (hst:BW (e::es) X.env=(false,eval e X.env)::BW es X.env:=by rfl) (hpl:(backTo pos (BW es X.env)).any (·.1)=false:=by rfl)
  (ht:eval (.Call (.Attribute o m apos) (e::es) [] pos) X.env=(do
   let ov ←eval o X.env
   standAt apos.atName
   let (f,first) ←holding [ov] (getMethod ov m pl)
   callWith pos f first (backTo pos (BW (e::es) X.env)) (backToKw pos (keywordEach [] X.env))):=by rfl) :
  PE X (.Call (.Attribute o m apos) (e::es) [] pos) (tDy D m sp ta t):=by
 intro pins s σ H Q I h;refine xf (pl:=pl) (thn (ho pins s σ H _ I h) fun u s1 ⟨x,H1,I1,rx,a,C,dx,fs,ex,ea,hC,l,q⟩=>?_) ht;subst ex;obtain rfl:u=Be a:=rx;obtain⟨c,f,fd,F,hb,hm⟩:=hD C hC;refine Zx I1 ea c hm l ?_;refine X7 (first:=[.ref a]) (h₀:=X.base) I.ok.mod.kin hm.kp (thn (ha pos pins s1 σ H1 _ I1 q) fun us s2 ⟨vs,H2,I2,r,eb,q2⟩=>⟨I2.kIn,?_⟩) hst hpl;exact Va (us:=.ref a::us) (vs:=.ref a::vs) (dvs:=[]) (E:=E0) F (hr.mono hk) hb .nil Vc I2 (.cons rfl r) (by rw[Ed]; exact⟨q2,a,dx,fs,vs,rfl,eb⟩)
theorem Jh {pl:Sem Bool} {D:Aa→Prop} (hD:∀C,D C→MeS X.prog X.w X.K X.mg X.base k C m ps (spAt sp C)) (hr:Room k' X.A) (ho:PE X o ta) (hk:k≤k':=by omega)
  (ht:eval (.Call (.Attribute o m apos) [] [] pos) X.env=(do
   let ov ←eval o X.env
   standAt apos.atName
   let (f,first) ←holding [ov] (getMethod ov m pl)
   callWith pos f first (backTo pos (BW [] X.env)) (backToKw pos (keywordEach [] X.env))):=by rfl) :
  PE X (.Call (.Attribute o m apos) [] [] pos) (tDy D m sp ta tNil):=by
 intro pins s σ H Q I h;refine xf (pl:=pl) (thn (ho pins s σ H _ I h) fun u s1 ⟨x,H1,I1,rx,a,C,dx,fs,ex,ea,hC,l,eb,q⟩=>?_) ht;subst ex;obtain rfl:u=Be a:=rx;obtain⟨c,f,fd,F,hb,hm⟩:=hD C hC;refine Zx I1 ea c hm l ?_;exact PySem.W.callWith_K0 (first:=[.ref a]) I1.kIn hm.kp (Va (us:=[.ref a]) (vs:=[.ref a]) (dvs:=[]) (E:=E0) F (hr.mono hk) hb .nil Vc I1 (.cons rfl .nil) (by rw[Ed]; exact⟨q,a,dx,fs,[],rfl,eb⟩))
theorem ss (i:Nat) {x:Str} {e:Aw} {te:TE} {pos pos':Pos} (hN:X.N.Nodup) (he:PE X e te) (hi:X.N[i]?=some x:=by rfl) (hx:Loc X.env.scope x:=by first | exact Tz rfl | exact Ru rfl)
  (hs:swapsWith e (some (.Name x pos')) pos.line X.env=pure false:=by rfl) (hf:X.fn x=true∨X.env.scope.names.lookup x=some .local:=by first | exact .inl rfl | exact .inr rfl):PS X (.Assign [.Name x pos'] e pos) (tAsg te (G9 i)):=
 ZyX hN hi hx he hs hf
theorem sg (i:Nat) {x:Str} {pos:Pos} (hN:X.N.Nodup) (hi:X.N[i]?=some x:=by rfl) (hx:Loc X.env.scope x:=by first | exact Tz rfl | exact Ru rfl) (hf:X.fn x=true∨X.env.scope.names.lookup x=some .local:=by first | exact .inl rfl | exact .inr rfl):PG X (.Name x pos) (G9 i):=UV hN hi hx hf
noncomputable def rIsi (K:Ao):List V→Hp→VK→Prop:=fun xs H Q=>∃x t b,TyOf K H x t∧((∃n,xs=[x,.ty n]∧J6 K t (.type n)=some b)∨(∃c,xs=[x,.ref c]∧J6 K t (.ref c)=some b))∧Q (.bl b) H
theorem Ji:Ha X (.builtin "isinstance") (rIsi X.K):=by
 intro pins s σ H xs us Q I r h;obtain⟨x,t,b,ty,h,q⟩:=h
 rcases h with⟨n,rfl,e⟩ | ⟨c,rfl,e⟩
 ·obtain⟨u,v,rfl,ru,rv⟩:=Zzv r
  obtain rfl:v=Fi n:=rv;exact Zm0 I ru ty e fun tk=>⟨.bl b,H,I.tok tk,rfl,q⟩
 ·obtain⟨u,v,rfl,ru,rv⟩:=Zzv r
  obtain rfl:v=Be c:=rv;exact Zm0 I ru ty e fun tk=>⟨.bl b,H,I.tok tk,rfl,q⟩
theorem Zvu {K:Ao} {x:V} {n:String} {t:Ab} {b:Bool} {H:Hp} {Q:VK} (ty:TyOf K H x t) (e:J6 K t (.type n)=some b) (h:Q (.bl b) H):rIsi K [x,.ty n] H Q:=⟨x,t,b,ty,.inl ⟨n,rfl,e⟩,h⟩
noncomputable def R1:R2:=fun x y H Q=>rI0 (fun i j=>V.int (i+j)) x y H Q∨(∃i j,x=.str i∧y=.str j∧i.length+j.length≤Bk∧Q (.str (i++j)) H)∨rCat x y H Q
theorem Em:OpR X (binaryOp .Add) R1:=OpR.or ZyI (OpR.or Zqm ZyJ)
theorem Zvi {i j:Int} {H:Hp} {Q:VK} (h:Q (.int (i+j)) H):R1 (.int i) (.int j) H Q:=.inl ⟨i,j,rfl,rfl,h⟩
theorem Zvj {l b:Aa} {xs zs:List V} {H:Hp} {Q:VK} (h1:H l=some (.lst xs)) (h2:H b=some (.lst zs)) (z:xs.length+zs.length≤Bk) (h:∀p,H p=none→Q (.ref p) (upd H p (.lst (xs++zs)))):R1 (.ref l) (.ref b) H Q:=.inr (.inr ⟨l,b,xs,zs,rfl,rfl,h1,h2,z,h⟩)
end
section
variable {X:Cx} {K:Ao} {H:Hp} {Q:VK} {a:Aw} {ta:TE} {pos:Pos}
theorem Fo:bootBuiltins "len" = some (.builtin "len"):=by decide +kernel
theorem Jj:bootBuiltins "isinstance" = some (.builtin "isinstance"):=by decide +kernel
theorem ZV:bootBuiltins "sorted" = some (.builtin "sorted"):=by decide +kernel
theorem ZxW:bootBuiltins "sum" = some (.builtin "sum"):=by decide +kernel
theorem ZxT:bootBuiltins "any" = some (.builtin "any"):=by decide +kernel
theorem ZxS:bootBuiltins "all" = some (.builtin "all"):=by decide +kernel
theorem Zva:bootBuiltins "int" = some (.type "int"):=by decide +kernel
theorem ZqY:bootBuiltins "bool" = some (.type "bool"):=by decide +kernel
theorem ZxV:bootBuiltins "str" = some (.type "str"):=by decide +kernel
theorem LC:bootBuiltins "list" = some (.type "list"):=by decide +kernel
theorem ZW:bootBuiltins "tuple" = some (.type "tuple"):=by decide +kernel
theorem ZxU:bootBuiltins "set" = some (.type "set"):=by decide +kernel
theorem ZnN:bootBuiltins "reversed" = some (.type "reversed"):=by decide +kernel
theorem ZmO:bootBuiltins "enumerate" = some (.type "enumerate"):=by decide +kernel
noncomputable def Zzr (K:Ao) (ta:TE):TE:=fun σ H Q=>ta σ H fun x H1=>∃k,TruV K x H1 k∧Q (.bl (!k)) H1
theorem Zsk (ha:PE X a ta):PE X (.UnaryOp .Not a pos) (Zzr X.K ta):=by
 intro pins s σ H Q I h;refine UnaryOp_ (thn (ha pins s σ H _ I h) fun v s1 ⟨x,H1,I1,r1,q1⟩=>?_);exact not_of (thn (Zwc pins s1 σ H1 x v (fun k H2=>Q (.bl (!k)) H2) I1 r1 q1) fun b s2 ⟨H2,I2,q2⟩=>⟨.bl (!b),H2,I2,rfl,q2⟩)
theorem ZvD {σ:St} (h:ta σ H fun x H1=>∃k,TruV K x H1 k∧Q (.bl (!k)) H1):Zzr K ta σ H Q:=h
noncomputable def rLen (K:Ao):List V→Hp→VK→Prop:=fun xs H Q=>∃x n,xs=[x]∧LenV K x H n∧Q (.int n) H
theorem Fp:Ha X (.builtin "len") (rLen X.K):=ZtJ
theorem ZX {p:Aa} {xs:List V} (h:SqL K H p xs) (k:Q (.int xs.length) H):rLen K [.ref p] H Q:=⟨_,_,rfl,.inl ⟨xs,h,rfl⟩,k⟩
theorem Zvv {p:Aa} {xs:List V} (h:H p=some (.lst xs)) (k:Q (.int xs.length) H):rLen K [.ref p] H Q:=⟨_,_,rfl,.inl ⟨xs,SqL.of h,rfl⟩,k⟩
theorem Zvw {p:Aa} {xs:List V} (h:H p=some (.tup xs)) (k:Q (.int xs.length) H):rLen K [.ref p] H Q:=⟨_,_,rfl,.inr ⟨xs,SqT.of h,rfl⟩,k⟩
noncomputable def ZsD (K:Ao):List V→Hp→VK→Prop:=fun xs H Q=>∃p ys,xs=[.ref p]∧(SqL K H p ys∨SqT K H p ys)∧∀l,H l=none→Q (.ref l) (upd H l (.lst ys))
theorem ZZ:Ha X (.type "list") (ZsD X.K):=ZmP
noncomputable def Zv2 (K:Ao):List V→Hp→VK→Prop:=fun xs H Q=>∃p ys,xs=[.ref p]∧((SqL K H p ys∧∀l,H l=none→Q (.ref l) (upd H l (.tup ys)))∨(SqT K H p ys∧Q (.ref p) H))
theorem ZnO:Ha X (.type "tuple") (Zv2 X.K):=Zlw
theorem Zyl {p:Aa} {ys:List V} (h:H p=some (.lst ys)) (k:∀l,H l=none→Q (.ref l) (upd H l (.tup ys))):Zv2 K [.ref p] H Q:=⟨p,ys,rfl,.inl ⟨SqL.of h,k⟩⟩
theorem ZzL {p:Aa} {xs:List V} {j:Nat} {v:V} (h:SqL K H p xs) (e:xs[j]?=some v) (k:Q v H):rIx K (.ref p) (.int (j:Int)) H Q:=.inl ⟨p,xs,j,v,rfl,rfl,h,ZD e,k⟩
theorem Dk {p:Aa} {xs:List V} {j:Nat} {v:V} (h:H p=some (.lst xs)) (e:xs[j]?=some v) (k:Q v H):rIx K (.ref p) (.int (j:Int)) H Q:=.inl ⟨p,xs,j,v,rfl,rfl,SqL.of h,ZD e,k⟩
theorem Z0 {p:Aa} {xs:List V} {i:Int} {v:V} (h:H p=some (.lst xs)) (e:atI xs i=some v) (k:Q v H):rIx K (.ref p) (.int i) H Q:=.inl ⟨p,xs,i,v,rfl,rfl,SqL.of h,e,k⟩
theorem CG {p:Aa} {xs:List V} {i:Int} {v:V} (h:H p=some (.tup xs)) (e:atI xs i=some v) (k:Q v H):rIx K (.ref p) (.int i) H Q:=.inr (.inl ⟨p,xs,i,v,rfl,rfl,SqT.of h,e,k⟩)
noncomputable def rSlG (K:Ao):V→Option Int→Option Int→Hp→VK→Prop:=fun x lo hi H Q=>rSlL K x lo hi H Q∨rSlT K x lo hi H Q
theorem Zzb:SlR X (rSlG X.K):=SlR.or Zxm Zzd
theorem ZzN {p:Aa} {xs:List V} {lo hi:Option Int} (h:SqL K H p xs) (k:∀l,H l=none→Q (.ref l) (upd H l (.lst (cutV xs lo hi)))):rSlG K (.ref p) lo hi H Q:=.inl ⟨p,xs,rfl,h,k⟩
noncomputable def Zy0:R2:=rI CMul fun i j=>V.int (i * j)
theorem Ve:OpR X (binaryOp .Mult) Zy0:=ZyM
theorem Vf {i j:Int} (c:CMul i j) (h:Q (.int (i * j)) H):Zy0 (.int i) (.int j) H Q:=⟨i,j,rfl,rfl,c,h⟩
theorem ZtW {l:Aa} {xs:List V} {y:V} (h:H l=some (.lst xs)) (z:xs.length < Bk) (k:Q .non (upd H l (.lst (xs++[y])))):ZF (.ref l) [y] H Q:=⟨l,xs,y,rfl,rfl,h,z,k⟩
theorem ZwD {l:Aa} {xs:List V} (h:H l=some (.lst xs)) (k:Q .non (upd H l (.lst []))):ZG (.ref l) [] H Q:=⟨l,xs,rfl,rfl,h,k⟩
theorem ZzM {l:Aa} {xs:List V} {y:V} (h:H l=some (.lst (xs++[y]))) (k:Q y (upd H l (.lst xs))):rPop (.ref l) [] H Q:=⟨l,xs++[y],y,rfl,rfl,h,by simp,by rw[List.dropLast_concat]; exact k⟩
theorem tyL {l:Aa} {xs:List V} (h:H l=some (.lst xs)):tyV K "list" (.ref l) H:=.inl ⟨rfl,xs,SqL.of h⟩
end
theorem Ii {n:Nat} (h:n≤1000000):n≤Bk:=Eb h (by decide)
theorem Vg {n:Nat} (h:n < 1000000):n < Bk:=Er h (by decide)
theorem ZoX (K:Ao) (n:String):J6 K (.type n) (.type n)=some true:=by
 unfold J6;rw[if_pos (by simp)]
theorem GC {H:Hp} {p:Aa} (h:H p=none) (o:HO):Same H (upd H p o):=fun b u q=>by rw[Bo (Cj q h)]; exact q
theorem Zns {H:Hp} {p q:Aa} (hp:H p=none) (hq:H q=none) (o u:HO):Same H (upd (upd H q u) p o):=fun b v e=>by rw[Bo (Cj e hp),Bo (Cj e hq)]; exact e
theorem Zt3 {K:Ao} {t c:String} {b:Bool} (h1:t≠c) (h2:PySem.W.kitMeta c=true) (h3:(PySem.fastBuiltinMro t).map (·.contains (Fi c))=some b):J6 K (.type t) (.type c)=some b:=by
 unfold J6;rw[if_neg (by simp[h1])];unfold PySem.W.kitCls
 dsimp only
 rw[if_pos h2];exact h3
theorem ZiK (K:Ao):J6 K (.type "int") (.type "bool")=some false:=Zt3 (by decide) (by decide +kernel) (by decide +kernel)
structure Bt (mg:Str→Option Ab):Prop where
 len:mg "len" = none
 range:mg "range" = none
 isinstance:mg "isinstance" = none
 int:mg "int" = none
 bool:mg "bool" = none
 str:mg "str" = none
 list:mg "list" = none
 tuple:mg "tuple" = none
 dict:mg "dict" = none
 set:mg "set" = none
 sorted:mg "sorted" = none
 max:mg "max" = none
 min:mg "min" = none
 sum:mg "sum" = none
 any:mg "any" = none
 all:mg "all" = none
 abs:mg "abs" = none
 reversed:mg "reversed" = none
 enumerate:mg "enumerate" = none
 zip:mg "zip" = none
def Ext (H H':Hp):Prop:=∀b o,H b=some o→(∀xs,o≠.lst xs)→H' b=some o
theorem Ext.trans {H H1 H2:Hp} (a:Ext H H1) (b:Ext H1 H2):Ext H H2:=fun c o h n=>b c o (a c o h n) n
theorem Ext.of {H H':Hp} (a:Same H H'):Ext H H':=fun b o h _=>a b o h
theorem Zws (xs:List V) (i j:Nat):cutV xs (some (i:Int)) (some (j:Int))=(xs.drop i).take (j - i):=by
 unfold cutV;rw[HT.sIx_nat,HT.sIx_nat]
 by_cases hi:i≤xs.length
 ·rw[TQ hi]
  by_cases hj:j≤xs.length
  ·rw[TQ hj]
  ·rw[YaZ (by omega),Nf (by rw[G4]; omega),Nf (by rw[G4]; omega)]
 ·rw[YaZ (show xs.length≤i by omega),Ya0 (Ax _),Ya0 (show xs.length≤i by omega)]
  simp
theorem Zn1 (ns:List Int) (i j:Nat):((ns.map V.int).drop i).take j=((ns.drop i).take j).map V.int:=by
 rw[TV,TX]
section
variable {K:Ao} {H:Hp} {Q:VK}
theorem JG {xs:List V} (z:xs.length≤1000000) (h:∀(p:Aa) (H':Hp),Same H H'→H p=none→H' p=some (.lst xs)→Q (.ref p) H'):NewL xs H Q:=
 ⟨Ii z,fun p hp=>h p _ (GC hp _) hp Cp⟩
theorem Gf {xs:List V} (z:xs.length≤1000000) (h:∀(p:Aa) (H':Hp),Same H H'→H p=none→H' p=some (.tup xs)→Q (.ref p) H'):NewT xs H Q:=
 ⟨Ii z,fun p hp=>h p _ (GC hp _) hp Cp⟩
theorem j_sl {p:Aa} {xs ys:List V} {lo hi:Option Int} (h:SqL K H p xs) (e:cutV xs lo hi=ys) (k:∀(l:Aa) (H':Hp),Same H H'→H l=none→H' l=some (.lst ys)→Q (.ref l) H'):rSlG K (.ref p) lo hi H Q:=
 ZzN h fun l hl=>by rw[e]; exact k l _ (GC hl _) hl Cp
theorem ZzP {l b:Aa} {xs zs:List V} (h1:H l=some (.lst xs)) (h2:H b=some (.lst zs)) (z:xs.length+zs.length≤1000000) (h:∀(p:Aa) (H':Hp),Same H H'→H p=none→H' p=some (.lst (xs++zs))→Q (.ref p) H'):R1 (.ref l) (.ref b) H Q:=
 Zvj h1 h2 (Ii z) fun p hp=>h p _ (GC hp _) hp Cp
theorem Z1 {p:Aa} {ys:List V} (h:SqL K H p ys∨SqT K H p ys) (k:∀(l:Aa) (H':Hp),Same H H'→H l=none→H' l=some (.lst ys)→Q (.ref l) H'):ZsD K [.ref p] H Q:=
 ⟨p,ys,rfl,h,fun l hl=>k l _ (GC hl _) hl Cp⟩
def But (l:Aa) (H H':Hp):Prop:=∀b o,b≠l→H b=some o→H' b=some o
theorem But.ext {l:Aa} {H H':Hp} {xs:List V} (h:H l=some (.lst xs)) (s:But l H H'):Ext H H':=fun b o e n=>s b o (BZ e h (n xs)) e
theorem But.same {l:Aa} {H0 H H':Hp} (s:But l H H') (h0:H0 l=none) (s0:Same H0 H):Same H0 H':=fun b o e=>s b o (Cj e h0) (s0 b o e)
theorem JH {l:Aa} {H:Hp} {o:HO}:But l H (upd H l o):=fun b u n e=>by rw[Bo n]; exact e
theorem Ky {l:Aa} {xs:List V} {y:V} (h:H l=some (.lst xs)) (z:xs.length < 1000000) (k:∀H':Hp,But l H H'→H' l=some (.lst (xs++[y]))→Q .non H'):ZF (.ref l) [y] H Q:=ZtW h (Vg z) (k _ JH Cp)
theorem ZrI {l:Aa} {xs:List V} (h:H l=some (.lst xs)) (k:∀H':Hp,But l H H'→H' l=some (.lst [])→Q .non H'):ZG (.ref l) [] H Q:=ZwD h (k _ JH Cp)
theorem ZzQ {l:Aa} {xs:List V} {y:V} (h:H l=some (.lst (xs++[y]))) (k:∀H':Hp,But l H H'→H' l=some (.lst xs)→Q y H'):rPop (.ref l) [] H Q:=ZzM h (k _ JH Cp)
end
theorem Zvt {to ti:TE} {t:TSet} {v:V} {σ:St} {H:Hp} {R:St→Hp→Prop} (h:to σ H fun o H1=>ti σ H1 fun i H2=>t o i v H2 fun H3=>R σ H3):gSub to ti t v σ H R:=h
theorem ZwL {n j:Nat} (h:j < n):ixN n (j:Int)=some j:=by
 unfold ixN;rw[if_pos (by omega),if_pos (by omega)]; simp
theorem ZzR {H:Hp} {p:Aa} {xs:List V} {j:Nat} {v:V} {R:Hp→Prop} (h:H p=some (.lst xs)) (hj:j < xs.length) (k:∀H':Hp,But p H H'→H' p=some (.lst (xs.set j v))→R H'):Zy1 (.ref p) (.int (j:Int)) v H R:=
 ⟨p,xs,j,j,rfl,rfl,h,ZwL hj,k _ JH Cp⟩
end L2
namespace L2
open PySem PySem.Spec PyProof.Rows
noncomputable def Ew (X:Cx) (x:Str) (ns:List Str) (scope:DK) (cl:List (Str×Aa)) (s:Ae) (H:Hp) (ex:List Aa):Cx where
 prog:=X.prog
 w:=X.w
 K:=X.K
 mg:=X.mg
 base:=X.base
 A:=X.A
 N:=x::ns
 s₀:=s
 H₀:=H
 env:=compEnvC scope cl s.heap.objs.size X.env
 outer:=X.stack
 stack:=X.stack
 ex:=ex
 fn:=fun _=>false
 calm:=X.calm
 pn:=[]
 xe:=fun _ _=>False
noncomputable def subS (σ:St) (ix:List Nat):St:=ix.map fun k=>(σ[k]?).join
def NZ (sc:DK) (N:List Str) (x:Str) (ns:List Str) (ix:List Nat) (scope:DK):Prop:=
 scope.kind=.function∧(∀y∈scope.names,y.2≠.cell∧(y.2=.local→scope.names.lookup y.1=some .local)∧(y.2=.free→sc.names.lookup y.1=some .cell∨sc.names.lookup y.1=some .free))∧
 scope.names.lookup x=some .local∧(∀y∈ns,scope.names.lookup y=some .free)∧(ix.map fun k=>N[k]?)=ns.map some∧(x::ns).Nodup
noncomputable instance (sc:DK) (N:List Str) (x:Str) (ns:List Str) (ix:List Nat) (scope:DK):Decidable (NZ sc N x ns ix scope):=by unfold NZ; infer_instance
def JK (J:It) (ix:List Nat) (tc:TT) (te:TE) (σ:St) (Q:VK) (H1:Hp):Prop:=∀acc,H1 acc=none→∃W:Nat→Nat→List V→Hp→Prop,(∃m,W 0 m [] (upd H1 acc (.lst [])))∧
 ∀i m ys H,W i m ys H→(J.stop i H∧Q (.ref acc) H)∨(J.go i H∧∀x H',J.yld i H x H'→tc (some x::subS σ ix) H' fun b H2=>
  if b=true then te (some x::subS σ ix) H2 fun y H3=>H3 acc=some (.lst ys)∧ys.length < Bk∧∃m',m' < m∧W (i+1) m' (ys++[y]) (upd H3 acc (.lst (ys++[y]))) else ∃m',m' < m∧W (i+1) m' ys H2)
noncomputable def R4 (wi:TI) (ix:List Nat) (tc:TT) (te:TE):TE:=fun σ H Q=>wi σ H fun J H1=>JK J ix tc te σ Q H1
theorem JL {α β:Type} [BEq α] [LawfulBEq α]:∀{l:List (α×β)} {a:α} {b:β},l.lookup a=some b→(a,b)∈l
 | [],_,_,h=>by simp at h
 | (k,v)::r,a,b,h=>by
  rw[Ke]at h
  cases e:a == k with
  | true=>
   rw[e]at h
   have:a=k:=by simpa using e
   subst this
   cases h
   exact Ec
  | false=>
   rw[e]at h;exact Et _ (JL h)
theorem Z2 {env:Env}:∀(names:List (Str×Rp)) (acc:List (Str×Aa)),(∀y∈names,y.2=.free→∃c,env.cells.lookup y.1=some c)→(∀y c,acc.lookup y=some c→env.cells.lookup y=some c)→
  ∃cl,(forIn names acc fun x r=>match x with | (name,kind)=>if (kind == Hr)=true then(do let a ←cellOf env name; pure (La ((name,a)::r))) else pure (La r):Sem (List (Str×Aa)))=pure cl∧
   (∀y c,cl.lookup y=some c→env.cells.lookup y=some c)∧(∀y,(∃c,acc.lookup y=some c)→∃c,cl.lookup y=some c)∧∀y∈names,y.2=.free→∃c,cl.lookup y.1=some c
 | [],acc,_,ha=>⟨acc,rfl,ha,fun _ h=>h,fun _ h=>nomatch h⟩
 | (name,kind)::r,acc,hn,ha=>by
  cases hk:kind == Hr with
  | false=>
   obtain⟨cl,e,h1,h2,h3⟩:=Z2 r acc (fun y hy=>hn y (Et _ hy)) ha;refine⟨cl,?_,h1,h2,fun y hy hf=>?_⟩
   ·rw[Ya1]
    simp only [hk,Dg,if_false];exact e
   ·rcases CZ.mp hy with rfl | hy
    ·have:kind=.free:=hf
     subst this;simp at hk
    ·exact h3 y hy hf
  | true=>
   have hkf:kind=.free:=by simpa using hk
   obtain⟨c,hc⟩:=hn (name,kind) Ec hkf;have hc:env.cells.lookup name=some c:=hc
   obtain⟨cl,e,h1,h2,h3⟩:=Z2 r ((name,c)::acc) (fun y hy=>hn y (Et _ hy)) (fun y c' hy=>by
    rw[Ke]at hy
    cases e:y == name with
    | true=>
     rw[e]at hy
     have:y=name:=by simpa using e
     subst this
     cases hy
     exact hc
    | false=>
     rw[e]at hy
     exact ha y c' hy)
   refine⟨cl,?_,h1,fun y hy=>h2 y ?_,fun y hy hf=>?_⟩
   ·rw[Ya1]
    simp only [hk,if_true]
    have:cellOf env name=pure c:=by unfold cellOf; rw[hc]
    rw[this];exact e
   ·obtain⟨c',hc'⟩:=hy
    rw[Ke]
    cases y == name
    ·exact⟨c',hc'⟩
    ·exact⟨c,rfl⟩
   ·rcases CZ.mp hy with rfl | hy
    ·exact h2 _ ⟨c,by rw[Ke]; simp⟩
    ·exact h3 y hy hf
theorem Z3 {env:Env} (scope:DK) (h:∀y∈scope.names,y.2=.free→∃c,env.cells.lookup y.1=some c) :
  ∃cl,closureFor scope env=pure cl∧(∀y c,cl.lookup y=some c→env.cells.lookup y=some c)∧∀y∈scope.names,y.2=.free→∃c,cl.lookup y.1=some c:=by
 obtain⟨cl,e,h1,_,h3⟩:=Z2 (env:=env) scope.names [] h (fun _ _ z=>by simp at z);refine⟨cl,?_,h1,h3⟩;show((forIn scope.names [] fun x r=>match x with | (name,kind)=>if (kind == Hr)=true then(do let a ←cellOf env name; pure (La ((name,a)::r))) else pure (La r):Sem (List (Str×Aa))) >>= fun s=>pure s)=pure cl;rw[e];rfl
theorem Z4 {env:Env}:∀(names:List (Str×Rp)) (y:Str),(names.map fun(n,k)=>if (k == Hr && env.scope.kind == .function && env.kindOf n == some .cell) then(n,Yn) else(n,k)).lookup y =
  (names.lookup y).map fun k=>if (k == Hr && env.scope.kind == .function && env.kindOf y == some .cell)=true then Yn else k
 | [],y=>by simp
 | (n,k)::r,y=>by
  have ih:=Z4 (env:=env) r y;rw[Cv,Ke]
  cases e:y == n with
  | true=>
   have ey:y=n:=by simpa using e
   subst ey
   by_cases hc:(k == Hr && env.scope.kind == .function && env.kindOf y == some .cell)=true
   ·simp only [hc,if_true,Ke,beq_self_eq_true,Kf]
   ·simp only [hc,if_false,Ke,beq_self_eq_true,Kf,Dg]
  | false=>
   by_cases hc:(k == Hr && env.scope.kind == .function && env.kindOf n == some .cell)=true
   ·simp only [hc,if_true,Ke,e]; exact ih
   ·simp only [hc,if_false,Ke,e,Dg]; exact ih
section
variable {X:Cx} {pins:List (Aa×Obj)} {σ:St} {H:Hp} {s:Ae} {cl:List (Str×Aa)} {x:Str} {ns:List Str} {ix:List Nat} {sc scope:DK} {N:List Str} {fp:List Aa}
theorem Zwv (I:Inv X pins σ H s) (f:∀b∈fp,FpOk X pins H b) (hlt:∀b∈fp,b < s.heap.objs.size) (hcl:∀y c,cl.lookup y=some c→X.env.cells.lookup y=some c) {H':Hp} (hn:∀b∈fp,H' b=none):∀b∈fp,FpOk (Ew X x ns scope cl s H fp) [] H' b:=fun b hb=>by
 obtain⟨f0,f1,f2,f3,f4,f5⟩:=f b hb;refine⟨hn b hb,Ce (hlt b hb),fun z=>?_,.inl hb,fun y c e=>f4 y c (hcl y c e),fun p hp=>?_⟩
 ·rcases CZ.mp (I.stkSub b z) with z | z
  ·exact f1 z
  ·exact f2 z
 ·exact absurd (show p∈([]:List (Aa×Obj)) from hp) (by simp)
theorem ZtZ {h1:Ar} {m:Str→Option Ab} {t':Nat} (I:Inv X pins σ H s) (hsc:X.env.scope=sc) (hN:X.N=N) (C:NZ sc N x ns ix scope) (hcl:∀y c,cl.lookup y=some c→X.env.cells.lookup y=some c)
  (hcla:∀y∈scope.names,y.2=.free→∃c,cl.lookup y.1=some c) (f:∀b∈fp,FpOk X pins H b) (hlt:∀b∈fp,b < s.heap.objs.size) (hn:h1.Ns s.heap.objs.size m) (hk:∀b o,s.heap.get? b=some o→h1.get? b=some o) :
  Inv (Ew X x ns scope cl s H fp) [] (none::subS σ ix) H { s with heap:=h1,toks:=t' }:=by
 obtain⟨c1,c2,c3,c4,c5,c6⟩:=C;have kind:∀y,(relabel scope X.env).names.lookup y=(scope.names.lookup y).map fun k=>if (k == Hr && X.env.scope.kind == .function && X.env.kindOf y == some .cell)=true then Yn else k:=fun y=>Z4 scope.names y
 have fr:∀y,((relabel scope X.env).names.lookup y=some .cell∨(relabel scope X.env).names.lookup y=some .free)→scope.names.lookup y=some .free:=fun y h=>by
  rw[kind y]at h
  cases e:scope.names.lookup y with
  | none=>rw[e]at h; simp at h
  | some k=>
   rw[e]at h;have hm:=JL e
   cases k with
   | free=>rfl
   | cell=>exact absurd rfl (c2 _ hm).1
   | «local»=>simp at h
   | globalExplicit=>simp at h
   | globalImplicit=>simp at h
 have fr':∀y,scope.names.lookup y=some .free→(relabel scope X.env).names.lookup y=some .cell∨(relabel scope X.env).names.lookup y=some .free:=fun y h=>by
  rw[kind y,h]
  by_cases hc:(Hr == Hr && X.env.scope.kind == .function && X.env.kindOf y == some .cell)=true
  ·left; rw[Kf,if_pos hc]
  ·right; rw[Kf,if_neg hc]
 have noC:∀p:Aa×Obj,p∉(Ew X x ns scope cl s H fp).pn++[]:=fun p hp=>absurd (show p∈([]:List (Aa×Obj)) from hp) (by simp)
 have lenE:ix.length=ns.length:=by
  have:=congrArg X8 c5
  rwa [Az,Az]at this
 refine⟨⟨I.ok.mod,c1,I.ok.glob,I.ok.blt,Ax _,fun y z c h1 h2=>I.ok.inj y z c (hcl y c h1) (hcl z c h2),fun y hy=>?_,fun y c hy=>absurd hy (by simp[Ew]),I.ok.hd,I.ok.frames,.inl rfl,fun b hb=>?_,I.bs,
  Eb I.ok.bsz I.sz,fun b o e hb=>?_,fun b hb=>?_,I.stack,I.stkFree⟩,rfl,I.bare,Un.kept hk,⟨m,hn,fun i y v e1 e2 e3=>?_⟩,fun y c e=>?_,I.hok.fresh (Ax _),fun y c e=>I.freeC y c (hcl y c e),fun p hp=>absurd hp (noC p),I.hok.kept hk,?_⟩
 ·exact hcla _ (JL (fr y hy)) rfl
 ·obtain⟨f0,f1,f2,f3,f4,f5⟩:=f b hb
  exact⟨Ce (hlt b hb),fun y c e=>f4 y c (hcl y c e)⟩
 ·obtain⟨f0,f1,f2,f3,f4,f5⟩:=f b hb
  rcases f3 with z | z
  ·exact I.ok.noex b o e z
  ·exact absurd (Er (BR (I.ok.bs b o e).1) z) (Hi _)
 ·obtain⟨f0,f1,f2,f3,f4,f5⟩:=f b hb
  intro z
  rcases CZ.mp (I.stkSub b z) with z | z
  ·exact f1 z
  ·exact f2 z
 ·cases i with
  | zero=>cases e2
  | succ j=>
   have e1':ns[j]?=some y:=e1;have e2':(ix.map fun k=>(σ[k]?).join)[j]?=some (some v):=e2;have e5:=congrArg (fun l=>l[j]?) c5;simp only [CQ,e1',Kf]at e5 e2'
   cases ek:ix[j]? with
   | none=>rw[ek]at e5; cases e5
   | some k=>
    rw[ek]at e5 e2'
    have eN:N[k]?=some y:=by simpa using e5
    have eσ:(σ[k]?).join=some v:=by simpa using e2'
    have eσ':σ[k]?=some (some v):=by
     cases q:σ[k]? with
     | none=>rw[q]at eσ; cases eσ
     | some w=>rw[q]at eσ; have:w=some v:=eσ; rw[this]
    have hy:=c4 y (Df e1');have hk':=(c2 _ (JL hy)).2.2 rfl;rw[←hsc]at hk';obtain⟨m0,hn0,hl⟩:=I.loc;obtain⟨u,r,l⟩:=hl k y v (by rw[hN]; exact eN) eσ' (.inr hk');refine⟨u,r,?_⟩
    rcases l with⟨kl,_⟩ | ⟨_,c,ec,z⟩
    ·exfalso
     have kl:X.env.scope.names.lookup y=some .local:=kl;rw[kl]at hk'
     rcases hk' with z | z <;> cases z
    ·obtain⟨c',ec'⟩:=hcla _ (JL hy) rfl
     have ee:c'=c:=by
      have:=hcl y c' ec';rw[ec]at this;exact(De this).symm
     subst ee;obtain⟨o,ho,hd⟩:=z;exact .inr ⟨fr' y hy,c',ec',⟨o,hk _ _ ho,hd⟩⟩
 ·obtain⟨v,o,ho,hd⟩:=I.cell y c (hcl y c e)
  exact⟨v,o,hk _ _ ho,hd⟩
 ·show(none::subS σ ix).length=(x::ns).length
  rw[Ds,Ds];unfold subS;rw[Az,lenE]
end
theorem Zqy {α β:Type} {M:Rk} {A:Bp} {a:α} {P:α→Ae→Prop} {E E':Ab→Ae→Prop} {s s':Ae} {t:Sem β} {Q:β→Ae→Prop} (h:Ai M A (pure a) P E s) (k:P a s→Ai M A t Q E' s'):Ai M A t Q E' s':=
 fun Γ p hi=>k (h Γ p hi) Γ p hi
def PTs (X:Cx) (ifs:List Aw) (t:TT):Prop:=
 ∀(pins:List (Aa×Obj)) (s:Ae) (σ:St) (H:Hp) (Q:Bool→Hp→Prop),Inv X pins σ H s→t σ H Q→
  Ai (model X.prog X.w) X.A (forIn ifs true fun c r=>if r=true then do let ok ←isTrue c X.env (eval c X.env); pure (La ok) else pure (La r)) (TP X pins σ Q) X.xe s
noncomputable def Zzq:TT:=fun _ H Q=>Q true H
theorem R5 {X:Cx}:PTs X [] Zzq:=fun _ _ _ H _ I h=>wpAny_tests_nil ⟨H,I,h⟩
theorem R6 {X:Cx} {c:Aw} {t:TT} (h:PT X c t):PTs X [c] t:=fun pins s σ H Q I q=>wpAny_tests_one (h pins s σ H Q I q)
section
variable {X:Cx} {pins:List (Aa×Obj)} {σ:St} {H:Hp} {s:Ae} {cl:List (Str×Aa)} {x:Str} {ns:List Str} {ix:List Nat} {sc scope:DK} {N:List Str} {fp:List Aa} {elt iter:Aw} {px pos:Pos} {ifs:List Aw} {tc:TT} {te:TE} {wi:TI}
theorem ZoG {E:Ab→Ae→Prop} {J:It} {it:Aa} {tn:Nat→Ar→Prop} {Q:VK} {RR:Ab→Aa→K5→Ae→Prop} (hsc:X.env.scope=sc) (hN:X.N=N) (C:NZ sc N x ns ix scope) (hc:X.calm=true)
  (ht:∀cl s H ex,PTs (Ew X x ns scope cl s H ex) ifs tc) (he:∀cl s H ex,PE (Ew X x ns scope cl s H ex) elt te) (I:Inv X pins σ H s) (hcl:∀y c,cl.lookup y=some c→X.env.cells.lookup y=some c)
  (hcla:∀y∈scope.names,y.2=.free→∃c,cl.lookup y.1=some c) (T:Turn X.prog X.w X.K (.Name x px) J fp it tn) (st:tn 0 s.heap) (f:∀b∈fp,FpOk X pins H b) (h:JK J ix tc te σ Q H)
  (fin:∀D C m s' H',Inv X pins σ H' s'→s'.heap.Ns C m→FpOk X pins H' C→Q (.ref D) H'→RR (.ref D) C (.ok .next) s') :
  Ai (model X.prog X.w) X.A (newList []) (fun ja s3=>Ai (model X.prog X.w) X.A (newFunctionEnv scope X.env.globals cl [] X.env.qual none .none (some X.env)) (fun ce s4=>
   codeAny (model X.prog X.w) X.A (.compStart (.ListComp elt [⟨.Name x px,iter,ifs,0⟩] scope pos) 0 (.ref it) ja { ce with scope:=relabel scope X.env }) (RR ja ce.locals) s4) E s3) E s:=by
 have hC:=C;obtain⟨c1,c2,c3,c4,c5,c6⟩:=C;have hfr:H s.heap.objs.size=none:=I.hok.fresh (Ax _);obtain⟨W,⟨m0,w0⟩,turn⟩:=h _ hfr;refine FQ (Ya2 (fun y hy=>(c2 y hy).1) (by intro y hy; simp at hy) (fun h1 hn1 hs1=>?_) c1);have I3:=I.lnew (its:=[]) (ys:=[]) (t':=s.toks) .nil (Cy _)
 have hlt0:∀b∈fp,b < s.heap.objs.size:=fun b hb=>by
  obtain⟨o,ho,_⟩:=T.obj _ _ st b hb;exact BR ho
 generalize hs3:({ s with heap:=s.heap.push { cls:=.type "list",data:=.seq ([]:List Ab).toArray },toks:=s.toks }:Ae)=s3 at I3
 have e3:s3.heap=s.heap.push { cls:=.type "list",data:=.seq ([]:List Ab).toArray }:=by rw[←hs3]
 have sz3:s3.heap.objs.size=s.heap.objs.size+1:=by rw[e3,J5]
 have f3:∀b∈fp,FpOk X pins (upd H s.heap.objs.size (.lst [])) b:=fun b hb=>⟨by rw[Bo (Ce (hlt0 b hb))]; exact(f b hb).1,(f b hb).2⟩
 have hlt:∀b∈fp,b < s3.heap.objs.size:=fun b hb=>by rw[sz3]; exact Js (hlt0 b hb)
 have hk:∀b o,s3.heap.get? b=some o→h1.get? b=some o:=fun b o e=>by
  refine(hs1.2 b ?_).trans (BK _ ?_)
  ·have:=BR e
   rw[sz3]at this;show b≠(s.heap.push _).objs.size;rw[J5];exact Ce this
  ·rw[e3]at e; exact e
 have hn3:h1.Ns s3.heap.objs.size (fun y=>([]:List (Str×Ab)).reverse.lookup y):=by rw[e3]; exact hn1
 have I4:=ZtZ (t':=s3.toks+([]:List (Str×Ab)).length) I3 hsc hN hC hcl hcla f3 hlt hn3 hk;have st4:tn 0 h1:=T.keep _ _ _ st fun b hb o e=>hk b o (by rw[e3]; exact BK _ e);have stat:∀{H':Hp},(∀b∈fp,H' b=none)→∀b∈fp,FpOk (Ew X x ns scope cl s3 (upd H s.heap.objs.size (.lst [])) fp) [] H' b:=fun {H'} hn=>Zwv I3 f3 hlt hcl hn
 have loop:∀s4:Ae,s4 = { s3 with heap:=h1,toks:=s3.toks+([]:List (Str×Ab)).length }→
   codeAny (model X.prog X.w) X.A (.compLoop (.ListComp elt [⟨.Name x px,iter,ifs,0⟩] scope pos) 0 (.ref it) (.ref s.heap.objs.size) (compEnvC scope cl s3.heap.objs.size X.env)) (RR (.ref s.heap.objs.size) s3.heap.objs.size) s4:=by
  rintro s4 rfl;refine codeAny_compLoop_tests (fun n s'=>∃i v0 ys H',Inv (Ew X x ns scope cl s3 (upd H s.heap.objs.size (.lst [])) fp) [] (v0::subS σ ix) H' s'∧tn i s'.heap∧(∀b∈fp,H' b=none)∧W i n ys H') ?_ m0 ⟨0,none,[],_,I4,st4,fun b hb=>(f3 b hb).1,w0⟩;rintro n s5 ⟨i,v0,ys,H5,I5,st5,fr5,w5⟩
  rcases turn i n ys H5 w5 with⟨stop,q⟩ | ⟨go,step⟩
  ·refine Dn (T.done (Ew X x ns scope cl s3 (upd H s.heap.objs.size (.lst [])) fp) rfl rfl rfl hc i [] s5 _ H5 _ I5 (stat fr5) st5 stop) (fun r s6 hr=>?_) fun _ _ e=>e
   obtain⟨hr,I6⟩:=hr;subst hr;obtain⟨m6,hn6,_⟩:=id I6.loc;refine fin _ _ m6 s6 H5 (I3.call' I6.os I6.base I6.hok I6.bare fun b hb=>?_) hn6 (I3.fpOk (Ax _) I6.free) q;obtain⟨g0,g1,g2,g3,g4,g5⟩:=f3 b hb;exact⟨g3,g1,g4,g5⟩
  ·refine Dn (T.item (Ew X x ns scope cl s3 (upd H s.heap.objs.size (.lst [])) fp) rfl rfl rfl hc i [] s5 _ H5 _ I5 (stat fr5) st5 go) (fun r s6 hr=>?_) fun _ _ e=>e
   obtain⟨u,hr,h6⟩:=hr;subst hr;refine Zqy (a:=()) h6 fun q6=>?_;obtain⟨xv,H6,I6,r6,y6,st6,fr6⟩:=q6;have I6':=I6.pinned (stat fr6) (T.obj _ _ st6)
   have again:∀{m':Nat} {ys':List V} {H7:Hp} {s7:Ae},Inv (Ew X x ns scope cl s3 (upd H s.heap.objs.size (.lst [])) fp) ([]++NB fp s6.heap) (some xv::subS σ ix) H7 s7→W (i+1) m' ys' H7→
     ∃i v0 ys H',Inv (Ew X x ns scope cl s3 (upd H s.heap.objs.size (.lst [])) fp) [] (v0::subS σ ix) H' s7∧tn i s7.heap∧(∀b∈fp,H' b=none)∧W i m' ys H':=fun {m' ys' H7 s7} I7 w7=>by
    refine⟨i+1,some xv,ys',H7,I7.unpinned,T.keep _ _ _ st6 fun b hb o e=>(I7.pin (b,o) (Gs _ (Gs _ (NK hb e)))).1,fun b hb=>?_,w7⟩;obtain⟨o,e,d⟩:=T.obj _ _ st6 b hb;exact(I7.pin (b,o) (Gs _ (Gs _ (NK hb e)))).2.1
   have lx:(relabel scope X.env).names.lookup x=some .local:=xg c3;refine Dn (UV (X:=Ew X x ns scope cl s3 (upd H s.heap.objs.size (.lst [])) fp) (i:=0) (x:=x) (pos:=px) c6 rfl (.inl lx) (.inr lx) _ s6 _ H6 xv u (fun σ' H'=>σ'=some xv::subS σ ix∧H'=H6) I6' r6 ⟨rfl,rfl⟩) (fun _ s7 h7=>?_) fun _ _ e=>e.elim;obtain⟨σ7,H7,I7,rfl,rfl⟩:=h7;refine Dn (ht cl s3 _ fp _ s7 _ _ _ I7 (step xv _ y6)) (fun b s8 h8=>?_) fun _ _ e=>e.elim;obtain⟨H8,I8,q8⟩:=h8
   cases b with
   | false=>
    rw[if_neg Cg]at q8 ⊢;obtain⟨m',hm,w8⟩:=q8;exact⟨m',hm,again I8 w8⟩
   | true=>
    rw[if_pos rfl]at q8 ⊢;refine Dn (he cl s3 _ fp _ s8 _ _ _ I8 q8) (fun uy s9 h9=>?_) fun _ _ e=>e.elim;obtain⟨y,H9,I9,r9,hacc,hz,m',hm,w9⟩:=h9;refine Dn (Jg (X:=Ew X x ns scope cl s3 (upd H s.heap.objs.size (.lst [])) fp) _ s9 _ H9 (.ref s.heap.objs.size) [y] _ [uy] (fun v H'=>H'=upd H9 s.heap.objs.size (.lst (ys++[y]))) I9 rfl (.cons r9 .nil) ⟨_,ys,y,rfl,rfl,hacc,hz,rfl⟩) (fun _ s10 h10=>?_) fun _ _ e=>e.elim;obtain⟨v,H10,I10,_,rfl⟩:=h10;exact⟨m',hm,again I10 w9⟩
 exact Ya3 (loop _ rfl) (T.self _ 0 _ _ _ st4 (loop _ rfl))
theorem N5 (hsc:X.env.scope=sc) (hN:X.N=N) (C:NZ sc N x ns ix scope) (hc:X.calm=true) (hi:PI X (.Name x px) iter wi) (ht:∀cl s H ex,PTs (Ew X x ns scope cl s H ex) ifs tc) (he:∀cl s H ex,PE (Ew X x ns scope cl s H ex) elt te)
  (hs:∀v,foldedSetIterable iter X.env v=pure v:=by intro _; rfl):PE X (.ListComp elt [⟨.Name x px,iter,ifs,0⟩] scope pos) (R4 wi ix tc te):=by
 intro pins s σ H Q I h
 obtain⟨cl,hclos,hcl,hcla⟩:=Z3 (env:=X.env) scope fun y hy hf=>I.ok.has y.1 (by
  have:=(C.2.1 y hy).2.2 hf;rw[←hsc]at this
  exact this)
 rw[eval_ListComp];refine xj (use:=none) rfl hs hclos C.1 (fun y hy=>(C.2.1 y hy).2.1) (thn (hi pins s σ H _ I h) fun v s1 h1=>thn h1 fun itv s2 h2=>?_);obtain⟨it,fp,tn,J,H2,rfl,I2,T,st2,f2,hg⟩:=h2;refine ZoG (RR:=fun ja C=>compPost (model X.prog X.w) X.A X.xe none (EP X pins σ Q) ja C) hsc hN C hc ht he I2 hcl hcla T st2 f2 hg ?_;intro D C' m s' H' I' hn' fC q;obtain⟨g0,g1,g2,g3,g4,g5⟩:=fC;exact⟨m,hn',fun h' hs'=>⟨.ref D,H',I'.turned (t':=s'.toks) (fun b o hb e=>hs'.extBut b o hb e) g0 (DX (DX g1)) g3 g4 g5,rfl,q⟩⟩
theorem Zsv {y:Str} {py spos:Pos} (i:Nat) (hNd:X.N.Nodup) (hsc:X.env.scope=sc) (hN:X.N=N) (C:NZ sc N x ns ix scope) (hc:X.calm=true) (hi:PI X (.Name x px) iter wi) (ht:∀cl s H ex,PTs (Ew X x ns scope cl s H ex) ifs tc) (he:∀cl s H ex,PE (Ew X x ns scope cl s H ex) elt te)
  (hs:∀v,foldedSetIterable iter X.env v=pure v:=by intro _; rfl) (hy:X.N[i]?=some y:=by rfl) (hl:X.env.scope.names.lookup y=some .local:=by rfl)
  (hsw:swapsWith (.ListComp elt [⟨.Name x px,iter,ifs,0⟩] scope pos) (some (.Name y py)) spos.line X.env=pure true:=by rfl) :
  PS X (.Assign [.Name y py] (.ListComp elt [⟨.Name x px,iter,ifs,0⟩] scope pos) spos) (tAsg (R4 wi ix tc te) (G9 i)):=by
 intro pins s σ H D I h
 obtain⟨cl,hclos,hcl,hcla⟩:=Z3 (env:=X.env) scope fun y hy hf=>I.ok.has y.1 (by
  have:=(C.2.1 y hy).2.2 hf;rw[←hsc]at this
  exact this)
 rw[exec_Assign_Name_used _ _ _ _ hsw];refine Af (uo (Af ?_));show Ai _ X.A (do let _ ←comprehension (.ListComp elt [⟨.Name x px,iter,ifs,0⟩] scope pos) scope X.env _ (newList []) false (eval iter X.env) (some (assign (.Name y py) X.env))) _ _ s
 refine Af (Dn (xj (use:=some (assign (.Name y py) X.env)) (Q:=fun _ s'=>SP X pins D .next s') rfl hs hclos C.1 (fun y hy=>(C.2.1 y hy).2.1)
  (thn (hi pins s σ H _ I h) fun v s1 h1=>thn h1 fun itv s2 h2=>?_)) (fun _ s' hq=>Aq (Aq hq)) fun _ _ e=>e)
 obtain⟨it,fp,tn,J,H2,rfl,I2,T,st2,f2,hg⟩:=h2;refine ZoG (RR:=fun ja C=>compPost (model X.prog X.w) X.A X.xe (some (assign (.Name y py) X.env)) (fun _ s'=>SP X pins D .next s') ja C) hsc hN C hc ht he I2 hcl hcla T st2 f2 hg ?_;intro D' C' m s' H' I' hn' fC q;obtain⟨g0,g1,g2,g3,g4,g5⟩:=fC;refine Yay (Znz I' hNd hy (.inl hl) (v:=.ref D') rfl (fun s'' I'' hs''=>?_) (.inr hl));obtain⟨a,sb,ha⟩:=hs''
 have hne:C'≠a:=by
  rcases ha with ha | ha
  ·rw[ha]; exact g1
  ·intro z; exact g4 y a ha z.symm
 exact⟨m,hn'.sameBut sb hne,fun h' hs'=>⟨_,H',I''.turned (t':=s''.toks) (fun b o hb e=>hs'.extBut b o hb e) g0 g1 g3 g4 g5,q⟩⟩
end
section
variable {wi:TI} {ix:List Nat} {tc:TT} {te:TE} {σ:St} {H:Hp} {Q:VK} {K:Ao}
theorem ZoQ {ta:TA} (h:ta σ H fun vs H1=>∃j:Int,vs=[.int j]∧-(2 ^ 62)≤j∧j < 2 ^ 62∧JK (Itr 0 j.toNat) ix tc te σ Q H1):R4 (Zq ta) ix tc te σ H Q:=h
theorem ZoR {ta:TA} (h:ta σ H fun vs H1=>∃i j:Int,vs=[.int i,.int j]∧(-(2 ^ 62)≤i∧i < 2 ^ 62∧-(2 ^ 62)≤j∧j < 2 ^ 62)∧JK (Itr i (j - i).toNat) ix tc te σ Q H1):R4 (Zr ta) ix tc te σ H Q:=h
def ZzB (K:Ao) (x:V) (ix:List Nat) (tc:TT) (te:TE) (σ:St) (Q:VK) (H1:Hp):Prop:=
 (∃a xs,x=.ref a∧SqL K H1 a xs∧JK (Itl K a) ix tc te σ Q H1)∨(∃a xs,x=.ref a∧SqT K H1 a xs∧JK (Itt K a) ix tc te σ Q H1)∨(∃z,x=.str z∧JK (Its z) ix tc te σ Q H1)
theorem Zrv {tl:TE} (h:tl σ H fun x H1=>ZzB K x ix tc te σ Q H1):R4 (iSeq K tl) ix tc te σ H Q:=h
theorem ZvC {BQ:Bool→Hp→Prop} (h:BQ true H):Zzq σ H BQ:=h
def Wk (J:It) (xs:List V) (H1:Hp):Prop:=∀H',Same H1 H'→(∀i,i < xs.length→J.go i H'∧∀x H2,J.yld i H' x H2→H2=H'∧xs[i]?=some x)∧J.stop xs.length H'
theorem Vh (lo:Int) (n:Nat) (H:Hp):Wk (Itr lo n) ((Cd n).map fun i:Nat=>V.int (lo+(i:Int))) H:=fun H' _=>by
 refine⟨fun i hi=>?_,?_⟩
 ·rw[Az,G5]at hi
  refine⟨hi,fun x H2 y=>?_⟩;obtain⟨e,y⟩:=y;refine⟨e,?_⟩;rw[CQ,Ya4 hi,y];rfl
 ·rw[Az,G5]
  exact Ax n
theorem Vi {a:Aa} {xs:List V} (h:SqL K H a xs):Wk (Itl K a) xs H:=fun H' s=>by
 have h':=s.seq h;refine⟨fun i hi=>⟨⟨xs,xs[i],h',by simp[hi]⟩,fun x H2 y=>?_⟩,⟨xs,h',Ax _⟩⟩;obtain⟨e,y⟩:=y;exact⟨e,y xs h'⟩
theorem Kz {J:It} {xs:List V} (Pv:Nat→List V→Prop) (hw:Wk J xs H) (hz:xs.length≤1000000) (h0:Pv 0 [])
  (hs:∀(i:Nat) (x:V) (ys:List V) (acc:Aa) (H':Hp),xs[i]?=some x→Same H H'→H acc=none→H' acc=some (.lst ys)→Pv i ys→ys.length≤i→
   ∀R:Bool→Hp→Prop,(∀b H2,Same H' H2→(b=false→Pv (i+1) ys)→(b=true→∀R2:V→Hp→Prop,(∀y H3,Same H2 H3→Pv (i+1) (ys++[y])→R2 y H3)→te (some x::subS σ ix) H2 R2)→R b H2)→tc (some x::subS σ ix) H' R)
  (hd:∀(acc:Aa) (ys:List V) (H':Hp),H acc=none→Same H H'→H' acc=some (.lst ys)→Pv xs.length ys→Q (.ref acc) H'):JK J ix tc te σ Q H:=by
 intro acc hacc
 have sU:∀{H2:Hp} (o:HO),Same H H2→Same H (upd H2 acc o):=fun o s b u e=>by rw[Bo (Cj e hacc)]; exact s b u e
 refine⟨fun i m ys H'=>m=xs.length - i∧i≤xs.length∧Same H H'∧H' acc=some (.lst ys)∧Pv i ys∧ys.length≤i,⟨xs.length,by simp,Cy _,GC hacc _,Cp,h0,Ax _⟩,?_⟩;rintro i m ys H' ⟨rfl,hi,sm,ea,pv,hy⟩
 by_cases hlt:i < xs.length
 ·obtain⟨go,yl⟩:=(hw H' sm).1 i hlt
  refine .inr ⟨go,fun x H2 y=>?_⟩;obtain⟨rfl,hx⟩:=yl x H2 y;refine hs i x ys acc _ hx sm hacc ea pv hy _ fun b H3 s3 pf pt=>?_
  cases b with
  | false=>
   rw[if_neg Cg];exact⟨xs.length - (i+1),by omega,rfl,hlt,sm.trans s3,s3 _ _ ea,pf rfl,xm hy⟩
  | true=>
   rw[if_pos rfl];refine pt rfl _ fun y H4 s4 py=>⟨s4 _ _ (s3 _ _ ea),Vg (by omega),xs.length - (i+1),by omega,rfl,hlt,sU _ (sm.trans (s3.trans s4)),Cp,py,?_⟩;rw[Ca,Ei];omega
 ·have e:i=xs.length:=by omega
  subst e;exact .inl ⟨(hw H' sm).2,hd acc ys H' hacc sm ea pv⟩
end
section
variable {X:Cx} {K:Ao} {a o:Aw} {ta:TE} {pos:Pos}
theorem R7 (hK:X.K=K):IxR X (rIx K):=by subst hK; exact Bu
theorem ZsA (hK:X.K=K) (ha:PE X a ta) (he:∀whole,isTrue a X.env whole=(do let v ←whole; standAt a.pos; holding [v] (truthy v))):PT X a (fun σ H Q=>ta σ H fun x H'=>∃k,TruV K x H' k∧Q k H'):=by subst hK; exact CK ha he
end
end L2
namespace EM
theorem Zxy (x y:Nat):x - (x &&& y)=(x &&& y) ^^^ x:=by
 have h:=ZK (x+1) (x &&& y) x (by have:=TY (n:=x) (m:=y); omega)
 have e1:(x &&& y) ||| x=x:=by
  apply DQ; intro i; rw[Fv,Do]; cases x.testBit i <;> simp
 have e2:(x &&& y) &&& x=x &&& y:=by
  apply DQ; intro i; rw[Do,Do]; cases x.testBit i <;> simp
 rw[e1,e2]at h;omega
theorem GD (x y i:Nat):(x - (x &&& y)).testBit i=(x.testBit i && !y.testBit i):=by
 rw[Zxy,Nat.testBit_xor,Do]
 cases x.testBit i <;> cases y.testBit i <;> rfl
noncomputable abbrev Bar:=Nat×Nat
def Bar.good (b:Bar):Prop:=b.1 < 64∧b.2 &&& b.1=b.2
noncomputable def lies (s:Nat) (b:Bar):Bool:=(Cd 6).all fun k=>!(b.1.testBit k && (b.2.testBit k != s.testBit k))
theorem Vj {s:Nat} {b:Bar}:lies s b=true ↔ ∀k,k < 6→b.1.testBit k=true→b.2.testBit k=s.testBit k:=by
 unfold lies;rw[Lb]
 constructor
 ·intro h k hk hb
  have:=h k (Es.mpr hk);rw[hb]at this
  simpa using this
 ·intro h k hk
  cases hb:b.1.testBit k with
  | false=>rfl
  | true=>
   have:=h k (Es.mp hk) hb;simp[this]
theorem R8 {s:Nat} {b:Bar} (g:b.good):decide (s &&& b.1=b.2)=lies s b:=by
 obtain⟨g1,g2⟩:=g;have hi:∀k,6≤k→b.1.testBit k=false:=fun k hk=>TF (Er g1 (Hq (by decide) hk:2 ^ 6≤2 ^ k))
 have sub:∀k,b.2.testBit k=true→b.1.testBit k=true:=fun k h=>by
  rw[←g2,Do]at h;simp at h; exact h.2
 rw[GX,decide_eq_true_iff,Vj]
 constructor
 ·intro h k _ hb
  rw[←h,Do,hb,Hs]
 ·intro h
  apply DQ;intro k;rw[Do]
  cases hb:b.1.testBit k with
  | false=>
   rw[Fw]
   cases hl:b.2.testBit k with
   | false=>rfl
   | true=>rw[sub k hl]at hb; cases hb
  | true=>
   rw[Hs]
   have hk:k < 6:=by
    by_cases hk:k < 6
    ·exact hk
    ·rw[hi k (by omega)]at hb; cases hb
   exact(h k hk hb).symm
noncomputable def Bh (n:Nat) (b:Bar):Nat:=bits (fun s=>lies s b) n
theorem Vk {x m k:Nat} (h:x < 2 ^ m) (hk:m≤k):x.testBit k=false:=TF (Er h (Hq (by decide) hk))
noncomputable def clr (x k:Nat):Nat:=x - (x &&& 2 ^ k)
theorem Zkf (x k i:Nat):(clr x k).testBit i=(x.testBit i && !decide (k=i)):=by
 unfold clr;rw[GD,Ng]
noncomputable def Bar.wo (b:Bar) (k:Nat):Bar:=(clr b.1 k,clr b.2 k)
theorem Zjs (p:Nat→Bool) (i:Nat):(Cd (i+1)).filter p=(Cd i).filter p++(if p i=true then [i] else []):=by
 rw[Yo,Ld,Le,T4]
noncomputable def subB (b c:Bar):Bool:=(Cd 6).all fun k=>!c.1.testBit k || (b.1.testBit k && (b.2.testBit k == c.2.testBit k))
theorem Z5 {b c:Bar}:subB b c=true ↔ ∀k,k < 6→c.1.testBit k=true→b.1.testBit k=true∧b.2.testBit k=c.2.testBit k:=by
 unfold subB;rw[Lb]
 constructor
 ·intro h k hk hc
  have:=h k (Es.mpr hk);rw[hc]at this
  simpa using this
 ·intro h k hk
  cases hc:c.1.testBit k with
  | false=>rfl
  | true=>
   have:=h k (Es.mp hk) hc;simp[this.1,this.2]
theorem Z6 {b:Bar} (g:b.good) {k:Nat} (h:b.1.testBit k=false):b.2.testBit k=false:=by
 have:=g.2
 cases e:b.2.testBit k with
 | false=>rfl
 | true=>rw[←this,Do,h,Fw]at e; cases e
theorem N6 {b:Bar} (g:b.good) {k:Nat} (h:b.1.testBit k=true):k < 6:=by
 by_cases hk:k < 6
 ·exact hk
 ·rw[Vk (m:=6) g.1 (by omega)]at h; cases h
end EM
namespace EM
open PySem PySem.W PyProof.Rows
section
variable {cmp:Nat→Nat→(Bool→Ae→Prop)→Ae→Prop} {Ok:Ae→Prop} {n:Nat} {lt:Nat→Nat→Bool} {R:Nat→Nat→Prop} {α β:Type}
structure Ga (n:Nat) (p:Array Nat):Prop where
 sz:p.size=n
 pm:p.Perm (Ya5 (Cd n))
theorem Ga.lo {p:Array Nat} (h:Ga n p) (h0:0 < n) (k:Nat):p.getD k 0 < n:=by
 rw[Kg]
 cases e:p[k]? with
 | none=>exact h0
 | some v=>
  have hm:v∈p:=Array.mem_of_getElem? e;have:v∈(Cd n).toArray:=h.pm.mem_iff.mp hm
  simpa using this
theorem JM {p:Array Nat} {i j:Nat} (hj:j≤p.size) (hij:i≤j) (k:Nat):(Nh p i j).getD k 0=if i≤k∧k < j then p.getD (i+j - 1 - k) 0 else p.getD k 0:=by
 unfold Nh;rw[Kg,getElem?_mirror hj _ (by omega),Kg,Kg]
 by_cases h1:(i≤k∧k < i+(j - i) / 2)∨(j - (j - i) / 2≤k∧k < j)
 ·rw[if_pos h1,if_pos (by omega)]
 ·rw[if_neg h1]
  by_cases h2:i≤k∧k < j
  ·rw[if_pos h2]
   have:i+j - 1 - k=k:=by omega
   rw[this]
  ·rw[if_neg h2]
theorem Z7 {p:Array Nat} {k l:Nat} (hk:k < p.size) (hl:l≤k) (i:Nat):(bubble p k (k - l)).getD i 0=if i=l then p.getD k 0 else if l < i∧i≤k then p.getD (i - 1) 0 else p.getD i 0:=by
 rw[Kg,getElem?_bubble hk _ (by omega),Kg,Kg,Kg]
 have e:k - (k - l)=l:=by omega
 rw[e]
 split
 ·rfl
 ·split <;> rfl
theorem Ga.rev {p:Array Nat} (h:Ga n p) (i j:Nat):Ga n (Nh p i j):=⟨(mirror_size _ _ _ _).trans h.sz,(mirror_perm _ _ _ _).trans h.pm⟩
theorem Ga.bub {p:Array Nat} (h:Ga n p) (k d:Nat):Ga n (bubble p k d):=⟨(bubble_size _ _ _).trans h.sz,(bubble_perm _ _ _).trans h.pm⟩
end
end EM
namespace L2
open PySem PySem.Spec PyProof.Rows
section
variable {prog:Ay} {w:Av} {A:Bp} {E:Ab→Ae→Prop} {s:Ae}
theorem Znx (ws:List Ab):((ws.toArray.zip ws.toArray).map fun x=>x.2)=ws.toArray:=by
 apply Array.ext';rw[Ya6,Array.toList_zip];exact List.map_snd_zip (Ax _)
theorem Zps {a:Aa} {ws:List Ab} {k:Nat} {Pq:Ya7→Ae→Prop} (ho:s.heap.get? a=some (seqObj "list" ws.toArray k)) (few:ws.length < 2)
  (h:Pq (.done (.ret .none)) { s with heap:=sortedHeap s.heap a ws ws.toArray }):Ai (model prog w) A (Fd.«list.sort» ⟨[.ref a],[]⟩) Pq E s:=by
 have sm:ws.toArray.size < 2:=by rw[Cu]; exact few
 have fit:ws.toArray.size≤Bk:=Eb (K4 sm) (by decide);have ha:=BR ho;rw[Ya8];refine Af (listItems_at ho rfl (Af (Yp ho rfl ?_ fit (Cy _))));obtain⟨c1,hc1⟩ : ∃c,(s.heap.update a (DP fun _=>#[])).get? a=some (seqObj "list" #[] c):=⟨_,Ya9 ho _⟩;refine Af (Yq hc1 rfl (Af (xn ?_ (by simpa using fit))));refine Af (T8 ?_ (Cy _));refine Fq ?_
 have hc2:(((s.heap.update a (DP fun _=>#[])).push (seqObj "tuple" ws.toArray 0)).push (seqObj "list" #[] 0)).get? a=some (seqObj "list" #[] c1):=
  BK _ (BK _ hc1)
 show Ai (model prog w) A _ Pq E { s with heap:=((s.heap.update a (DP fun _=>#[])).push (seqObj "tuple" ws.toArray 0)).push (seqObj "list" #[] 0) }
 dsimp only
 rw[if_pos sm,if_pos sm];refine Af (Aq ?_);rw[StateT.run_pure];refine Af (Aq ?_)
 dsimp only
 have ez:(arrOf (Fx general' (ws.toArray.zip ws.toArray) #[] 7 none)).map (·.2)=ws.toArray:=Znx ws;rw[ez];refine Af (Yq hc2 rfl (Af (Yp hc2 rfl ?_ (Cy _) (xm fit))));simp only [bne_self_eq_false,Dg,if_false];exact Aq h
theorem Zqs {l:Aa} {ws:List Ab} {Q:Ab→Ae→Prop} (hl:s.heap.IsList l ws.toArray) (few:ws.length < 2)
  (h:Q (.ref (s.heap.objs.size+1)) { s with heap:=sortedAll s.heap ws ws.toArray }):Ai (model prog w) A (call (.builtin "sorted") [.ref l]) Q E s:=by
 have fit:ws.length≤Bk:=Eb (K4 few) (by decide);refine xq xr xu xx (yc _) ?_;unfold Fd.«sorted»;refine Af (m:=checkCount "sorted" 1 1 _) (Aq (Af (collect_list hl ?_ (by rw[Iu]; omega))));refine Af (T8 ?_ fit)
 have z1:((s.heap.push (seqObj "list" #[] 0)).update s.heap.objs.size (DP (· ++ ws.toArray))).objs.size=s.heap.objs.size+1:=by rw[Yr,Ys]
 have at1:(((s.heap.push (seqObj "list" #[] 0)).update s.heap.objs.size (DP (· ++ ws.toArray))).push (seqObj "list" ws.toArray 0)).get? (s.heap.objs.size+1)=some (seqObj "list" ws.toArray 0):=by
  have:=CT ((s.heap.push (seqObj "list" #[] 0)).update s.heap.objs.size (DP (· ++ ws.toArray))) (o:=seqObj "list" ws.toArray 0) rfl;rw[z1]at this;exact this
 show Ai _ _ _ _ _ { s with heap:=((s.heap.push (seqObj "list" #[] 0)).update s.heap.objs.size (DP (· ++ ws.toArray))).push (seqObj "list" ws.toArray 0) };rw[z1];refine Af (Fq (Gu Yt ⟨_,at1,rfl⟩ Yu (Zps at1 few ⟨_,rfl,?_⟩) (Yv _)));exact Aq ⟨_,rfl,h⟩
end
section
variable {X:Cx}
def ple (a b:Int×Int):Prop:=a.1 < b.1∨(a.1=b.1∧a.2≤b.2)
def Ex (H:Hp) (p:Aa) (k:Int×Int):Prop:=H p=some (.tup [.int k.1,.int k.2])
theorem Z8:∀{ps:List Aa} {us:List Ab},Vals (ps.map V.ref) us→us=ps.map Be
 | [],_,r=>by cases r; rfl
 | p::ps,_,r=>by
  cases r with
  | cons r1 r2=>
   rw[Z8 r2]
   cases r1
   rfl
theorem Vl:∀ps:List Aa,Vals (ps.map V.ref) (ps.map Be)
 | []=>.nil
 | p::ps=>.cons rfl (Vl ps)
theorem Zto {a b:Int} {us:List Ab} (r:Vals [.int a,.int b] us):∃t u,us=[.int a t,.int b u]:=by
 cases r with
 | cons r1 r2=>
  cases r2 with
  | cons r3 r4=>
   cases r4
   obtain⟨t,rfl⟩:=r1;obtain⟨u,rfl⟩:=r3;exact⟨t,u,rfl⟩
theorem Z9 {a b c:Int×Int} (h:ple a b) (k:ple b c):ple a c:=by
 unfold ple at *;omega
noncomputable def pltB (a b:Int×Int):Bool:=if a.1=b.1 then decide (a.2 < b.2) else decide (a.1 < b.1)
theorem Zpi {a b:Int×Int} (h:pltB a b=true):ple a b:=by
 unfold pltB at h;unfold ple
 split at h
 ·have:=of_decide_eq_true h; omega
 ·have:=of_decide_eq_true h; omega
theorem Zsp {a b:Int×Int} (h:pltB a b=false):ple b a:=by
 unfold pltB at h;unfold ple
 split at h
 ·have:=of_decide_eq_false h; omega
 ·have:=of_decide_eq_false h; omega
theorem aa {α:Type} (d:α) (l:List α) {ix:List Nat} (h:ix.Perm (Cd l.length)):(ix.map fun i=>l.getD i d).Perm l:=by
 have e:(Cd l.length).map (fun i=>l.getD i d)=l:=by
  apply Yba
  ·simp
  ·intro i h1 h2
   simp[Cz,h2]
 have:=h.map fun i=>l.getD i d
 rwa [e]at this
theorem Vm {α β:Type} {F:α→β→Prop} {xs:List α} {ys:List β} (h:Bd F xs ys) (d:α) (e:β) {i:Nat} (hi:i < xs.length):F (xs.getD i d) (ys.getD i e):=by
 induction h generalizing i with
 | nil=>exact absurd hi (by simp)
 | cons r s ih=>
  cases i with
  | zero=>exact r
  | succ i=>simpa using ih (by simpa using hi)
theorem Znk {α β:Type} {F:α→β→Prop} {xs:List α} {ys:List β} (h:Bd F xs ys) (d:α) (e:β):∀ix:List Nat,(∀i∈ix,i < xs.length)→Bd F (ix.map fun i=>xs.getD i d) (ix.map fun i=>ys.getD i e)
 | [],_=>.nil
 | i::r,hi=>.cons (Vm h d e (hi i Ec)) (Znk h d e r fun j hj=>hi j (Et _ hj))
theorem Inv.tup_at {pins:List (Aa×Obj)} {σ:St} {H:Hp} {s:Ae} (I:Inv X pins σ H s) {p:Aa} {k:Int×Int} (h:Ex H p k):∃o t u c,s.heap.get? p=some o∧o.cls=.type "tuple"∧o.data=.seq #[.int k.1 t,.int k.2 u] c:=by
 obtain⟨_,its,r,o,e,hc,c,hd⟩:=I.hok p _ h;obtain⟨t,u,rfl⟩:=Zto r;exact⟨o,t,u,c,e,hc,hd⟩
end
end L2
namespace EM
open PySem PySem.W PyProof.Rows
noncomputable def gal':Bool→Keyed→Array Keyed→Nat→Nat→Nat→StateT SortSt Sem (Option Nat):=sortPriv% PySem.Builtin.gallop
noncomputable def mlo':Array Keyed→Array Keyed→StateT SortSt Sem (Array Keyed):=sortPriv% PySem.Builtin.mergeLo
noncomputable def mhi':Array Keyed→Array Keyed→StateT SortSt Sem (Array Keyed):=sortPriv% PySem.Builtin.mergeHi
noncomputable def bey' (l:Bool) (k:Bg) (ar:Array Bg) (b i:Nat):StateT Am Sem (Option Bool):=do
 let x ←elem' ar (b+i)
 if l then lt' x k else return (←lt' k x).map (!·)
noncomputable def Vn (l:Bool) (k:Bg) (ar:Array Bg) (b n:Nat) (u v:Nat):StateT Am Sem (Option Nat):=do
 let mut u:=u
 let mut v:=v
 for _ in [0:n] do
  if u ≥ v then break
  let m:=u+(v - u) / 2
  let some c ←bey' l k ar b m | return none
  if c then u:=m+1 else v:=m
 return some v
theorem Zx5 (l:Bool) (k:Bg) (ar:Array Bg) (b n h:Nat):gal' l k ar b n h=(do
  let mut s:=0
  let mut o:=1
  let some r ←bey' l k ar b h | return none
  if r then
   let M:=n - h
   for _ in [0:n] do
    if o ≥ M then break
    let some c ←bey' l k ar b (h+o) | return none
    if !c then break
    s:=o
    o:=2 * o+1
   Vn l k ar b n (h+s+1) (h+min o M)
  else
   let M:=h+1
   for _ in [0:n] do
    if o ≥ M then break
    let some c ←bey' l k ar b (h - o) | return none
    if c then break
    s:=o
    o:=2 * o+1
   Vn l k ar b n (h+1 - min o M) (h - s)):=by
 rfl
section
variable {prog:Ay} {w:Av} {A:Bp} {E:Ab→Ae→Prop} {κ:G6} {it:Array Bg} {Ok:Ae→Prop} {N:Nat} {lt:Nat→Nat→Bool} {R:Nat→Nat→Prop} {α β:Type}
def Sq (prog:Ay) (w:Av) (A:Bp) (E:Ab→Ae→Prop) (Ok:Ae→Prop) {α:Type} (m:StateT Am Sem α) (st:Am) (Q:α→Am→Prop):Prop:=
 ∀(C:α→Am→Ae→Prop) s,Ok s→(∀a st' s',Ok s'→Q a st'→C a st' s')→kasC (model prog w) A E m C st s
theorem Sq.pure {a:α} {st:Am} {Q:α→Am→Prop} (h:Q a st):Sq prog w A E Ok (pure a) st Q:=fun C s o k=>kasC_pure (k a st s o h)
theorem Sq.bind {m:StateT Am Sem α} {f:α→StateT Am Sem β} {st:Am} {P1:α→Am→Prop} {Q:β→Am→Prop} (h:Sq prog w A E Ok m st P1) (h2:∀a st',P1 a st'→Sq prog w A E Ok (f a) st' Q):Sq prog w A E Ok (m >>= f) st Q:=fun C s o k=>
 yd (h _ s o fun a st' s' o' p=>h2 a st' p C s' o' k)
theorem Sq.get {st:Am} {Q:Am→Am→Prop} (h:Q st st):Sq prog w A E Ok (ye:StateT Am Sem Am) st Q:=fun C s o k=>kasC_get (k _ _ s o h)
theorem Sq.modify {f:Am→Am} {st:Am} {Q:PUnit→Am→Prop} (h:Q ⟨⟩ (f st)):Sq prog w A E Ok (_root_.modify f:StateT Am Sem PUnit) st Q:=fun C s o k=>kasC_modify (k _ _ s o h)
theorem Sq.rule {x:String} {st:Am} {Q:Unit→Am→Prop} (h:Q () st):Sq prog w A E Ok (liftM (PySem.rule x):StateT Am Sem Unit) st Q:=fun C s o k=>kasC_lift (yf (k _ _ s o h))
theorem Sq.list {f:Nat→β→StateT Am Sem (ForInStep β)} {Q:β→Am→Prop} (I:Nat→β→Am→Prop) (m:Nat) (hs:∀i x c st,i < m→I i c st→Sq prog w A E Ok (f x c) st (fun r st'=>match r with | .done c'=>Q c' st' | .yield c'=>I (i+1) c' st')) (he:∀c st,I m c st→Q c st):∀(l:List Nat) (i:Nat) (c:β) (st:Am),i+l.length=m→I i c st→Sq prog w A E Ok (forIn l c f) st Q
 | [],i,c,st,hl,h=>by
  have e:i=m:=by simpa using hl
  subst e;exact fun C s o k=>kasC_nil (k _ _ s o (he c st h))
 | x::l,i,c,st,hl,h=>by
  rw[Ds]at hl;refine fun C s o k=>kasC_cons (hs i x c st (by omega) h _ s o fun r st' s' o' p=>?_)
  cases r with
  | done c'=>exact k _ _ s' o' p
  | yield c'=>exact Sq.list I m hs he l (i+1) c' st' (by omega) p C s' o' k
theorem Sq.range {a b:Nat} {c:β} {f:Nat→β→StateT Am Sem (ForInStep β)} {st:Am} {Q:β→Am→Prop} (I:Nat→β→Am→Prop) (h0:I 0 c st) (hs:∀i x c st,i < b - a→I i c st→Sq prog w A E Ok (f x c) st (fun r st'=>match r with | .done c'=>Q c' st' | .yield c'=>I (i+1) c' st')) (he:∀c st,I (b - a) c st→Q c st):Sq prog w A E Ok (forIn [a:b] c f) st Q:=fun C s o k=>
 kasC_range (Sq.list I (b - a) hs he _ 0 c st (by simp) h0 C s o k)
noncomputable def stt (κ:G6) (it:Array Bg) (l:List Nat) (pd:Array (Nat×Nat×Nat)) (g:Nat):Am:=Fx κ (l.map (BX it)).toArray pd g none
structure CmN (prog:Ay) (w:Av) (A:Bp) (κ:G6) (it:Array Bg) (Ok:Ae→Prop) (N:Nat) (lt:Nat→Nat→Bool) (R:Nat→Nat→Prop):Prop where
 ask:∀i j,i < N→j < N→∀(C:Bool→Ae→Prop) s,Ok s→(∀s',Ok s'→C (lt i j) s')→kas_cmp prog w A κ it i j C s
 yes:∀i j,lt i j=true→R i j
 no:∀i j,lt i j=false→R j i
 tr:∀i j k,R i j→R j k→R i k
theorem Sq.ask {i j:Nat} {l:List Nat} {pd:Array (Nat×Nat×Nat)} {g:Nat} {Q:Option Bool→Am→Prop} (M:CmN prog w A κ it Ok N lt R) (hi:i < N) (hj:j < N) (h:Q (some (lt i j)) (stt κ it l pd g)):Sq prog w A E Ok (lt' (BX it i) (BX it j)) (stt κ it l pd g) Q:=fun C s o k=>by
 rw[lt'_eq];refine yd (kasC_get ?_);refine yd (kasC_lift (T9 (Dn (M.ask i j hi hj _ s o fun s' o'=>?_) (fun _ _ q=>q) fun _ _ hF=>hF.elim)));exact kasC_pure (k _ _ s' o' h)
theorem Sq.elem {ar:List Nat} {i:Nat} {x:Nat} {st:Am} {Q:Bg→Am→Prop} (hx:ar[i]?=some x) (h:Q (BX it x) st):Sq prog w A E Ok (elem' (ar.map (BX it)).toArray i) st Q:=by
 rw[yg]
 have e:(ar.map (BX it)).toArray[i]?=some (BX it x):=by simp[hx]
 rw[e];exact Sq.pure h
noncomputable def fB (lt:Nat→Nat→Bool) (l:Bool) (k x:Nat):Bool:=if l then lt x k else !(lt k x)
theorem Sq.bey {l:Bool} {k x b i:Nat} {ar:List Nat} {li:List Nat} {pd:Array (Nat×Nat×Nat)} {g:Nat} {Q:Option Bool→Am→Prop} (M:CmN prog w A κ it Ok N lt R) (hk:k < N) (hx:ar[b+i]?=some x) (hxn:x < N) (h:Q (some (fB lt l k x)) (stt κ it li pd g)):Sq prog w A E Ok (bey' l (BX it k) (ar.map (BX it)).toArray b i) (stt κ it li pd g) Q:=by
 unfold bey';refine Sq.bind (P1:=fun a st'=>a=BX it x∧st'=stt κ it li pd g) (Sq.elem hx ⟨rfl,rfl⟩) ?_;rintro a st' ⟨rfl,rfl⟩
 cases l with
 | true=>exact Sq.ask M hxn hk h
 | false=>
  rw[if_neg Cg];refine Sq.bind (P1:=fun a st'=>a=some (lt k x)∧st'=stt κ it li pd g) (Sq.ask M hk hxn ⟨rfl,rfl⟩) ?_;rintro a st' ⟨rfl,rfl⟩;exact Sq.pure h
theorem ak (M:CmN prog w A κ it Ok N lt R) {l:Bool} {k x:Nat} (h:fB lt l k x=true):R x k:=by
 unfold fB at h
 cases l with
 | true=>exact M.yes _ _ h
 | false=>exact M.no _ _ (by simpa using h)
theorem ao (M:CmN prog w A κ it Ok N lt R) {l:Bool} {k x:Nat} (h:fB lt l k x=false):R k x:=by
 unfold fB at h
 cases l with
 | true=>exact M.no _ _ h
 | false=>exact M.yes _ _ (by simpa using h)
structure Gal (lt:Nat→Nat→Bool) (l:Bool) (k:Nat) (ar:List Nat) (b n u v:Nat):Prop where
 lo:u=0∨∃x,ar[b+(u - 1)]?=some x∧fB lt l k x=true
 hi:v=n∨∃x,ar[b+v]?=some x∧fB lt l k x=false
 le:u≤v
 vn:v≤n
theorem Sq.galR {l:Bool} {k b n u v:Nat} {ar:List Nat} {li:List Nat} {pd:Array (Nat×Nat×Nat)} {g:Nat} {Q:Option Nat→Am→Prop} (M:CmN prog w A κ it Ok N lt R) (hk:k < N) (ha:∀x∈ar,x < N) (hz:b+n≤ar.length) (hG:Gal lt l k ar b n u v) (h:∀v,Gal lt l k ar b n v v→Q (some v) (stt κ it li pd g)):Sq prog w A E Ok (Vn l (BX it k) (ar.map (BX it)).toArray b n u v) (stt κ it li pd g) Q:=by
 unfold Vn;refine Sq.bind (P1:=fun a st'=>∃v,a=(none,v,v)∧st'=stt κ it li pd g∧Gal lt l k ar b n v v) ?_ ?_
 ·refine Sq.range (fun i c st'=>∃u v,c=(none,u,v)∧st'=stt κ it li pd g∧Gal lt l k ar b n u v∧v - u≤n - i) ⟨u,v,rfl,rfl,hG,by have:=hG.vn; omega⟩ ?_ ?_
  ·intro i x c st' hi h_;refine xE2 h_ fun u v h1_=>nE4 h1_ fun e0_ e1_ G hl=>?_;clear h_ h1_;subst e0_;subst e1_
   have g1:=G.le;have g2:=G.vn
   dsimp only
   by_cases huv:u ≥ v
   ·rw[if_pos huv]
    have:u=v:=by omega
    subst this;exact Sq.pure ⟨u,rfl,rfl,G⟩
   ·rw[if_neg huv]
    obtain⟨y,hy⟩ : ∃y,ar[b+(u+(v - u) / 2)]?=some y:=⟨_,CJ (by omega)⟩;have hyn:=ha y (Df hy);refine Sq.bind (P1:=fun a st'=>a=some (fB lt l k y)∧st'=stt κ it li pd g) (Sq.bey M hk hy hyn ⟨rfl,rfl⟩) ?_;rintro a st' ⟨rfl,rfl⟩
    dsimp only
    cases hf:fB lt l k y with
    | true=>
     rw[if_pos rfl];exact Sq.pure ⟨_,_,rfl,rfl,⟨.inr ⟨y,by rw[Ni]; exact hy,hf⟩,G.hi,by omega,G.vn⟩,by omega⟩
    | false=>
     rw[if_neg Cg];exact Sq.pure ⟨_,_,rfl,rfl,⟨G.lo,.inr ⟨y,hy,hf⟩,by omega,by omega⟩,by omega⟩
  ·intro c st' h_;refine xE2 h_ fun u v h1_=>nE4 h1_ fun e0_ e1_ G hl=>?_;clear h_ h1_;subst e0_;subst e1_
   have g1:=G.le
   have:u=v:=by omega
   subst this;exact⟨u,rfl,rfl,G⟩
 ·rintro a st' ⟨v,rfl,rfl,G⟩
  exact Sq.pure (h v G)
theorem Sq.gal {l:Bool} {k b n hn:Nat} {ar:List Nat} {li:List Nat} {pd:Array (Nat×Nat×Nat)} {g:Nat} {Q:Option Nat→Am→Prop} (M:CmN prog w A κ it Ok N lt R) (hk:k < N) (ha:∀x∈ar,x < N) (hz:b+n≤ar.length) (hh:hn < n) (h:∀v,Gal lt l k ar b n v v→Q (some v) (stt κ it li pd g)):Sq prog w A E Ok (gal' l (BX it k) (ar.map (BX it)).toArray b n hn) (stt κ it li pd g) Q:=by
 rw[Zx5];obtain⟨y,hy⟩ : ∃y,ar[b+hn]?=some y:=⟨_,CJ (by omega)⟩;have hyn:=ha y (Df hy);refine Sq.bind (P1:=fun a st'=>a=some (fB lt l k y)∧st'=stt κ it li pd g) (Sq.bey M hk hy hyn ⟨rfl,rfl⟩) ?_;rintro a st' ⟨rfl,rfl⟩
 dsimp only
 cases hf:fB lt l k y with
 | true=>
  rw[if_pos rfl];refine Sq.bind (P1:=fun a st'=>∃s o,a=(none,s,o)∧st'=stt κ it li pd g∧Gal lt l k ar b n (hn+s+1) (hn+min o (n - hn))) ?_ ?_
  ·refine Sq.range (fun i c st'=>∃s o,c=(none,s,o)∧st'=stt κ it li pd g∧s < o∧s < n - hn∧i < o∧∃x,ar[b+(hn+s)]?=some x∧fB lt l k x=true) ⟨0,1,rfl,rfl,by omega,by omega,by omega,y,hy,hf⟩ ?_ ?_
   ·rintro i x c st' hi ⟨s,o,rfl,rfl,h1,h2,h3,z,hz1,hz2⟩
    dsimp only
    by_cases ho:o ≥ n - hn
    ·rw[if_pos ho]
     exact Sq.pure ⟨s,o,rfl,rfl,.inr ⟨z,by rw[Ni]; exact hz1,hz2⟩,.inl (by omega),by omega,by omega⟩
    ·rw[if_neg ho]
     obtain⟨q,hq⟩ : ∃q,ar[b+(hn+o)]?=some q:=⟨_,CJ (by omega)⟩;refine Sq.bind (P1:=fun a st'=>a=some (fB lt l k q)∧st'=stt κ it li pd g) (Sq.bey M hk hq (ha q (Df hq)) ⟨rfl,rfl⟩) ?_;rintro a st' ⟨rfl,rfl⟩
     dsimp only
     cases hf2:fB lt l k q with
     | true=>
      rw[if_neg (by decide)];exact Sq.pure ⟨o,2 * o+1,rfl,rfl,by omega,by omega,by omega,q,hq,hf2⟩
     | false=>
      rw[if_pos (by decide)];exact Sq.pure ⟨s,o,rfl,rfl,.inr ⟨z,by rw[Ni]; exact hz1,hz2⟩,.inr ⟨q,by rw[TQ (by omega)]; exact hq,hf2⟩,by omega,by omega⟩
   ·rintro c st' ⟨s,o,rfl,rfl,h1,h2,h3,z,hz1,hz2⟩
    exact⟨s,o,rfl,rfl,.inr ⟨z,by rw[Ni]; exact hz1,hz2⟩,.inl (by omega),by omega,by omega⟩
  ·rintro a st' ⟨s,o,rfl,rfl,G⟩
   exact Sq.galR M hk ha hz G h
 | false=>
  rw[if_neg Cg];refine Sq.bind (P1:=fun a st'=>∃s o,a=(none,s,o)∧st'=stt κ it li pd g∧Gal lt l k ar b n (hn+1 - min o (hn+1)) (hn - s)) ?_ ?_
  ·refine Sq.range (fun i c st'=>∃s o,c=(none,s,o)∧st'=stt κ it li pd g∧s < o∧s < hn+1∧i < o∧∃x,ar[b+(hn - s)]?=some x∧fB lt l k x=false) ⟨0,1,rfl,rfl,by omega,by omega,by omega,y,hy,hf⟩ ?_ ?_
   ·rintro i x c st' hi ⟨s,o,rfl,rfl,h1,h2,h3,z,hz1,hz2⟩
    dsimp only
    by_cases ho:o ≥ hn+1
    ·rw[if_pos ho]
     exact Sq.pure ⟨s,o,rfl,rfl,.inl (by omega),.inr ⟨z,hz1,hz2⟩,by omega,by omega⟩
    ·rw[if_neg ho]
     obtain⟨q,hq⟩ : ∃q,ar[b+(hn - o)]?=some q:=⟨_,CJ (by omega)⟩;refine Sq.bind (P1:=fun a st'=>a=some (fB lt l k q)∧st'=stt κ it li pd g) (Sq.bey M hk hq (ha q (Df hq)) ⟨rfl,rfl⟩) ?_;rintro a st' ⟨rfl,rfl⟩
     dsimp only
     cases hf2:fB lt l k q with
     | true=>
      rw[if_pos rfl];exact Sq.pure ⟨s,o,rfl,rfl,.inr ⟨q,by rw[TQ (by omega),show hn+1 - o - 1=hn - o by omega]; exact hq,hf2⟩,.inr ⟨z,hz1,hz2⟩,by omega,by omega⟩
     | false=>
      rw[if_neg Cg];exact Sq.pure ⟨o,2 * o+1,rfl,rfl,by omega,by omega,by omega,q,hq,hf2⟩
   ·rintro c st' ⟨s,o,rfl,rfl,h1,h2,h3,z,hz1,hz2⟩
    exact⟨s,o,rfl,rfl,.inl (by omega),.inr ⟨z,hz1,hz2⟩,by omega,by omega⟩
  ·rintro a st' ⟨s,o,rfl,rfl,G⟩
   exact Sq.galR M hk ha hz G h
end
end EM
namespace EM
open PySem PySem.W PyProof.Rows
noncomputable abbrev KC (g:Nat) (s:Am):Am:=Fx (kindOf s) (arrOf s) (pendingOf s) g (failedOf s)
noncomputable abbrev T7:=Option (Array Bg)×Array Bg×Nat×Nat×Nat×Nat×Nat
noncomputable def dN (a b o:Array Bg) (i j:Nat):Array Bg:=o++a.extract i a.size++b.extract j b.size
noncomputable def loC (a b o:Array Bg) (i j G p q:Nat):StateT Am Sem (ForInStep T7):=do
 let x ←elem' a i
 if i+1+1 == a.size then return .done (some (dN b a (o.push x) j (i+1)),o.push x,i+1,j,G,p,q)
 if p < 7 && q < 7 then return .done (none,o.push x,i+1,j,G,p,q)
 return .yield (none,o.push x,i+1,j,G,p,q)
noncomputable def loB (a b o:Array Bg) (i j G p q:Nat):StateT Am Sem (ForInStep T7):=do
 let y ←elem' b j
 if j+1 == b.size then return .done (some (dN a b (o.push y) i (j+1)),o.push y,i,j+1,G,p,q)
 let some k ←gal' true (←elem' a i) b (j+1) (b.size - (j+1)) 0 | return .done (some (dN a b (o.push y) i (j+1)),o.push y,i,j+1,G,p,q)
 if k > 0 then
  if j+1+k == b.size then return .done (some (dN a b (o.push y++b.extract (j+1) (j+1+k)) i (j+1+k)),o.push y++b.extract (j+1) (j+1+k),i,j+1+k,G,p,k)
  loC a b (o.push y++b.extract (j+1) (j+1+k)) i (j+1+k) G p k
 else loC a b (o.push y) i (j+1) G p k
noncomputable def loA (a b o:Array Bg) (i j G p q:Nat):StateT Am Sem (ForInStep T7):=do
 modify (KC G)
 let some k ←gal' false (←elem' b j) a i (a.size - i) 0 | return .done (some (dN a b o i j),o,i,j,G,p,q)
 if k > 0 then
  if i+k+1 == a.size then return .done (some (dN b a (o++a.extract i (i+k)) j (i+k)),o++a.extract i (i+k),i+k,j,G,k,q)
  if i+k == a.size then return .done (some (dN a b (o++a.extract i (i+k)) (i+k) j),o++a.extract i (i+k),i+k,j,G,k,q)
  loB a b (o++a.extract i (i+k)) (i+k) j G k q
 else loB a b o i j G k q
noncomputable abbrev T6:=Option (Array Bg)×Array Bg×Nat×Nat×Nat×Nat
noncomputable def loS (a b o:Array Bg) (i j p q G:Nat):StateT Am Sem (ForInStep T6):=do
 let some c ←lt' (←elem' b j) (←elem' a i) | return .done (some (dN a b o i j),o,i,j,p,q)
 if c then
  let y ←elem' b j
  if j+1 == b.size then return .done (some (dN a b (o.push y) i (j+1)),o.push y,i,j+1,0,q+1)
  if q+1 ≥ G then return .done (none,o.push y,i,j+1,0,q+1)
  return .yield (none,o.push y,i,j+1,0,q+1)
 else
  let x ←elem' a i
  if i+1+1 == a.size then return .done (some (dN b a (o.push x) j (i+1)),o.push x,i+1,j,p+1,0)
  if p+1 ≥ G then return .done (none,o.push x,i+1,j,p+1,0)
  return .yield (none,o.push x,i+1,j,p+1,0)
noncomputable abbrev T5:=Option (Array Bg)×Array Bg×Nat×Nat×Nat
noncomputable def loT (a b:Array Bg) (T:Nat) (s:T5):StateT Am Sem (ForInStep T5):=do
 let t:T6 ←forIn [0:T] (none,s.2.1,s.2.2.1,s.2.2.2.1,0,0) fun _ t=>loS a b t.2.1 t.2.2.1 t.2.2.2.1 t.2.2.2.2.1 t.2.2.2.2.2 s.2.2.2.2
 match t.1 with
 | some r=>return .done (some r,t.2.1,t.2.2.1,t.2.2.2.1,s.2.2.2.2)
 | none=>
  PySem.rule "list.sort.gallop"
  let u:T7 ←forIn [0:T] (none,t.2.1,t.2.2.1,t.2.2.2.1,s.2.2.2.2+1,t.2.2.2.2.1,t.2.2.2.2.2) fun _ u=>
   if u.2.2.2.2.1 > 1 then loA a b u.2.1 u.2.2.1 u.2.2.2.1 (u.2.2.2.2.1 - 1) u.2.2.2.2.2.1 u.2.2.2.2.2.2 else loA a b u.2.1 u.2.2.1 u.2.2.2.1 u.2.2.2.2.1 u.2.2.2.2.2.1 u.2.2.2.2.2.2
  match u.1 with
  | some r=>return .done (some r,u.2.1,u.2.2.1,u.2.2.2.1,u.2.2.2.2.1)
  | none=>
   modify (KC (u.2.2.2.2.1+1))
   return .yield (none,u.2.1,u.2.2.1,u.2.2.2.1,u.2.2.2.2.1+1)
theorem ZwZ (a b:Array Bg):mlo' a b=(do
  PySem.rule "list.sort.merge-lo"
  let T:=a.size+b.size
  let mut o:Array Bg:=#[←elem' b 0]
  let mut i:=0
  let mut j:=1
  if j == b.size then return dN a b o i j
  if i+1 == a.size then return dN b a o j i
  let mut G:=gallopOf (←get)
  for _ in [0:T] do
   let mut p:=0
   let mut q:=0
   for _ in [0:T] do
    let some c ←lt' (←elem' b j) (←elem' a i) | return dN a b o i j
    if c then
     o:=o.push (←elem' b j); j:=j+1; q:=q+1; p:=0
     if j == b.size then return dN a b o i j
     if q ≥ G then break
    else
     o:=o.push (←elem' a i); i:=i+1; p:=p+1; q:=0
     if i+1 == a.size then return dN b a o j i
     if p ≥ G then break
   PySem.rule "list.sort.gallop"
   G:=G+1
   for _ in [0:T] do
    if G > 1 then G:=G - 1
    modify (KC G)
    let some k ←gal' false (←elem' b j) a i (a.size - i) 0 | return dN a b o i j
    p:=k
    if k > 0 then
     o:=o++a.extract i (i+k); i:=i+k
     if i+1 == a.size then return dN b a o j i
     if i == a.size then return dN a b o i j
    o:=o.push (←elem' b j); j:=j+1
    if j == b.size then return dN a b o i j
    let some k ←gal' true (←elem' a i) b j (b.size - j) 0 | return dN a b o i j
    q:=k
    if k > 0 then
     o:=o++b.extract j (j+k); j:=j+k
     if j == b.size then return dN a b o i j
    o:=o.push (←elem' a i); i:=i+1
    if i+1 == a.size then return dN b a o j i
    if p < 7 && q < 7 then break
   G:=G+1
   modify (KC G)
  unsupported "internal:list.sort.merge-bound"):=rfl
theorem ZyD (a b:Array Bg):mlo' a b=(do
  PySem.rule "list.sort.merge-lo"
  let y ←elem' b 0
  if 1 == b.size then return dN a b #[y] 0 1
  if 0+1 == a.size then return dN b a #[y] 1 0
  let st ←get
  let s:T5 ←forIn [0:a.size+b.size] (none,#[y],0,1,gallopOf st) fun _ s=>loT a b (a.size+b.size) s
  match s.1 with
  | some r=>return r
  | none=>unsupported "internal:list.sort.merge-bound"):=by
 rw[ZwZ];unfold loT loA loB loC loS
 dsimp only
 congr 1
 funext _
 congr 1
 funext y
 congr 1
 congr 1
 congr 1
 funext st
 congr 1
 congr 1
 funext _ s
 congr 1
 funext t
 obtain⟨t1,t2,t3,t4,t5,t6⟩:=t
 cases t1 with
 | some r=>rfl
 | none=>
  dsimp only
  congr 1
  funext _
  congr 1
  congr 1
  funext u
  obtain⟨u1,u2⟩:=u
  cases u1 with
  | some r=>rfl
  | none=>rfl
 funext s
 obtain⟨s1,s2⟩:=s
 cases s1 with
 | some r=>rfl
 | none=>rfl
section
variable {prog:Ay} {w:Av} {A:Bp} {E:Ab→Ae→Prop} {κ:G6} {it:Array Bg} {Ok:Ae→Prop} {N:Nat} {lt:Nat→Nat→Bool} {R:Nat→Nat→Prop} {α β:Type}
noncomputable abbrev ar (it:Array Bg) (l:List Nat):Array Bg:=(l.map (BX it)).toArray
theorem KD (l:List Nat) (x:Nat):(ar it l).push (BX it x)=ar it (l++[x]):=by simp[ar]
theorem LK (l r:List Nat):ar it l++ar it r=ar it (l++r):=by simp[ar]
theorem Ij (l:List Nat):(ar it l).size=l.length:=by simp[ar]
theorem LQ (l:List Nat) (i j:Nat):(ar it l).extract i j=ar it ((l.drop i).take (j - i)):=by
 unfold ar;rw[List.extract_toArray,List.extract_eq_take_drop,TV,TX]
theorem ZqS (l:List Nat) (i:Nat):(ar it l).extract i l.length=ar it (l.drop i):=by
 rw[LQ,Nf (by rw[G4]; exact Ax _)]
theorem CmN.refl (M:CmN prog w A κ it Ok N lt R) (i:Nat):R i i:=by
 cases h:lt i i with
 | true=>exact M.yes _ _ h
 | false=>exact M.no _ _ h
theorem LR (M:CmN prog w A κ it Ok N lt R) {xs:List Nat} {h:Nat} (hp:xs.Pairwise R) (h0:xs[0]?=some h):∀x∈xs,R h x:=by
 cases xs with
 | nil=>cases h0
 | cons y r=>
  have e:y=h:=by simpa using h0
  subst e;intro x hx
  rcases CZ.mp hx with rfl | hx
  ·exact M.refl _
  ·exact(Ybb.mp hp).1 x hx
theorem Vo (M:CmN prog w A κ it Ok N lt R) {xs:List Nat} {m z:Nat} (hp:xs.Pairwise R) (h0:xs[m]?=some z):∀x∈xs.take (m+1),R x z:=by
 intro x hx;obtain⟨i,hi,e⟩:=yh hx;rw[Fb]at hi;rw[Yw]at e;obtain⟨hm,ez⟩:=Cr.mp h0
 by_cases c:i=m
 ·subst c
  rw[←e,←ez];exact M.refl _
 ·have:=Yx.mp hp i m (by omega) hm (by omega)
  rw[e,ez]at this;exact this
structure MI (R:Nat→Nat→Prop) (xa xb lo:List Nat) (i j:Nat):Prop where
 pa:(lo++xa.drop i).Pairwise R
 pb:(lo++xb.drop j).Pairwise R
 pm:(lo++(xa.drop i++xb.drop j)).Perm (xa++xb)
theorem MI.swap {xa xb lo:List Nat} {i j:Nat} (h:MI R xa xb lo i j):MI R xb xa lo j i:=
 ⟨h.pb,h.pa,((Rw lo Nj).trans h.pm).trans Nj⟩
theorem MI.bulk {xa xb lo:List Nat} {i j k:Nat} (h:MI R xa xb lo i j) (c:∀x∈(xa.drop i).take k,∀y∈xb.drop j,R x y):MI R xa xb (lo++(xa.drop i).take k) (i+k) j:=by
 have e:xa.drop i=(xa.drop i).take k++xa.drop (i+k):=by rw[←Ybc,Ht]
 obtain⟨h1,h2,h3⟩:=h;rw[e]at h1 h3;refine⟨by rw[Du]; exact h1,?_,?_⟩
 ·rw[Du,FW]
  rw[FW]at h2 h1;obtain⟨a1,a2,a3⟩:=h1;obtain⟨b1,b2,b3⟩:=h2;rw[FW]at a2;refine⟨a1,FW.mpr ⟨a2.1,b2,c⟩,fun x hx y hy=>?_⟩
  rcases Hj.mp hy with hy | hy
  ·exact a3 x hx y (XR _ hy)
  ·exact b3 x hx y hy
 ·rw[Du,←Du (List.take k _)]
  exact h3
theorem KH {xs:List Nat} {i x:Nat} (h:xs[i]?=some x):(xs.drop i)[0]?=some x∧(xs.drop i).take 1=[x]:=by
 have h0:(xs.drop i)[0]?=some x:=by rw[Yy]; exact h
 refine⟨h0,?_⟩
 cases e:xs.drop i with
 | nil=>rw[e]at h0; cases h0
 | cons y r=>
  rw[e]at h0
  have:y=x:=by simpa using h0
  rw[this];rfl
theorem MI.one (M:CmN prog w A κ it Ok N lt R) {xa xb lo:List Nat} {i j x:Nat} (h:MI R xa xb lo i j) (hx:xa[i]?=some x) (c:∀y∈xb.drop j,R x y):MI R xa xb (lo++[x]) (i+1) j:=by
 have:=h.bulk (k:=1) (fun z hz=>by rw[(KH hx).2]at hz; rw[Dr.mp hz]; exact c);rw[(KH hx).2]at this;exact this
theorem MI.headB (M:CmN prog w A κ it Ok N lt R) {xa xb lo:List Nat} {i j x y:Nat} (h:MI R xa xb lo i j) (hy:xb[j]?=some y) (c:R x y):∀z∈xb.drop j,R x z:=fun z hz=>
 M.tr _ _ _ c (LR M (FW.mp h.pb).2.1 (KH hy).1 z hz)
theorem MI.gal (M:CmN prog w A κ it Ok N lt R) {l:Bool} {xa xb lo:List Nat} {i j y k:Nat} (h:MI R xa xb lo i j) (hy:xb[j]?=some y) (G:Gal lt l y xa i (xa.length - i) k k):MI R xa xb (lo++(xa.drop i).take k) (i+k) j∧∀z∈xa.drop (i+k),R y z:=by
 have sa:=(FW.mp h.pa).2.1;refine⟨h.bulk fun x hx=>?_,?_⟩
 ·rcases G.lo with e | ⟨z,hz,hf⟩
  ·rw[e]at hx
   simp at hx
  ·have hk:(xa.drop i)[k - 1]?=some z:=by rw[Yy]; exact hz
   cases k with
   | zero=>simp at hx
   | succ k=>
    have:=Vo M sa hk x (by simpa using hx);exact h.headB M hy (M.tr _ _ _ this (ak M hf))
 ·rcases G.hi with e | ⟨z,hz,hf⟩
  ·intro z hz
   rw[Lf (by have:=G.vn; omega)]at hz
   cases hz
  ·intro q hq
   have s2:(xa.drop (i+k)).Pairwise R:=by rw[←Ybc]; exact sa.sublist (Ua _ _)
   exact M.tr _ _ _ (ao M hf) (LR M s2 (KH hz).1 q hq)
def Mrg (R:Nat→Nat→Prop) (it:Array Bg) (xa xb:List Nat) (o:Array Bg):Prop:=∃lo,o=ar it lo∧lo.Pairwise R∧lo.Perm (xa++xb)
theorem MI.doneA {xa xb lo:List Nat} {i j:Nat} (h:MI R xa xb lo i j) (e:xb.length≤j):Mrg R it xa xb (ar it lo++ar it (xa.drop i)++ar it (xb.drop j)):=by
 have e0:xb.drop j=[]:=Lf e;have pm:=h.pm;rw[e0,Ed]at pm;refine⟨lo++xa.drop i,by rw[e0,LK]; simp[ar],h.pa,pm⟩
theorem MI.doneB {xa xb lo:List Nat} {i j:Nat} (h:MI R xa xb lo i j) (e:xa.length≤i):Mrg R it xa xb (ar it lo++ar it (xa.drop i)++ar it (xb.drop j)):=by
 have e0:xa.drop i=[]:=Lf e;have pm:=h.pm;rw[e0,Lg]at pm;refine⟨lo++xb.drop j,by rw[e0]; simp[ar],h.pb,pm⟩
theorem MI.last {xa xb lo:List Nat} {i j z:Nat} (h:MI R xa xb lo i j) (hz:xa[i]?=some z) (e:i+1=xa.length) (c:∀y∈xb,R y z):Mrg R it xa xb (ar it lo++ar it (xb.drop j)++ar it (xa.drop i)):=by
 have e0:xa.drop i=[z]:=by
  have:=(KH hz).2;rw[Nf (by rw[G4]; omega)]at this;exact this
 have pm:=h.pm;have pa:=h.pa;rw[e0]at pm pa;refine⟨lo++xb.drop j++[z],by rw[e0,LK,LK],?_,?_⟩
 ·rw[FW]
  refine⟨h.pb,yj _ _,fun x hx y hy=>?_⟩;rw[Dr.mp hy]
  rcases Hj.mp hx with hx | hx
  ·exact(FW.mp pa).2.2 x hx z (by simp)
  ·exact c x (Ub hx)
 ·rw[Du]
  exact(Rw lo Nj).trans pm
end
end EM
namespace EM
open PySem PySem.W PyProof.Rows
section
variable {prog:Ay} {w:Av} {A:Bp} {E:Ab→Ae→Prop} {κ:G6} {it:Array Bg} {Ok:Ae→Prop} {N:Nat} {lt:Nat→Nat→Bool} {R:Nat→Nat→Prop} {α β:Type}
theorem Sq.elemB {l:List Nat} {i x:Nat} {f:Bg→StateT Am Sem β} {st:Am} {Q:β→Am→Prop} (hx:l[i]?=some x) (h:Sq prog w A E Ok (f (BX it x)) st Q):Sq prog w A E Ok (elem' (ar it l) i >>= f) st Q:=
 Sq.bind (P1:=fun a st'=>a=BX it x∧st'=st) (Sq.elem hx ⟨rfl,rfl⟩) (by rintro _ _ ⟨rfl,rfl⟩; exact h)
theorem Sq.askB {i j:Nat} {li:List Nat} {pd:Array (Nat×Nat×Nat)} {g:Nat} {f:Option Bool→StateT Am Sem β} {Q:β→Am→Prop} (M:CmN prog w A κ it Ok N lt R) (hi:i < N) (hj:j < N) (h:Sq prog w A E Ok (f (some (lt i j))) (stt κ it li pd g) Q):Sq prog w A E Ok (lt' (BX it i) (BX it j) >>= f) (stt κ it li pd g) Q:=
 Sq.bind (P1:=fun a st'=>a=some (lt i j)∧st'=stt κ it li pd g) (Sq.ask M hi hj ⟨rfl,rfl⟩) (by rintro _ _ ⟨rfl,rfl⟩; exact h)
theorem Sq.galB {l:Bool} {k b n hn:Nat} {xs:List Nat} {li:List Nat} {pd:Array (Nat×Nat×Nat)} {g:Nat} {f:Option Nat→StateT Am Sem β} {Q:β→Am→Prop} (M:CmN prog w A κ it Ok N lt R) (hk:k < N) (ha:∀x∈xs,x < N) (hz:b+n≤xs.length) (hh:hn < n) (h:∀v,Gal lt l k xs b n v v→Sq prog w A E Ok (f (some v)) (stt κ it li pd g) Q):Sq prog w A E Ok (gal' l (BX it k) (ar it xs) b n hn >>= f) (stt κ it li pd g) Q:=
 Sq.bind (P1:=fun a st'=>∃v,a=some v∧st'=stt κ it li pd g∧Gal lt l k xs b n v v) (Sq.gal M hk ha hz hh fun v G=>⟨v,rfl,rfl,G⟩) (by rintro _ _ ⟨v,rfl,rfl,G⟩; exact h v G)
theorem Sq.ruleB {x:String} {f:Unit→StateT Am Sem β} {st:Am} {Q:β→Am→Prop} (h:Sq prog w A E Ok (f ()) st Q):Sq prog w A E Ok ((liftM (PySem.rule x):StateT Am Sem Unit) >>= f) st Q:=
 Sq.bind (P1:=fun a st'=>st'=st) (Sq.rule rfl) (by rintro _ _ rfl; exact h)
theorem Sq.getB {f:Am→StateT Am Sem β} {st:Am} {Q:β→Am→Prop} (h:Sq prog w A E Ok (f st) st Q):Sq prog w A E Ok ((ye:StateT Am Sem Am) >>= f) st Q:=
 Sq.bind (P1:=fun a st'=>a=st∧st'=st) (Sq.get ⟨rfl,rfl⟩) (by rintro _ _ ⟨rfl,rfl⟩; exact h)
theorem Sq.modB {u:Am→Am} {f:PUnit→StateT Am Sem β} {st:Am} {Q:β→Am→Prop} (h:Sq prog w A E Ok (f ⟨⟩) (u st) Q):Sq prog w A E Ok ((_root_.modify u:StateT Am Sem PUnit) >>= f) st Q:=
 Sq.bind (P1:=fun a st'=>st'=u st) (Sq.modify rfl) (by rintro _ _ rfl; exact h)
structure Go (R:Nat→Nat→Prop) (it:Array Bg) (xa xb:List Nat) (m:Nat) (o:Array Bg) (i j:Nat):Prop where
 ex:∃lo,o=ar it lo∧MI R xa xb lo i j
 ia:i+1 < xa.length
 jb:j < xb.length
 mm:m≤i+j
def Got (R:Nat→Nat→Prop) (it:Array Bg) (xa xb:List Nat) (m:Nat) (r:Option (Array Bg)) (o:Array Bg) (i j:Nat):Prop:=(∃r',r=some r'∧Mrg R it xa xb r')∨(r=none∧Go R it xa xb m o i j)
theorem N7 (xa xb lo:List Nat) (i j:Nat):dN (ar it xa) (ar it xb) (ar it lo) i j=ar it lo++ar it (xa.drop i)++ar it (xb.drop j):=by
 unfold dN;rw[Ij,Ij,ZqS,ZqS]
structure Two (R:Nat→Nat→Prop) (N:Nat) (xa xb:List Nat):Prop where
 ha:∀x∈xa,x < N
 hb:∀x∈xb,x < N
 sa:xa.Pairwise R
 sb:xb.Pairwise R
 hd:∃x0 y0,xa[0]?=some x0∧xb[0]?=some y0∧R y0 x0
 la:∃z,xa[xa.length - 1]?=some z∧∀y∈xb,R y z
theorem Two.last {xa xb lo:List Nat} {i j:Nat} (D:Two R N xa xb) (h:MI R xa xb lo i j) (e:i+1=xa.length):Mrg R it xa xb (dN (ar it xb) (ar it xa) (ar it lo) j i):=by
 obtain⟨z,hz,c⟩:=D.la;rw[N7];exact h.last (by rw[←hz]; congr 1; omega) e c
theorem Ik {xs:List Nat} {i:Nat} (h:i < xs.length):∃x,xs[i]?=some x∧x∈xs:=⟨_,CJ h,Rx h⟩
theorem Zx2 (xs:List Nat) (i k:Nat):(ar it xs).extract i (i+k)=ar it ((xs.drop i).take k):=by rw[LQ,Uc]
theorem Sq.loC (M:CmN prog w A κ it Ok N lt R) {xa xb lo:List Nat} {i j G p q m:Nat} (D:Two R N xa xb) (I:MI R xa xb lo i j) (hi:i+1 < xa.length) (hj:j < xb.length) (hm:m≤i+j+1) (hc:∃x,xa[i]?=some x∧∀y∈xb.drop j,R x y) {st:Am} {Q:ForInStep T7→Am→Prop} (h:∀r o i' j' G' p' q',Got R it xa xb m r o i' j'→Q (.done (r,o,i',j',G',p',q')) st) (h2:∀o i' j' G' p' q',Go R it xa xb m o i' j'→Q (.yield (none,o,i',j',G',p',q')) st):Sq prog w A E Ok (loC (ar it xa) (ar it xb) (ar it lo) i j G p q) st Q:=by
 obtain⟨x,hx,hxy⟩:=hc;have I1:=I.one M hx hxy;unfold EM.loC;refine Sq.elemB hx ?_;rw[Ij,KD]
 by_cases e:i+1+1=xa.length
 ·rw[if_pos (by rw[e]; exact beq_self_eq_true _)]
  exact Sq.pure (h _ _ _ _ _ _ _ (.inl ⟨_,rfl,D.last I1 e⟩))
 rw[if_neg (by simpa using e)];have g:Go R it xa xb m (ar it (lo++[x])) (i+1) j:=⟨⟨_,rfl,I1⟩,by omega,hj,by omega⟩
 split
 ·exact Sq.pure (h _ _ _ _ _ _ _ (.inr ⟨rfl,g⟩))
 ·exact Sq.pure (h2 _ _ _ _ _ _ g)
theorem Sq.loB (M:CmN prog w A κ it Ok N lt R) {xa xb lo:List Nat} {i j G p q m:Nat} (D:Two R N xa xb) (I:MI R xa xb lo i j) (hi:i+1 < xa.length) (hj:j < xb.length) (hm:m≤i+j+1) (hc:∃y,xb[j]?=some y∧∀x∈xa.drop i,R y x) {li:List Nat} {pd:Array (Nat×Nat×Nat)} {g:Nat} {Q:ForInStep T7→Am→Prop} (h:∀r o i' j' G' p' q',Got R it xa xb m r o i' j'→Q (.done (r,o,i',j',G',p',q')) (stt κ it li pd g)) (h2:∀o i' j' G' p' q',Go R it xa xb m o i' j'→Q (.yield (none,o,i',j',G',p',q')) (stt κ it li pd g)):Sq prog w A E Ok (loB (ar it xa) (ar it xb) (ar it lo) i j G p q) (stt κ it li pd g) Q:=by
 obtain⟨y,hy,hyx⟩:=hc;have I1:=(I.swap.one M hy hyx).swap;unfold EM.loB;refine Sq.elemB hy ?_;rw[Ij,KD]
 by_cases e:j+1=xb.length
 ·rw[if_pos (by rw[e]; exact beq_self_eq_true _)]
  exact Sq.pure (h _ _ _ _ _ _ _ (.inl ⟨_,rfl,by rw[N7]; exact I1.doneA (by omega)⟩))
 rw[if_neg (by simpa using e)];obtain⟨x,hx,hxm⟩:=Ik (xs:=xa) (i:=i) (by omega);refine Sq.elemB hx ?_;refine Sq.galB M (D.ha x hxm) D.hb (by omega) (by omega) fun k K=>?_
 dsimp only
 obtain⟨I2,hk2⟩:=I1.swap.gal M hx K;have I2:=I2.swap
 by_cases hk:k > 0
 ·rw[if_pos hk,Zx2,LK]
  by_cases e3:j+1+k=xb.length
  ·rw[if_pos (by rw[e3]; exact beq_self_eq_true _)]
   exact Sq.pure (h _ _ _ _ _ _ _ (.inl ⟨_,rfl,by rw[N7]; exact I2.doneA (by omega)⟩))
  rw[if_neg (by simpa using e3)];have:=K.vn;exact Sq.loC M D I2 hi (by omega) (by omega) ⟨x,hx,hk2⟩ h h2
 ·rw[if_neg hk]
  have:k=0:=by omega
  subst this;rw[IV,Ed]at I2;exact Sq.loC M D I2 hi (by omega) (by omega) ⟨x,hx,hk2⟩ h h2
theorem Sq.loA (M:CmN prog w A κ it Ok N lt R) {xa xb lo:List Nat} {i j G p q m:Nat} (D:Two R N xa xb) (I:MI R xa xb lo i j) (hi:i+1 < xa.length) (hj:j < xb.length) (hm:m≤i+j+1) {li:List Nat} {pd:Array (Nat×Nat×Nat)} {g:Nat} {Q:ForInStep T7→Am→Prop} (h:∀r o i' j' G' p' q',Got R it xa xb m r o i' j'→Q (.done (r,o,i',j',G',p',q')) (stt κ it li pd G)) (h2:∀o i' j' G' p' q',Go R it xa xb m o i' j'→Q (.yield (none,o,i',j',G',p',q')) (stt κ it li pd G)):Sq prog w A E Ok (loA (ar it xa) (ar it xb) (ar it lo) i j G p q) (stt κ it li pd g) Q:=by
 unfold EM.loA;refine Sq.modB ?_;show Sq prog w A E Ok _ (stt κ it li pd G) Q;obtain⟨y,hy,hym⟩:=Ik (xs:=xb) (i:=j) hj;refine Sq.elemB hy ?_;rw[Ij];refine Sq.galB M (D.hb y hym) D.ha (by omega) (by omega) fun k K=>?_
 dsimp only
 obtain⟨I2,hk2⟩:=I.gal M hy K
 by_cases hk:k > 0
 ·rw[if_pos hk,Zx2,LK]
  by_cases e3:i+k+1=xa.length
  ·rw[if_pos (by rw[e3]; exact beq_self_eq_true _)]
   exact Sq.pure (h _ _ _ _ _ _ _ (.inl ⟨_,rfl,D.last I2 e3⟩))
  rw[if_neg (by simpa using e3)]
  by_cases e4:i+k=xa.length
  ·rw[if_pos (by rw[e4]; exact beq_self_eq_true _)]
   exact Sq.pure (h _ _ _ _ _ _ _ (.inl ⟨_,rfl,by rw[N7]; exact I2.doneB (by omega)⟩))
  rw[if_neg (by simpa using e4)];have:=K.vn;exact Sq.loB M D I2 (by omega) hj (by omega) ⟨y,hy,hk2⟩ h h2
 ·rw[if_neg hk]
  have:k=0:=by omega
  subst this;rw[IV,Ed]at I2;exact Sq.loB M D I2 hi hj (by omega) ⟨y,hy,hk2⟩ h h2
theorem Sq.loS (M:CmN prog w A κ it Ok N lt R) {xa xb:List Nat} {o:Array Bg} {i j G p q m:Nat} (D:Two R N xa xb) (I:Go R it xa xb m o i j) {li:List Nat} {pd:Array (Nat×Nat×Nat)} {g:Nat} {Q:ForInStep T6→Am→Prop} (h:∀r o i' j' p' q',Got R it xa xb (m+1) r o i' j'→Q (.done (r,o,i',j',p',q')) (stt κ it li pd g)) (h2:∀o i' j' p' q',Go R it xa xb (m+1) o i' j'→Q (.yield (none,o,i',j',p',q')) (stt κ it li pd g)):Sq prog w A E Ok (loS (ar it xa) (ar it xb) o i j p q G) (stt κ it li pd g) Q:=by
 obtain⟨⟨lo,rfl,I⟩,hi,hj,hm⟩:=I;unfold EM.loS;obtain⟨y,hy,hym⟩:=Ik (xs:=xb) (i:=j) hj;obtain⟨x,hx,hxm⟩:=Ik (xs:=xa) (i:=i) (by omega);refine Sq.elemB hy (Sq.elemB hx (Sq.askB M (D.hb y hym) (D.ha x hxm) ?_))
 dsimp only
 cases hl:lt y x with
 | true=>
  rw[if_pos rfl];refine Sq.elemB hy ?_;have I1:=(I.swap.one M hy (I.swap.headB M hx (M.yes _ _ hl))).swap;rw[Ij,KD]
  by_cases e:j+1=xb.length
  ·rw[if_pos (by rw[e]; exact beq_self_eq_true _)]
   exact Sq.pure (h _ _ _ _ _ _ (.inl ⟨_,rfl,by rw[N7]; exact I1.doneA (by omega)⟩))
  rw[if_neg (by simpa using e)];have g:Go R it xa xb (m+1) (ar it (lo++[y])) i (j+1):=⟨⟨_,rfl,I1⟩,by omega,by omega,by omega⟩
  split
  ·exact Sq.pure (h _ _ _ _ _ _ (.inr ⟨rfl,g⟩))
  ·exact Sq.pure (h2 _ _ _ _ _ g)
 | false=>
  rw[if_neg Cg];refine Sq.elemB hx ?_;have I1:=I.one M hx (I.headB M hy (M.no _ _ hl));rw[Ij,KD]
  by_cases e:i+1+1=xa.length
  ·rw[if_pos (by rw[e]; exact beq_self_eq_true _)]
   exact Sq.pure (h _ _ _ _ _ _ (.inl ⟨_,rfl,D.last I1 e⟩))
  rw[if_neg (by simpa using e)];have g:Go R it xa xb (m+1) (ar it (lo++[x])) (i+1) j:=⟨⟨_,rfl,I1⟩,by omega,by omega,by omega⟩
  split
  ·exact Sq.pure (h _ _ _ _ _ _ (.inr ⟨rfl,g⟩))
  ·exact Sq.pure (h2 _ _ _ _ _ g)
theorem Go.le {xa xb:List Nat} {m m':Nat} {o:Array Bg} {i j:Nat} (h:Go R it xa xb m o i j) (e:m'≤m):Go R it xa xb m' o i j:=⟨h.ex,h.ia,h.jb,Eb e h.mm⟩
theorem Sq.loT (M:CmN prog w A κ it Ok N lt R) {xa xb:List Nat} {T m:Nat} (D:Two R N xa xb) (hT:T=xa.length+xb.length) {s:T5} (I:Go R it xa xb m s.2.1 s.2.2.1 s.2.2.2.1) {li:List Nat} {pd:Array (Nat×Nat×Nat)} {g:Nat} {Q:ForInStep T5→Am→Prop} (h:∀r s' g',Mrg R it xa xb r→Q (.done (some r,s')) (stt κ it li pd g')) (h2:∀o i j G g',Go R it xa xb (m+1) o i j→Q (.yield (none,o,i,j,G)) (stt κ it li pd g')):Sq prog w A E Ok (loT (ar it xa) (ar it xb) T s) (stt κ it li pd g) Q:=by
 obtain⟨s0,o,i,j,G⟩:=s;have I:Go R it xa xb m o i j:=I;unfold EM.loT;refine Sq.bind (P1:=fun t st'=>st'=stt κ it li pd g∧Got R it xa xb (m+1) t.1 t.2.1 t.2.2.1 t.2.2.2.1) ?_ ?_
 ·refine Sq.range (fun n t st'=>st'=stt κ it li pd g∧t.1=none∧Go R it xa xb (m+n) t.2.1 t.2.2.1 t.2.2.2.1) ⟨rfl,rfl,I⟩ ?_ ?_
  ·rintro n _ ⟨t1,o,i,j,p,q⟩ st' hn ⟨rfl,rfl,I⟩
   exact Sq.loS M D I (fun r o i' j' p' q' h'=>⟨rfl,h'.imp id fun h=>⟨h.1,h.2.le (by omega)⟩⟩) fun o i' j' p' q' h'=>⟨rfl,rfl,h'⟩
  ·rintro⟨t1,o,i,j,p,q⟩ st' ⟨rfl,rfl,I⟩
   have a1:i+1 < xa.length:=I.ia;have a2:j < xb.length:=I.jb;have a3:m+(T - 0)≤i+j:=I.mm;omega
 rintro⟨t1,o,i,j,p,q⟩ st' ⟨rfl,h1⟩
 rcases h1 with⟨r,hr,h1⟩ | ⟨hr,h1⟩
 ·obtain rfl:t1=some r:=hr
  exact Sq.pure (h r _ _ h1)
 obtain rfl:t1=none:=hr
 dsimp only
 refine Sq.ruleB ?_;refine Sq.bind (P1:=fun u st'=>∃g',st'=stt κ it li pd g'∧Got R it xa xb (m+1) u.1 u.2.1 u.2.2.1 u.2.2.2.1) ?_ ?_
 ·refine Sq.range (fun n u st'=>∃g',st'=stt κ it li pd g'∧u.1=none∧Go R it xa xb (m+1+n) u.2.1 u.2.2.1 u.2.2.2.1) ⟨g,rfl,rfl,h1⟩ ?_ ?_
  ·rintro n _ ⟨t1,o,i,j,G,p,q⟩ st' hn ⟨g',rfl,rfl,⟨⟨lo,e,I⟩,hi,hj,hm⟩⟩
   obtain rfl:o=ar it lo:=e;have a3:m+1+n≤i+j:=hm
   dsimp only
   split
   ·exact Sq.loA (m:=m+1+(n+1)) M D I hi hj (by omega) (fun r o i' j' G' p' q' h'=>⟨_,rfl,h'.imp id fun h=>⟨h.1,h.2.le (by omega)⟩⟩) fun o i' j' G' p' q' h'=>⟨_,rfl,rfl,h'⟩
   ·exact Sq.loA (m:=m+1+(n+1)) M D I hi hj (by omega) (fun r o i' j' G' p' q' h'=>⟨_,rfl,h'.imp id fun h=>⟨h.1,h.2.le (by omega)⟩⟩) fun o i' j' G' p' q' h'=>⟨_,rfl,rfl,h'⟩
  ·rintro⟨t1,o,i,j,G,p,q⟩ st' ⟨g',rfl,rfl,I⟩
   exact⟨g',rfl,.inr ⟨rfl,I.le (by omega)⟩⟩
 rintro⟨t1,o,i,j,G,p,q⟩ st' ⟨g',rfl,h1⟩
 rcases h1 with⟨r,hr,h1⟩ | ⟨hr,h1⟩
 ·obtain rfl:t1=some r:=hr
  exact Sq.pure (h r _ _ h1)
 obtain rfl:t1=none:=hr
 dsimp only
 refine Sq.modB ?_;exact Sq.pure (h2 _ _ _ _ _ h1)
theorem Sq.mlo (M:CmN prog w A κ it Ok N lt R) {xa xb:List Nat} (D:Two R N xa xb) {li:List Nat} {pd:Array (Nat×Nat×Nat)} {g:Nat} {Q:Array Bg→Am→Prop} (h:∀o g',Mrg R it xa xb o→Q o (stt κ it li pd g')):Sq prog w A E Ok (mlo' (ar it xa) (ar it xb)) (stt κ it li pd g) Q:=by
 rw[ZyD,Ij,Ij];obtain⟨x0,y0,hx0,hy0,hxy⟩:=D.hd;have la:0 < xa.length:=(Cr.mp hx0).1;have lb:0 < xb.length:=(Cr.mp hy0).1;refine Sq.ruleB ?_;refine Sq.elemB hy0 ?_;have e0:(#[BX it y0]:Array Bg)=ar it [y0]:=rfl;rw[e0];have I00:MI R xa xb [] 0 0:=⟨by simpa using D.sa,by simpa using D.sb,by simp⟩;have I0:MI R xa xb [y0] 0 1:=(MI.one M I00.swap hy0 (fun x hx=>M.tr _ _ _ hxy (LR M D.sa hx0 x (by simpa using hx)))).swap
 by_cases e1:1=xb.length
 ·rw[if_pos (by rw[←e1]; rfl)]
  exact Sq.pure (h _ _ (by rw[N7]; exact I0.doneA (by omega)))
 rw[if_neg (by simpa using e1)]
 by_cases e2:0+1=xa.length
 ·rw[if_pos (by rw[←e2]; rfl)]
  exact Sq.pure (h _ _ (D.last I0 e2))
 rw[if_neg (by simpa using e2)];refine Sq.getB ?_;refine Sq.bind (P1:=fun s st'=>∃g' r,st'=stt κ it li pd g'∧s.1=some r∧Mrg R it xa xb r) ?_ ?_
 ·refine Sq.range (fun n s st'=>∃g',st'=stt κ it li pd g'∧s.1=none∧Go R it xa xb n s.2.1 s.2.2.1 s.2.2.2.1) ⟨g,rfl,rfl,⟨_,rfl,I0⟩,by show 0+1 < _; omega,by show 1 < _; omega,Cy _⟩ ?_ ?_
  ·rintro n _ s st' hn ⟨g',rfl,hs,I⟩
   exact Sq.loT M D rfl I (fun r s' g' h'=>⟨g',r,rfl,rfl,h'⟩) fun o i j G g' h'=>⟨g',rfl,rfl,h'⟩
  ·rintro s st' ⟨g',rfl,hs,I⟩
   have a1:=I.ia;have a2:=I.jb;have a3:=I.mm;omega
 rintro⟨s1,s2⟩ st' ⟨g',r,rfl,rfl,h'⟩;exact Sq.pure (h r g' h')
end
end EM
namespace EM
open PySem PySem.W PyProof.Rows
noncomputable abbrev U7:=Option (Array Bg)×Nat×Nat×Array Bg×Nat×Nat×Nat
noncomputable def uN (a b o:Array Bg) (i j:Nat):Array Bg:=a.extract 0 i++b.extract 0 j++o.reverse
noncomputable def hiC (a b o:Array Bg) (i j G p q:Nat):StateT Am Sem (ForInStep U7):=do
 let x ←elem' a (i - 1)
 if i - 1 == 0 then return .done (some (uN a b (o.push x) (i - 1) j),i - 1,j,o.push x,G,p,q)
 if p < 7 && q < 7 then return .done (none,i - 1,j,o.push x,G,p,q)
 return .yield (none,i - 1,j,o.push x,G,p,q)
noncomputable def hiB (a b o:Array Bg) (i j G p q:Nat):StateT Am Sem (ForInStep U7):=do
 let y ←elem' b (j - 1)
 if j - 1 == 1 then return .done (some (uN b a (o.push y) (j - 1) i),i,j - 1,o.push y,G,p,q)
 let some k ←gal' true (←elem' a (i - 1)) b 0 (j - 1) (j - 1 - 1) | return .done (some (uN a b (o.push y) i (j - 1)),i,j - 1,o.push y,G,p,q)
 if j - 1 - k > 0 then
  if k == 1 then return .done (some (uN b a (o.push y++(b.extract k (j - 1)).reverse) k i),i,k,o.push y++(b.extract k (j - 1)).reverse,G,p,j - 1 - k)
  if k == 0 then return .done (some (uN a b (o.push y++(b.extract k (j - 1)).reverse) i k),i,k,o.push y++(b.extract k (j - 1)).reverse,G,p,j - 1 - k)
  hiC a b (o.push y++(b.extract k (j - 1)).reverse) i k G p (j - 1 - k)
 else hiC a b (o.push y) i (j - 1) G p (j - 1 - k)
noncomputable def hiA (a b o:Array Bg) (i j G p q:Nat):StateT Am Sem (ForInStep U7):=do
 modify (KC G)
 let some k ←gal' false (←elem' b (j - 1)) a 0 i (i - 1) | return .done (some (uN a b o i j),i,j,o,G,p,q)
 if i - k > 0 then
  if k == 0 then return .done (some (uN a b (o++(a.extract k i).reverse) k j),k,j,o++(a.extract k i).reverse,G,i - k,q)
  hiB a b (o++(a.extract k i).reverse) k j G (i - k) q
 else hiB a b o i j G (i - k) q
noncomputable abbrev U6:=Option (Array Bg)×Nat×Nat×Array Bg×Nat×Nat
noncomputable def hiS (a b o:Array Bg) (i j p q G:Nat):StateT Am Sem (ForInStep U6):=do
 let some c ←lt' (←elem' b (j - 1)) (←elem' a (i - 1)) | return .done (some (uN a b o i j),i,j,o,p,q)
 if c then
  let x ←elem' a (i - 1)
  if i - 1 == 0 then return .done (some (uN a b (o.push x) (i - 1) j),i - 1,j,o.push x,p+1,0)
  if p+1 ≥ G then return .done (none,i - 1,j,o.push x,p+1,0)
  return .yield (none,i - 1,j,o.push x,p+1,0)
 else
  let y ←elem' b (j - 1)
  if j - 1 == 1 then return .done (some (uN b a (o.push y) (j - 1) i),i,j - 1,o.push y,0,q+1)
  if q+1 ≥ G then return .done (none,i,j - 1,o.push y,0,q+1)
  return .yield (none,i,j - 1,o.push y,0,q+1)
noncomputable abbrev U5:=Option (Array Bg)×Nat×Nat×Array Bg×Nat
noncomputable def hiT (a b:Array Bg) (T:Nat) (s:U5):StateT Am Sem (ForInStep U5):=do
 let t:U6 ←forIn [0:T] (none,s.2.1,s.2.2.1,s.2.2.2.1,0,0) fun _ t=>hiS a b t.2.2.2.1 t.2.1 t.2.2.1 t.2.2.2.2.1 t.2.2.2.2.2 s.2.2.2.2
 match t.1 with
 | some r=>return .done (some r,t.2.1,t.2.2.1,t.2.2.2.1,s.2.2.2.2)
 | none=>
  PySem.rule "list.sort.gallop"
  let u:U7 ←forIn [0:T] (none,t.2.1,t.2.2.1,t.2.2.2.1,s.2.2.2.2+1,t.2.2.2.2.1,t.2.2.2.2.2) fun _ u=>
   if u.2.2.2.2.1 > 1 then hiA a b u.2.2.2.1 u.2.1 u.2.2.1 (u.2.2.2.2.1 - 1) u.2.2.2.2.2.1 u.2.2.2.2.2.2 else hiA a b u.2.2.2.1 u.2.1 u.2.2.1 u.2.2.2.2.1 u.2.2.2.2.2.1 u.2.2.2.2.2.2
  match u.1 with
  | some r=>return .done (some r,u.2.1,u.2.2.1,u.2.2.2.1,u.2.2.2.2.1)
  | none=>
   modify (KC (u.2.2.2.2.1+1))
   return .yield (none,u.2.1,u.2.2.1,u.2.2.2.1,u.2.2.2.2.1+1)
theorem ZwY (a b:Array Bg):mhi' a b=(do
  PySem.rule "list.sort.merge-hi"
  let T:=a.size+b.size
  let mut i:=a.size - 1
  let mut j:=b.size
  let mut o:Array Bg:=#[←elem' a i]
  if i == 0 then return uN a b o i j
  if j == 1 then return uN b a o j i
  let mut G:=gallopOf (←get)
  for _ in [0:T] do
   let mut p:=0
   let mut q:=0
   for _ in [0:T] do
    let some c ←lt' (←elem' b (j - 1)) (←elem' a (i - 1)) | return uN a b o i j
    if c then
     i:=i - 1; o:=o.push (←elem' a i); p:=p+1; q:=0
     if i == 0 then return uN a b o i j
     if p ≥ G then break
    else
     j:=j - 1; o:=o.push (←elem' b j); q:=q+1; p:=0
     if j == 1 then return uN b a o j i
     if q ≥ G then break
   PySem.rule "list.sort.gallop"
   G:=G+1
   for _ in [0:T] do
    if G > 1 then G:=G - 1
    modify (KC G)
    let some t ←gal' false (←elem' b (j - 1)) a 0 i (i - 1) | return uN a b o i j
    let k:=i - t
    p:=k
    if k > 0 then
     o:=o++(a.extract t i).reverse; i:=t
     if i == 0 then return uN a b o i j
    j:=j - 1; o:=o.push (←elem' b j)
    if j == 1 then return uN b a o j i
    let some t ←gal' true (←elem' a (i - 1)) b 0 j (j - 1) | return uN a b o i j
    let k:=j - t
    q:=k
    if k > 0 then
     o:=o++(b.extract t j).reverse; j:=t
     if j == 1 then return uN b a o j i
     if j == 0 then return uN a b o i j
    i:=i - 1; o:=o.push (←elem' a i)
    if i == 0 then return uN a b o i j
    if p < 7 && q < 7 then break
   G:=G+1
   modify (KC G)
  unsupported "internal:list.sort.merge-bound"):=rfl
theorem ZyC (a b:Array Bg):mhi' a b=(do
  PySem.rule "list.sort.merge-hi"
  let y ←elem' a (a.size - 1)
  if a.size - 1 == 0 then return uN a b #[y] (a.size - 1) b.size
  if b.size == 1 then return uN b a #[y] b.size (a.size - 1)
  let st ←get
  let s:U5 ←forIn [0:a.size+b.size] (none,a.size - 1,b.size,#[y],gallopOf st) fun _ s=>hiT a b (a.size+b.size) s
  match s.1 with
  | some r=>return r
  | none=>unsupported "internal:list.sort.merge-bound"):=by
 rw[ZwY];unfold hiT hiA hiB hiC hiS
 dsimp only
 congr 1
 funext _
 congr 1
 funext y
 congr 1
 congr 1
 congr 1
 funext st
 congr 1
 congr 1
 funext _ s
 congr 1
 funext t
 obtain⟨t1,t2,t3,t4,t5,t6⟩:=t
 cases t1 with
 | some r=>rfl
 | none=>
  dsimp only
  congr 1
  funext _
  congr 1
  congr 1
  funext u
  obtain⟨u1,u2⟩:=u
  cases u1 with
  | some r=>rfl
  | none=>rfl
 funext s
 obtain⟨s1,s2⟩:=s
 cases s1 with
 | some r=>rfl
 | none=>rfl
end EM
namespace EM
open PySem PySem.W PyProof.Rows
section
variable {prog:Ay} {w:Av} {A:Bp} {E:Ab→Ae→Prop} {κ:G6} {it:Array Bg} {Ok:Ae→Prop} {N:Nat} {lt:Nat→Nat→Bool} {R:Nat→Nat→Prop} {α β:Type}
structure HI (R:Nat→Nat→Prop) (xa xb lo:List Nat) (i j:Nat):Prop where
 pa:(xa.take i++lo.reverse).Pairwise R
 pb:(xb.take j++lo.reverse).Pairwise R
 pm:(xa.take i++(xb.take j++lo.reverse)).Perm (xa++xb)
theorem HI.swap {xa xb lo:List Nat} {i j:Nat} (h:HI R xa xb lo i j):HI R xb xa lo j i:=by
 refine⟨h.pb,h.pa,?_⟩
 have e:(xb.take j++(xa.take i++lo.reverse)).Perm (xa.take i++(xb.take j++lo.reverse)):=by
  rw[←Du,←Du];exact Yz _ Nj
 exact(e.trans h.pm).trans Nj
theorem Zu2 (xs:List Nat) {t i:Nat} (h:t≤i):xs.take i=xs.take t++(xs.take i).drop t:=by
 have:=Ht t (xs.take i);rw[List.take_take,TQ h]at this;exact this.symm
theorem HI.bulk {xa xb lo:List Nat} {i j t:Nat} (h:HI R xa xb lo i j) (ht:t≤i) (c:∀x∈(xa.take i).drop t,∀y∈xb.take j,R y x):HI R xa xb (lo++((xa.take i).drop t).reverse) t j:=by
 have e:=Zu2 xa ht;obtain⟨h1,h2,h3⟩:=h
 have er:(lo++((xa.take i).drop t).reverse).reverse=(xa.take i).drop t++lo.reverse:=by rw[List.reverse_append,List.reverse_reverse]
 generalize hd:(xa.take i).drop t=D at e c er ⊢;rw[e]at h1 h3;refine⟨by rw[er,←Du]; exact h1,?_,?_⟩
 ·rw[er,FW]
  rw[Du,FW]at h1;obtain⟨a1,a2,a3⟩:=h1;rw[FW]at h2;obtain⟨b1,b2,b3⟩:=h2;refine⟨b1,a2,fun y hy x hx=>?_⟩
  rcases Hj.mp hx with hx | hx
  ·exact c x hx y hy
  ·exact b3 y hy x hx
 ·rw[er]
  refine Ybd ?_ h3;rw[Du];refine Rw _ ?_;rw[←Du,←Du];exact Yz _ Nj
theorem Zth {xs:List Nat} {i x:Nat} (hi:1≤i) (h:xs[i - 1]?=some x):(xs.take i).drop (i - 1)=[x]:=by
 obtain⟨hl,e⟩:=Cr.mp h
 have:xs.take i=xs.take (i - 1)++[x]:=by
  have e1:xs.take (i - 1+1)=xs.take (i - 1)++[x]:=by
   rw[Ybe,h];rfl
  rw[←e1]
  congr 1
  omega
 rw[this,List.drop_left' (by rw[Fb]; omega)]
theorem HI.one {xa xb lo:List Nat} {i j x:Nat} (h:HI R xa xb lo i j) (hi:1≤i) (hx:xa[i - 1]?=some x) (c:∀y∈xb.take j,R y x):HI R xa xb (lo++[x]) (i - 1) j:=by
 have:=h.bulk (t:=i - 1) (by omega) (fun z hz=>by rw[Zth hi hx]at hz; rw[Dr.mp hz]; exact c);rw[Zth hi hx]at this;exact this
theorem upto (M:CmN prog w A κ it Ok N lt R) {xs:List Nat} {j x y:Nat} (sp:xs.Pairwise R) (hj:1≤j) (hy:xs[j - 1]?=some y) (c:R y x):∀z∈xs.take j,R z x:=fun z hz=>
 M.tr _ _ _ (Vo M sp hy z (by rw[show j - 1+1=j by omega]; exact hz)) c
theorem HI.gal (M:CmN prog w A κ it Ok N lt R) {l:Bool} {xa xb lo:List Nat} {i j y k:Nat} (h:HI R xa xb lo i j) (sa:xa.Pairwise R) (hy:∀z∈xb.take j,R z y) (hi:i≤xa.length) (G:Gal lt l y xa 0 i k k):HI R xa xb (lo++((xa.take i).drop k).reverse) k j∧∀z∈xa.take k,R z y:=by
 refine⟨h.bulk G.vn fun x hx z hz=>?_,?_⟩
 ·rcases G.hi with e | ⟨q,hq,hf⟩
  ·rw[e,Lf (by rw[Fb]; omega)]at hx
   cases hx
  ·refine M.tr _ _ _ (hy z hz) (M.tr _ _ _ (ao M hf) ?_)
   rw[Ry]at hq;have hx2:x∈xa.drop k:=(Ydo (Yb i xa) k).subset hx;exact LR M (sa.sublist (Ua k xa)) (KH hq).1 x hx2
 ·rcases G.lo with e | ⟨q,hq,hf⟩
  ·rw[e]
   intro z hz;simp at hz
  ·rw[Ry]at hq
   cases k with
   | zero=>intro z hz; simp at hz
   | succ k=>exact upto M sa (by omega) hq (ak M hf)
theorem aq (xa xb lo:List Nat) (i j:Nat):uN (ar it xa) (ar it xb) (ar it lo) i j=ar it (xa.take i++xb.take j++lo.reverse):=by
 unfold uN;rw[LQ,LQ];simp[ar]
theorem HI.doneA {xa xb lo:List Nat} {j:Nat} (h:HI R xa xb lo 0 j):Mrg R it xa xb (uN (ar it xa) (ar it xb) (ar it lo) 0 j):=by
 have pm:=h.pm;rw[IV,Lg]at pm;exact⟨_,aq _ _ _ _ _,by rw[IV,Lg]; exact h.pb,by rw[IV,Lg]; exact pm⟩
theorem HI.doneB {xa xb lo:List Nat} {i:Nat} (h:HI R xa xb lo i 0):Mrg R it xa xb (uN (ar it xa) (ar it xb) (ar it lo) i 0):=by
 have pm:=h.pm;rw[IV,Lg]at pm;exact⟨_,aq _ _ _ _ _,by rw[IV,Ed]; exact h.pa,by rw[IV,Ed]; exact pm⟩
theorem Two.first (M:CmN prog w A κ it Ok N lt R) {xa xb lo:List Nat} {i:Nat} (D:Two R N xa xb) (h:HI R xa xb lo i 1):Mrg R it xa xb (uN (ar it xb) (ar it xa) (ar it lo) 1 i):=by
 obtain⟨x0,y0,hx0,hy0,hxy⟩:=D.hd
 have e:xb.take 1=[y0]:=by
  have:=(KH hy0).2;rw[List.drop_zero]at this;exact this
 have pm:=h.swap.pm;have pb:=h.pb;rw[e]at pm pb;refine⟨_,aq _ _ _ _ _,?_,?_⟩
 ·rw[e,Du,Ybf,Ybb]
  refine⟨fun x hx=>?_,h.pa⟩
  rcases Hj.mp hx with hx | hx
  ·exact M.tr _ _ _ hxy (LR M D.sa hx0 x (Rz hx))
  ·exact(FW.mp pb).2.2 y0 (by simp) x hx
 ·rw[e,Du]
  exact pm.trans Nj
structure Ho (R:Nat→Nat→Prop) (it:Array Bg) (xa xb:List Nat) (m:Nat) (o:Array Bg) (i j:Nat):Prop where
 ex:∃lo,o=ar it lo∧HI R xa xb lo i j
 i1:1≤i
 il:i≤xa.length
 j2:2≤j
 jl:j≤xb.length
 mm:m+i+j≤xa.length+xb.length
def Hot (R:Nat→Nat→Prop) (it:Array Bg) (xa xb:List Nat) (m:Nat) (r:Option (Array Bg)) (o:Array Bg) (i j:Nat):Prop:=(∃r',r=some r'∧Mrg R it xa xb r')∨(r=none∧Ho R it xa xb m o i j)
theorem Zy4 (xs:List Nat) (k i:Nat):((ar it xs).extract k i).reverse=ar it ((xs.take i).drop k).reverse:=by
 rw[LQ,←List.drop_take];simp[ar]
theorem Sq.hiC (M:CmN prog w A κ it Ok N lt R) {xa xb lo:List Nat} {i j G p q m:Nat} (D:Two R N xa xb) (I:HI R xa xb lo i j) (h1:1≤i) (hi:i≤xa.length) (hj2:2≤j) (hj:j≤xb.length) (hm:m+i+j≤xa.length+xb.length+1) (hc:∃x,xa[i - 1]?=some x∧∀y∈xb.take j,R y x) {st:Am} {Q:ForInStep U7→Am→Prop} (h:∀r o i' j' G' p' q',Hot R it xa xb m r o i' j'→Q (.done (r,i',j',o,G',p',q')) st) (h2:∀o i' j' G' p' q',Ho R it xa xb m o i' j'→Q (.yield (none,i',j',o,G',p',q')) st):Sq prog w A E Ok (hiC (ar it xa) (ar it xb) (ar it lo) i j G p q) st Q:=by
 obtain⟨x,hx,hxy⟩:=hc;have I1:=I.one h1 hx hxy;unfold EM.hiC;refine Sq.elemB hx ?_;rw[KD]
 by_cases e:i - 1=0
 ·rw[if_pos (by rw[e]; rfl)]
  refine Sq.pure (h _ _ _ _ _ _ _ (.inl ⟨_,rfl,?_⟩));rw[e]at I1 ⊢;exact I1.doneA
 rw[if_neg (by simpa using e)];have g:Ho R it xa xb m (ar it (lo++[x])) (i - 1) j:=⟨⟨_,rfl,I1⟩,by omega,by omega,hj2,hj,by omega⟩
 split
 ·exact Sq.pure (h _ _ _ _ _ _ _ (.inr ⟨rfl,g⟩))
 ·exact Sq.pure (h2 _ _ _ _ _ _ g)
theorem Sq.hiB (M:CmN prog w A κ it Ok N lt R) {xa xb lo:List Nat} {i j G p q m:Nat} (D:Two R N xa xb) (I:HI R xa xb lo i j) (h1:1≤i) (hi:i≤xa.length) (hj2:2≤j) (hj:j≤xb.length) (hm:m+i+j≤xa.length+xb.length+2) (hc:∃y,xb[j - 1]?=some y∧∀x∈xa.take i,R x y) {li:List Nat} {pd:Array (Nat×Nat×Nat)} {g:Nat} {Q:ForInStep U7→Am→Prop} (h:∀r o i' j' G' p' q',Hot R it xa xb m r o i' j'→Q (.done (r,i',j',o,G',p',q')) (stt κ it li pd g)) (h2:∀o i' j' G' p' q',Ho R it xa xb m o i' j'→Q (.yield (none,i',j',o,G',p',q')) (stt κ it li pd g)):Sq prog w A E Ok (hiB (ar it xa) (ar it xb) (ar it lo) i j G p q) (stt κ it li pd g) Q:=by
 obtain⟨y,hy,hyx⟩:=hc;have I1:=(I.swap.one (by omega) hy hyx).swap;unfold EM.hiB;refine Sq.elemB hy ?_;rw[KD]
 by_cases e:j - 1=1
 ·rw[if_pos (by rw[e]; rfl)]
  refine Sq.pure (h _ _ _ _ _ _ _ (.inl ⟨_,rfl,?_⟩));rw[e]at I1 ⊢
  exact D.first M I1
 rw[if_neg (by simpa using e)];obtain⟨x,hx,hxm⟩:=Ik (xs:=xa) (i:=i - 1) (by omega);refine Sq.elemB hx ?_;refine Sq.galB M (D.ha x hxm) D.hb (by omega) (by omega) fun k K=>?_
 dsimp only
 have kv:=K.vn;obtain⟨I2,hk2⟩:=I1.swap.gal M D.sb (upto M D.sa h1 hx (M.refl _)) (by omega) K;have I2:=I2.swap
 by_cases hk:j - 1 - k > 0
 ·rw[if_pos hk,Zy4,LK]
  by_cases e3:k=1
  ·rw[if_pos (by rw[e3]; rfl)]
   refine Sq.pure (h _ _ _ _ _ _ _ (.inl ⟨_,rfl,?_⟩));subst e3
   exact D.first M I2
  rw[if_neg (by simpa using e3)]
  by_cases e4:k=0
  ·rw[if_pos (by rw[e4]; rfl)]
   refine Sq.pure (h _ _ _ _ _ _ _ (.inl ⟨_,rfl,?_⟩));subst e4;exact I2.doneB
  rw[if_neg (by simpa using e4)];exact Sq.hiC M D I2 h1 hi (by omega) (by omega) (by omega) ⟨x,hx,hk2⟩ h h2
 ·rw[if_neg hk]
  have e5:k=j - 1:=by omega
  rw[e5,Lf (by rw[Fb]; omega),Ybg,Ed]at I2;rw[e5]at hk2;exact Sq.hiC M D I2 h1 hi (by omega) (by omega) (by omega) ⟨x,hx,hk2⟩ h h2
theorem Sq.hiA (M:CmN prog w A κ it Ok N lt R) {xa xb lo:List Nat} {i j G p q m:Nat} (D:Two R N xa xb) (I:HI R xa xb lo i j) (h1:1≤i) (hi:i≤xa.length) (hj2:2≤j) (hj:j≤xb.length) (hm:m+i+j≤xa.length+xb.length+2) {li:List Nat} {pd:Array (Nat×Nat×Nat)} {g:Nat} {Q:ForInStep U7→Am→Prop} (h:∀r o i' j' G' p' q',Hot R it xa xb m r o i' j'→Q (.done (r,i',j',o,G',p',q')) (stt κ it li pd G)) (h2:∀o i' j' G' p' q',Ho R it xa xb m o i' j'→Q (.yield (none,i',j',o,G',p',q')) (stt κ it li pd G)):Sq prog w A E Ok (hiA (ar it xa) (ar it xb) (ar it lo) i j G p q) (stt κ it li pd g) Q:=by
 unfold EM.hiA;refine Sq.modB ?_;show Sq prog w A E Ok _ (stt κ it li pd G) Q;obtain⟨y,hy,hym⟩:=Ik (xs:=xb) (i:=j - 1) (by omega);refine Sq.elemB hy ?_;refine Sq.galB M (D.hb y hym) D.ha (by omega) (by omega) fun k K=>?_
 dsimp only
 have kv:=K.vn;obtain⟨I2,hk2⟩:=I.gal M D.sa (upto M D.sb (by omega) hy (M.refl _)) hi K
 by_cases hk:i - k > 0
 ·rw[if_pos hk,Zy4,LK]
  by_cases e3:k=0
  ·rw[if_pos (by rw[e3]; rfl)]
   refine Sq.pure (h _ _ _ _ _ _ _ (.inl ⟨_,rfl,?_⟩));subst e3;exact I2.doneA
  rw[if_neg (by simpa using e3)];exact Sq.hiB M D I2 (by omega) (by omega) hj2 hj (by omega) ⟨y,hy,hk2⟩ h h2
 ·rw[if_neg hk]
  have e5:k=i:=by omega
  rw[e5,Lf (by rw[Fb]; omega),Ybg,Ed]at I2;rw[e5]at hk2;exact Sq.hiB M D I2 h1 hi hj2 hj (by omega) ⟨y,hy,hk2⟩ h h2
theorem Sq.hiS (M:CmN prog w A κ it Ok N lt R) {xa xb:List Nat} {o:Array Bg} {i j G p q m:Nat} (D:Two R N xa xb) (I:Ho R it xa xb m o i j) {li:List Nat} {pd:Array (Nat×Nat×Nat)} {g:Nat} {Q:ForInStep U6→Am→Prop} (h:∀r o i' j' p' q',Hot R it xa xb (m+1) r o i' j'→Q (.done (r,i',j',o,p',q')) (stt κ it li pd g)) (h2:∀o i' j' p' q',Ho R it xa xb (m+1) o i' j'→Q (.yield (none,i',j',o,p',q')) (stt κ it li pd g)):Sq prog w A E Ok (hiS (ar it xa) (ar it xb) o i j p q G) (stt κ it li pd g) Q:=by
 obtain⟨⟨lo,rfl,I⟩,h1,hi,hj2,hj,hm⟩:=I;unfold EM.hiS;obtain⟨y,hy,hym⟩:=Ik (xs:=xb) (i:=j - 1) (by omega);obtain⟨x,hx,hxm⟩:=Ik (xs:=xa) (i:=i - 1) (by omega);refine Sq.elemB hy (Sq.elemB hx (Sq.askB M (D.hb y hym) (D.ha x hxm) ?_))
 dsimp only
 cases hl:lt y x with
 | true=>
  rw[if_pos rfl];refine Sq.elemB hx ?_;have I1:=I.one h1 hx (upto M D.sb (by omega) hy (M.yes _ _ hl));rw[KD]
  by_cases e:i - 1=0
  ·rw[if_pos (by rw[e]; rfl)]
   refine Sq.pure (h _ _ _ _ _ _ (.inl ⟨_,rfl,?_⟩));rw[e]at I1 ⊢;exact I1.doneA
  rw[if_neg (by simpa using e)];have g:Ho R it xa xb (m+1) (ar it (lo++[x])) (i - 1) j:=⟨⟨_,rfl,I1⟩,by omega,by omega,hj2,hj,by omega⟩
  split
  ·exact Sq.pure (h _ _ _ _ _ _ (.inr ⟨rfl,g⟩))
  ·exact Sq.pure (h2 _ _ _ _ _ g)
 | false=>
  rw[if_neg Cg];refine Sq.elemB hy ?_;have I1:=(I.swap.one (by omega) hy (upto M D.sa h1 hx (M.no _ _ hl))).swap;rw[KD]
  by_cases e:j - 1=1
  ·rw[if_pos (by rw[e]; rfl)]
   refine Sq.pure (h _ _ _ _ _ _ (.inl ⟨_,rfl,?_⟩));rw[e]at I1 ⊢
   exact D.first M I1
  rw[if_neg (by simpa using e)];have g:Ho R it xa xb (m+1) (ar it (lo++[y])) i (j - 1):=⟨⟨_,rfl,I1⟩,h1,hi,by omega,by omega,by omega⟩
  split
  ·exact Sq.pure (h _ _ _ _ _ _ (.inr ⟨rfl,g⟩))
  ·exact Sq.pure (h2 _ _ _ _ _ g)
theorem Ho.le {xa xb:List Nat} {m m':Nat} {o:Array Bg} {i j:Nat} (h:Ho R it xa xb m o i j) (e:m'≤m):Ho R it xa xb m' o i j:=⟨h.ex,h.i1,h.il,h.j2,h.jl,by have:=h.mm; omega⟩
theorem Sq.hiT (M:CmN prog w A κ it Ok N lt R) {xa xb:List Nat} {T m:Nat} (D:Two R N xa xb) (hT:T=xa.length+xb.length) {s:U5} (I:Ho R it xa xb m s.2.2.2.1 s.2.1 s.2.2.1) {li:List Nat} {pd:Array (Nat×Nat×Nat)} {g:Nat} {Q:ForInStep U5→Am→Prop} (h:∀r s' g',Mrg R it xa xb r→Q (.done (some r,s')) (stt κ it li pd g')) (h2:∀o i j G g',Ho R it xa xb (m+1) o i j→Q (.yield (none,i,j,o,G)) (stt κ it li pd g')):Sq prog w A E Ok (hiT (ar it xa) (ar it xb) T s) (stt κ it li pd g) Q:=by
 obtain⟨s0,i,j,o,G⟩:=s;have I:Ho R it xa xb m o i j:=I;unfold EM.hiT;refine Sq.bind (P1:=fun t st'=>st'=stt κ it li pd g∧Hot R it xa xb (m+1) t.1 t.2.2.2.1 t.2.1 t.2.2.1) ?_ ?_
 ·refine Sq.range (fun n t st'=>st'=stt κ it li pd g∧t.1=none∧Ho R it xa xb (m+n) t.2.2.2.1 t.2.1 t.2.2.1) ⟨rfl,rfl,I⟩ ?_ ?_
  ·rintro n _ ⟨t1,i,j,o,p,q⟩ st' hn ⟨rfl,rfl,I⟩
   exact Sq.hiS M D I (fun r o i' j' p' q' h'=>⟨rfl,h'.imp id fun h=>⟨h.1,h.2.le (by omega)⟩⟩) fun o i' j' p' q' h'=>⟨rfl,rfl,h'⟩
  ·rintro⟨t1,i,j,o,p,q⟩ st' ⟨rfl,rfl,I⟩
   have a1:1≤i:=I.i1;have a3:m+(T - 0)+i+j≤xa.length+xb.length:=I.mm;omega
 rintro⟨t1,i,j,o,p,q⟩ st' ⟨rfl,h1⟩
 rcases h1 with⟨r,hr,h1⟩ | ⟨hr,h1⟩
 ·obtain rfl:t1=some r:=hr
  exact Sq.pure (h r _ _ h1)
 obtain rfl:t1=none:=hr
 dsimp only
 refine Sq.ruleB ?_;refine Sq.bind (P1:=fun u st'=>∃g',st'=stt κ it li pd g'∧Hot R it xa xb (m+1) u.1 u.2.2.2.1 u.2.1 u.2.2.1) ?_ ?_
 ·refine Sq.range (fun n u st'=>∃g',st'=stt κ it li pd g'∧u.1=none∧Ho R it xa xb (m+1+n) u.2.2.2.1 u.2.1 u.2.2.1) ⟨g,rfl,rfl,h1⟩ ?_ ?_
  ·rintro n _ ⟨t1,i,j,o,G,p,q⟩ st' hn ⟨g',rfl,rfl,⟨⟨lo,e,I⟩,hi1,hi,hj2,hj,hm⟩⟩
   obtain rfl:o=ar it lo:=e;have a3:m+1+n+i+j≤xa.length+xb.length:=hm
   dsimp only
   split
   ·exact Sq.hiA (m:=m+1+(n+1)) M D I hi1 hi hj2 hj (by omega) (fun r o i' j' G' p' q' h'=>⟨_,rfl,h'.imp id fun h=>⟨h.1,h.2.le (by omega)⟩⟩) fun o i' j' G' p' q' h'=>⟨_,rfl,rfl,h'⟩
   ·exact Sq.hiA (m:=m+1+(n+1)) M D I hi1 hi hj2 hj (by omega) (fun r o i' j' G' p' q' h'=>⟨_,rfl,h'.imp id fun h=>⟨h.1,h.2.le (by omega)⟩⟩) fun o i' j' G' p' q' h'=>⟨_,rfl,rfl,h'⟩
  ·rintro⟨t1,i,j,o,G,p,q⟩ st' ⟨g',rfl,rfl,I⟩
   exact⟨g',rfl,.inr ⟨rfl,I.le (by omega)⟩⟩
 rintro⟨t1,i,j,o,G,p,q⟩ st' ⟨g',rfl,h1⟩
 rcases h1 with⟨r,hr,h1⟩ | ⟨hr,h1⟩
 ·obtain rfl:t1=some r:=hr
  exact Sq.pure (h r _ _ h1)
 obtain rfl:t1=none:=hr
 dsimp only
 refine Sq.modB ?_;exact Sq.pure (h2 _ _ _ _ _ h1)
theorem Sq.mhi (M:CmN prog w A κ it Ok N lt R) {xa xb:List Nat} (D:Two R N xa xb) {li:List Nat} {pd:Array (Nat×Nat×Nat)} {g:Nat} {Q:Array Bg→Am→Prop} (h:∀o g',Mrg R it xa xb o→Q o (stt κ it li pd g')):Sq prog w A E Ok (mhi' (ar it xa) (ar it xb)) (stt κ it li pd g) Q:=by
 rw[ZyC,Ij,Ij];obtain⟨x0,y0,hx0,hy0,hxy⟩:=D.hd;obtain⟨z,hz,hc⟩:=D.la;have la:0 < xa.length:=(Cr.mp hx0).1;have lb:0 < xb.length:=(Cr.mp hy0).1;refine Sq.ruleB ?_;refine Sq.elemB hz ?_;have e0:(#[BX it z]:Array Bg)=ar it [z]:=rfl;rw[e0];have I00:HI R xa xb [] xa.length xb.length:=⟨by simpa using D.sa,by simpa using D.sb,by simp⟩;have I0:HI R xa xb [z] (xa.length - 1) xb.length:=I00.one (by omega) hz (fun y hy=>hc y (Rz hy))
 by_cases e1:xa.length - 1=0
 ·rw[if_pos (by rw[e1]; rfl)]
  rw[e1]at I0 ⊢;exact Sq.pure (h _ _ I0.doneA)
 rw[if_neg (by simpa using e1)]
 by_cases e2:xb.length=1
 ·rw[if_pos (by rw[e2]; rfl)]
  rw[e2]at I0 ⊢;exact Sq.pure (h _ _ (D.first M I0))
 rw[if_neg (by simpa using e2)];refine Sq.getB ?_;refine Sq.bind (P1:=fun s st'=>∃g' r,st'=stt κ it li pd g'∧s.1=some r∧Mrg R it xa xb r) ?_ ?_
 ·refine Sq.range (fun n s st'=>∃g',st'=stt κ it li pd g'∧s.1=none∧Ho R it xa xb n s.2.2.2.1 s.2.1 s.2.2.1) ⟨g,rfl,rfl,⟨_,rfl,I0⟩,by show 1≤_ - 1; omega,by show _ - 1≤_; omega,by show 2≤xb.length; omega,Ax _,by show 0+(xa.length - 1)+xb.length≤xa.length+xb.length; omega⟩ ?_ ?_
  ·rintro n _ s st' hn ⟨g',rfl,hs,I⟩
   exact Sq.hiT M D rfl I (fun r s' g' h'=>⟨g',r,rfl,rfl,h'⟩) fun o i j G g' h'=>⟨g',rfl,rfl,h'⟩
  ·rintro s st' ⟨g',rfl,hs,I⟩
   have a1:=I.i1;have a3:=I.mm;omega
 rintro⟨s1,s2⟩ st' ⟨g',r,rfl,rfl,h'⟩;exact Sq.pure (h r g' h')
end
end EM
namespace EM
open PySem PySem.W PyProof.Rows
noncomputable abbrev ZzZ (p:Array (Nat×Nat×Nat)) (s:Am):Am:=Fx (kindOf s) (arrOf s) p (gallopOf s) (failedOf s)
noncomputable abbrev au (m:Array Bg) (t:Nat) (s:Am):Am:=Fx (kindOf s) (m.toList.zipIdx.foldl (fun a (x:Bg×Nat)=>a.setIfInBounds (t+x.2) x.1) (arrOf s)) (pendingOf s) (gallopOf s) (failedOf s)
theorem ZyB (i:Nat):mergeAt' i=(do
  let s ←get
  let (some (a,m,p),some (b,n,_)):=((pendingOf s)[i]?,(pendingOf s)[i+1]?) | unsupported "internal:list.sort.pending"
  set (ZzZ (((pendingOf s).setIfInBounds i (a,m+n,p)).eraseIdxIfInBounds (i+1)) s)
  let some k ←gal' false (←elem' (arrOf s) b) (arrOf s) a m 0 | return false
  let (a,m):=(a+k,m - k)
  if m == 0 then return true
  let some n ←gal' true (←elem' (arrOf s) (a+m - 1)) (arrOf s) b n (n - 1) | return false
  if n == 0 then return true
  let x:=(arrOf s).extract a b
  let y:=(arrOf s).extract b (b+n)
  let z ←if m≤n then mlo' x y else mhi' x y
  modify (au z a)
  return (failedOf (←get)).isNone):=rfl
end EM
namespace EM
open PySem PySem.W PyProof.Rows
noncomputable abbrev V2:=Option (Option Nat)×Nat
noncomputable abbrev V3:=Option (Option Nat)×Nat×Nat
noncomputable def rnS (u n:Nat):StateT Am Sem (ForInStep V2):=do
 let some c ←ltAt' (u+n) (u+n - 1) | return .done (some none,n)
 if c then return .done (none,n)
 return .yield (none,n+1)
noncomputable def rnD (u n q:Nat):StateT Am Sem (ForInStep V3):=do
 let some c ←ltAt' (u+n) (u+n - 1) | return .done (some none,n,q)
 if c then
  if q > 0 then
   reverseSlice' (u+n - (q+1)) (u+n)
   return .yield (none,n+1,0)
  else return .yield (none,n+1,0)
 else
  let some d ←ltAt' (u+n - 1) (u+n) | return .done (some none,n,q)
  if d then return .done (none,n,q)
  return .yield (none,n+1,q+1)
noncomputable def rnT (u n m:Nat):StateT Am Sem (Option Nat):=do
 reverseSlice' u (u+n)
 let s:V2 ←forIn [n:m] (none,n) fun _ s=>rnS u s.2
 match s.1 with
 | some r=>return r
 | none=>return some s.2
noncomputable def rnP (u n m:Nat):StateT Am Sem (Option Nat):=do
 PySem.rule "list.sort.descending-run"
 let s:V3 ←forIn [n+1:m] (none,n+1,0) fun _ s=>rnD u s.2.1 s.2.2
 match s.1 with
 | some r=>return r
 | none=>
  if s.2.2 > 0 then
   reverseSlice' (u+s.2.1 - (s.2.2+1)) (u+s.2.1)
   rnT u s.2.1 m
  else rnT u s.2.1 m
theorem ZxX (u m:Nat):countRun' u m=(do
  let s:V2 ←forIn [1:m] (none,1) fun _ s=>rnS u s.2
  match s.1 with
  | some r=>return r
  | none=>
   if s.2 == m then return some s.2
   if s.2 > 1 then
    let some c ←ltAt' u (u+s.2 - 1) | return none
    if c then return some s.2
    reverseSlice' u (u+s.2)
    rnP u s.2 m
   else rnP u s.2 m):=by
 rw[countRun'_eq];unfold rnP rnT rnS rnD
 dsimp only
 congr 1
 funext s
 obtain⟨s1,n⟩:=s
 cases s1 with
 | some r=>rfl
 | none=>
  dsimp only
  split
  ·rfl
  ·split
   ·congr 1
    funext x
    cases x with
    | none=>rfl
    | some c=>
     dsimp only
     split
     ·rfl
     ·congr 1
      funext _
      congr 1
      funext _
      congr 1
      funext s2
      obtain⟨s1,n2,q2⟩:=s2
      cases s1 with
      | some r=>rfl
      | none=>
       dsimp only
       split
       ·congr 1
        funext _
        congr 1
        funext _
        congr 1
        funext s3
        obtain⟨s1,n3⟩:=s3
        cases s1 <;> rfl
       ·congr 1
        funext _
        congr 1
        funext s3
        obtain⟨s1,n3⟩:=s3
        cases s1 <;> rfl
   ·congr 1
    funext _
    congr 1
    funext s2
    obtain⟨s1,n2,q2⟩:=s2
    cases s1 with
    | some r=>rfl
    | none=>
     dsimp only
     split
     ·congr 1
      funext _
      congr 1
      funext _
      congr 1
      funext s3
      obtain⟨s1,n3⟩:=s3
      cases s1 <;> rfl
     ·congr 1
      funext _
      congr 1
      funext s3
      obtain⟨s1,n3⟩:=s3
      cases s1 <;> rfl
end EM
namespace EM
open PySem PySem.W PyProof.Rows
section
variable {prog:Ay} {w:Av} {A:Bp} {E:Ab→Ae→Prop} {κ:G6} {it:Array Bg} {Ok:Ae→Prop} {N:Nat} {lt:Nat→Nat→Bool} {R:Nat→Nat→Prop} {α β:Type} {pd:Array (Nat×Nat×Nat)} {g:Nat}
noncomputable def stA (κ:G6) (it:Array Bg) (p:Array Nat) (pd:Array (Nat×Nat×Nat)) (g:Nat):Am:=Fx κ (p.map (BX it)) pd g none
theorem Vp (l:List Nat):stA κ it l.toArray pd g=stt κ it l pd g:=by unfold stA stt; rw[ym]
theorem Sq.at {p:Array Nat} {i j:Nat} {f:Option Bool→StateT Am Sem β} {Q:β→Am→Prop} (M:CmN prog w A κ it Ok N lt R) (hG:Ga N p) (hi:i < N) (hj:j < N) (h:Sq prog w A E Ok (f (some (lt (p.getD i 0) (p.getD j 0)))) (stA κ it p pd g) Q):Sq prog w A E Ok (ltAt' i j >>= f) (stA κ it p pd g) Q:=by
 have h0:0 < N:=by omega
 have ge:∀k,k < N→(p.map (BX it))[k]?=some (BX it (p.getD k 0)):=fun k hk=>by
  have e:p.getD k 0=p[k]'(by rw[hG.sz]; exact hk):=by simp[Lh,hG.sz,hk]
  rw[e];simp[hG.sz,hk]
 refine Sq.bind (P1:=fun a st'=>a=some (lt (p.getD i 0) (p.getD j 0))∧st'=stA κ it p pd g) ?_ (by rintro _ _ ⟨rfl,rfl⟩; exact h);rw[ltAt'_eq];refine Sq.getB ?_;show Sq prog w A E Ok (do let x ←elem' (p.map (BX it)) i; let y ←elem' (p.map (BX it)) j; lt' x y) _ _;rw[yg,yg,ge i hi,ge j hj];refine Sq.bind (P1:=fun a st'=>a=BX it (p.getD i 0)∧st'=stA κ it p pd g) (Sq.pure ⟨rfl,rfl⟩) ?_;rintro _ _ ⟨rfl,rfl⟩;refine Sq.bind (P1:=fun a st'=>a=BX it (p.getD j 0)∧st'=stA κ it p pd g) (Sq.pure ⟨rfl,rfl⟩) ?_;rintro _ _ ⟨rfl,rfl⟩;have:=Sq.ask (E:=E) (l:=p.toList) (pd:=pd) (g:=g) (Q:=fun a st'=>a=some (lt (p.getD i 0) (p.getD j 0))∧st'=stA κ it p pd g) M (hG.lo h0 i) (hG.lo h0 j) ⟨rfl,by rw[←Vp,yo]⟩;rw[←Vp,yo]at this;exact this
theorem Sq.rev {p:Array Nat} {i j:Nat} {f:Unit→StateT Am Sem β} {Q:β→Am→Prop} (h:Sq prog w A E Ok (f ()) (stA κ it (Nh p i j) pd g) Q):Sq prog w A E Ok (reverseSlice' i j >>= f) (stA κ it p pd g) Q:=by
 refine Sq.bind (P1:=fun _ st'=>st'=stA κ it (Nh p i j) pd g) ?_ (by rintro _ _ rfl; exact h);rw[reverseSlice'_eq];refine Sq.modify ?_;show Fx κ (mirror (p.map (BX it)) i j ((j - i) / 2)) pd g none=Fx κ ((mirror p i j ((j - i) / 2)).map (BX it)) pd g none;have e1:mirror (p.map (BX it)) i j ((j - i) / 2)=(mirror p i j ((j - i) / 2)).map (BX it):=kas_swaps_map (BX it) (fun k=>i+k) (fun k=>j - 1 - k) _ p;rw[e1]
theorem Sq.down {p:Array Nat} {k l:Nat} {f:Unit→StateT Am Sem β} {Q:β→Am→Prop} (h:Sq prog w A E Ok (f ()) (stA κ it (bubble p k (k - l)) pd g) Q):Sq prog w A E Ok (moveDown' k l >>= f) (stA κ it p pd g) Q:=by
 refine Sq.bind (P1:=fun _ st'=>st'=stA κ it (bubble p k (k - l)) pd g) ?_ (by rintro _ _ rfl; exact h);rw[moveDown'_eq];refine Sq.modify ?_;show Fx κ (bubble (p.map (BX it)) k (k - l)) pd g none=Fx κ ((bubble p k (k - l)).map (BX it)) pd g none;have e1:bubble (p.map (BX it)) k (k - l)=(bubble p k (k - l)).map (BX it):=kas_swaps_map (BX it) (fun i=>k - i) (fun i=>k - i - 1) _ p;rw[e1]
def AscO (R:Nat→Nat→Prop) (p:Array Nat) (u m:Nat):Prop:=∀i,i+1 < m→R (p.getD (u+i) 0) (p.getD (u+i+1) 0)
def DscO (R:Nat→Nat→Prop) (p:Array Nat) (u m:Nat):Prop:=∀i,i+1 < m→R (p.getD (u+i+1) 0) (p.getD (u+i) 0)
def AlkO (R:Nat→Nat→Prop) (p:Array Nat) (u a m:Nat):Prop:=∀i,a≤i→i+1 < m→R (p.getD (u+i) 0) (p.getD (u+i+1) 0)
def PreO (p p':Array Nat) (u:Nat):Prop:=∀k,k < u→p'.getD k 0=p.getD k 0
theorem AscO.le (M:CmN prog w A κ it Ok N lt R) {p:Array Nat} {u m:Nat} (h:AscO R p u m) {i j:Nat} (hij:i≤j) (hj:j < m):R (p.getD (u+i) 0) (p.getD (u+j) 0):=by
 induction j with
 | zero=>
  have:i=0:=by omega
  subst this; exact M.refl _
 | succ j ih=>
  by_cases e:i=j+1
  ·subst e; exact M.refl _
  ·exact M.tr _ _ _ (ih (by omega) (by omega)) (h j hj)
theorem DscO.le (M:CmN prog w A κ it Ok N lt R) {p:Array Nat} {u m:Nat} (h:DscO R p u m) {i j:Nat} (hij:i≤j) (hj:j < m):R (p.getD (u+j) 0) (p.getD (u+i) 0):=by
 induction j with
 | zero=>
  have:i=0:=by omega
  subst this; exact M.refl _
 | succ j ih=>
  by_cases e:i=j+1
  ·subst e; exact M.refl _
  ·exact M.tr _ _ _ (h j hj) (ih (by omega) (by omega))
theorem PreO.rev {p p':Array Nat} {u i j:Nat} (h:PreO p p' u) (hui:u≤i) (hij:i≤j) (hj:j≤p'.size):PreO p (Nh p' i j) u:=fun k hk=>by
 rw[JM hj hij,if_neg (by omega)];exact h k hk
theorem ZoK (M:CmN prog w A κ it Ok N lt R) {p:Array Nat} {u a m:Nat} (hs:u+m≤p.size) (ham:a≤m) (d:DscO R p u m) (k:AlkO R p u a m):DscO R (Nh p (u+a) (u+m)) u m:=fun i hi=>by
 rw[JM hs (by omega),JM hs (by omega)]
 by_cases h1:a≤i
 ·rw[if_pos (by omega),if_pos (by omega)]
  have:=k (a+m - 1 - (i+1)) (by omega) (by omega);rw[show u+(a+m - 1 - (i+1))+1=u+a+(u+m) - 1 - (u+i) by omega,show u+(a+m - 1 - (i+1))=u+a+(u+m) - 1 - (u+i+1) by omega]at this;exact this
 ·rw[if_neg (show ¬(u+a≤u+i∧u+i < u+m) by omega)]
  by_cases h2:a≤i+1
  ·rw[if_pos (by omega)]
   have e:i+1=a:=by omega
   have r1:=d.le M (i:=a) (j:=m - 1) (by omega) (by omega);have r2:=d i hi;rw[show u+i+1=u+a by omega]at r2;rw[show u+a+(u+m) - 1 - (u+i+1)=u+(m - 1) by omega];exact M.tr _ _ _ r1 r2
  ·rw[if_neg (by omega)]
   exact d i hi
theorem Sq.rnS (M:CmN prog w A κ it Ok N lt R) {p:Array Nat} {u m a:Nat} (hG:Ga N p) (hz:u+m≤N) (ha1:1≤a) (ham:a≤m) (hA:AscO R p u a) {f:V2→StateT Am Sem β} {Q:β→Am→Prop} (h:∀n,a≤n→n≤m→AscO R p u n→(n=m∨R (p.getD (u+n) 0) (p.getD (u+n - 1) 0))→Sq prog w A E Ok (f (none,n)) (stA κ it p pd g) Q):Sq prog w A E Ok (forIn [a:m] (none,a) (fun _ s=>EM.rnS u s.2) >>= f) (stA κ it p pd g) Q:=by
 refine Sq.bind (P1:=fun c st'=>∃n,c=(none,n)∧st'=stA κ it p pd g∧a≤n∧n≤m∧AscO R p u n∧(n=m∨R (p.getD (u+n) 0) (p.getD (u+n - 1) 0))) ?_ (by intro _ _ h_;refine xE1 h_ fun n h1_=>nE6 h1_ fun e0_ e1_ b1 b2 b3 b4=>?_;clear h_ h1_;subst e0_;subst e1_; exact h n b1 b2 b3 b4);refine Sq.range (fun i c st'=>c=(none,a+i)∧st'=stA κ it p pd g∧AscO R p u (a+i)) ⟨rfl,rfl,hA⟩ ?_ ?_
 ·rintro i x c st' hi ⟨rfl,rfl,hA⟩
  unfold EM.rnS;refine Sq.at M hG (by show u+(a+i) < N; omega) (by show u+(a+i) - 1 < N; omega) ?_
  dsimp only
  cases hl:lt (p.getD (u+(a+i)) 0) (p.getD (u+(a+i) - 1) 0) with
  | true=>
   rw[if_pos rfl];exact Sq.pure ⟨_,rfl,rfl,by omega,by omega,hA,.inr (M.yes _ _ hl)⟩
  | false=>
   rw[if_neg Cg];refine Sq.pure ⟨rfl,rfl,fun j hj=>?_⟩
   by_cases e:j+1 < a+i
   ·exact hA j e
   ·have:=M.no _ _ hl
    rw[show u+j=u+(a+i) - 1 by omega,show u+(a+i) - 1+1=u+(a+i) by omega];exact this
 ·rintro c st' ⟨rfl,rfl,hA⟩
  exact⟨_,rfl,rfl,by omega,by omega,hA,.inl (by omega)⟩
def Run (R:Nat→Nat→Prop) (N:Nat) (p0 p:Array Nat) (u m n:Nat):Prop:=Ga N p∧PreO p0 p u∧1≤n∧n≤m∧AscO R p u n
theorem Sq.rnT (M:CmN prog w A κ it Ok N lt R) {p0 p:Array Nat} {u m n:Nat} (hG:Ga N p) (hP:PreO p0 p u) (hz:u+m≤N) (hn1:1≤n) (hnm:n≤m) (d:DscO R p u n) {Q:Option Nat→Am→Prop} (h:∀n p',Run R N p0 p' u m n→Q (some n) (stA κ it p' pd g)):Sq prog w A E Ok (EM.rnT u n m) (stA κ it p pd g) Q:=by
 unfold EM.rnT
 have hs:u+n≤p.size:=by rw[hG.sz]; omega
 refine Sq.rev ?_;refine Sq.rnS M (hG.rev _ _) hz hn1 hnm (fun i hi=>?_) fun n' b1 b2 b3 _=>?_
 ·rw[JM hs (by omega),JM hs (by omega),if_pos (by omega),if_pos (by omega)]
  have:=d (n - 1 - (i+1)) (by omega);rw[show u+(n - 1 - (i+1))+1=u+(u+n) - 1 - (u+i) by omega,show u+(n - 1 - (i+1))=u+(u+n) - 1 - (u+i+1) by omega]at this;exact this
 ·exact Sq.pure (h n' _ ⟨hG.rev _ _,hP.rev (Ax _) (by omega) hs,by omega,b2,b3⟩)
theorem Sq.rnP (M:CmN prog w A κ it Ok N lt R) {p0 p:Array Nat} {u m n:Nat} (hG:Ga N p) (hP:PreO p0 p u) (hz:u+m≤N) (hn1:1≤n) (hnm:n+1≤m) (d:DscO R p u (n+1)) {Q:Option Nat→Am→Prop} (h:∀n p',Run R N p0 p' u m n→Q (some n) (stA κ it p' pd g)):Sq prog w A E Ok (EM.rnP u n m) (stA κ it p pd g) Q:=by
 unfold EM.rnP;refine Sq.ruleB ?_;refine Sq.bind (P1:=fun c st'=>∃n q p,c=(none,n,q)∧st'=stA κ it p pd g∧Ga N p∧PreO p0 p u∧q+1≤n∧n≤m∧DscO R p u n∧AlkO R p u (n - (q+1)) n) ?_ ?_
 ·refine Sq.range (fun i c st'=>∃q p,c=(none,n+1+i,q)∧st'=stA κ it p pd g∧Ga N p∧PreO p0 p u∧q+1≤n+1+i∧DscO R p u (n+1+i)∧AlkO R p u (n+1+i - (q+1)) (n+1+i)) ⟨0,p,rfl,rfl,hG,hP,by omega,d,fun i h1 h2=>by omega⟩ ?_ ?_
  ·intro i x c st' hi h_;refine xE2 h_ fun q p h1_=>nE7 h1_ fun e0_ e1_ hG hP hq d al=>?_;clear h_ h1_;subst e0_;subst e1_
   generalize hk:n+1+i=k at hq d al
   have hk1:2≤k:=by omega
   have hkm:k < m:=by omega
   have em:u+(k - 1)+1=u+k:=by omega
   have em2:u+k - 1=u+(k - 1):=by omega
   have hs:u+k≤p.size:=by rw[hG.sz]; omega
   unfold EM.rnD
   dsimp only
   refine Sq.at M hG (by omega) (by omega) ?_
   dsimp only
   cases hl:lt (p.getD (u+k) 0) (p.getD (u+k - 1) 0) with
   | true=>
    rw[if_pos rfl];have rm:=M.yes _ _ hl
    by_cases hq0:q > 0
    ·rw[if_pos hq0]
     refine Sq.rev (Sq.pure ⟨0,_,by rw[←hk,Nk],rfl,hG.rev _ _,hP.rev (by omega) (by omega) hs,by omega,?_,fun j h1 h2=>by omega⟩);rw[show n+1+(i+1)=k+1 by omega,show u+k - (q+1)=u+(k - (q+1)) by omega];intro j hj
     by_cases e:j+1 < k
     ·exact ZoK M hs (by omega) d al j e
     ·have ej:j=k - 1:=by omega
      subst ej;rw[em,JM hs (by omega),JM hs (by omega),if_neg (by omega),if_pos (by omega),show u+(k - (q+1))+(u+k) - 1 - (u+(k - 1))=u+(k - (q+1)) by omega];rw[em2]at rm;exact M.tr _ _ _ rm (d.le M (by omega) (by omega))
    ·rw[if_neg hq0]
     refine Sq.pure ⟨0,p,by rw[←hk,Nk],rfl,hG,hP,by omega,?_,fun j h1 h2=>by omega⟩;rw[show n+1+(i+1)=k+1 by omega];intro j hj
     by_cases e:j+1 < k
     ·exact d j e
     ·have ej:j=k - 1:=by omega
      subst ej;rw[em]; rw[em2]at rm; exact rm
   | false=>
    rw[if_neg Cg];refine Sq.at M hG (by omega) (by omega) ?_
    dsimp only
    cases hl2:lt (p.getD (u+k - 1) 0) (p.getD (u+k) 0) with
    | true=>
     rw[if_pos rfl];exact Sq.pure ⟨k,q,p,rfl,rfl,hG,hP,hq,by omega,d,al⟩
    | false=>
     rw[if_neg Cg];have r1:=M.no _ _ hl;have r2:=M.no _ _ hl2;rw[em2]at r1 r2;refine Sq.pure ⟨q+1,p,by rw[←hk,Nk],rfl,hG,hP,by omega,?_,?_⟩
     ·rw[show n+1+(i+1)=k+1 by omega]
      intro j hj
      by_cases e:j+1 < k
      ·exact d j e
      ·have ej:j=k - 1:=by omega
       subst ej;rw[em]; exact r2
     ·rw[show n+1+(i+1)=k+1 by omega]
      intro j h1 h2
      by_cases e:j+1 < k
      ·exact al j (by omega) e
      ·have ej:j=k - 1:=by omega
       subst ej;rw[em]; exact r1
  ·intro c st' h_;refine xE2 h_ fun q p h1_=>nE7 h1_ fun e0_ e1_ hG hP hq d al=>?_;clear h_ h1_;subst e0_;subst e1_
   exact⟨_,q,p,rfl,rfl,hG,hP,hq,by omega,d,al⟩
 intro c st' h_;refine xE3 h_ fun n' q p' h1_=>nE8 h1_ fun e0_ e1_ hG' hP' hq hn' d' al=>?_;clear h_ h1_;subst e0_;subst e1_
 dsimp only
 have hs:u+n'≤p'.size:=by rw[hG'.sz]; omega
 by_cases hq0:q > 0
 ·rw[if_pos hq0]
  refine Sq.rev ?_;rw[show u+n' - (q+1)=u+(n' - (q+1)) by omega];exact Sq.rnT M (hG'.rev _ _) (hP'.rev (by omega) (by omega) hs) hz (by omega) hn' (ZoK M hs (by omega) d' al) h
 ·rw[if_neg hq0]
  exact Sq.rnT M hG' hP' hz (by omega) hn' d' h
theorem Sq.cnt (M:CmN prog w A κ it Ok N lt R) {p:Array Nat} {u m:Nat} (hG:Ga N p) (hz:u+m≤N) (hm1:1≤m) {Q:Option Nat→Am→Prop} (h:∀n p',Run R N p p' u m n→Q (some n) (stA κ it p' pd g)):Sq prog w A E Ok (countRun' u m) (stA κ it p pd g) Q:=by
 rw[ZxX];have hP:PreO p p u:=fun k _=>rfl;refine Sq.rnS M hG hz (Ax 1) hm1 (fun i hi=>by omega) fun n b1 b2 b3 b4=>?_
 dsimp only
 have hs:u+n≤p.size:=by rw[hG.sz]; omega
 by_cases e:n=m
 ·rw[if_pos (by rw[e]; exact beq_self_eq_true _)]
  exact Sq.pure (h n p ⟨hG,hP,b1,b2,b3⟩)
 rw[if_neg (by simpa using e)];have rm:R (p.getD (u+n) 0) (p.getD (u+n - 1) 0):=b4.resolve_left e
 by_cases h1:n > 1
 ·rw[if_pos h1]
  refine Sq.at M hG (by omega) (by omega) ?_
  dsimp only
  cases hl:lt (p.getD u 0) (p.getD (u+n - 1) 0) with
  | true=>
   rw[if_pos rfl];exact Sq.pure (h n p ⟨hG,hP,b1,b2,b3⟩)
  | false=>
   rw[if_neg Cg];refine Sq.rev ?_;refine Sq.rnP M (hG.rev _ _) (hP.rev (Ax _) (by omega) hs) hz b1 (by omega) (fun i hi=>?_) h;rw[JM hs (by omega),JM hs (by omega)]
   by_cases e2:i+1 < n
   ·rw[if_pos (by omega),if_pos (by omega)]
    have:=b3 (n - 1 - (i+1)) (by omega);rw[show u+(n - 1 - (i+1))+1=u+(u+n) - 1 - (u+i) by omega,show u+(n - 1 - (i+1))=u+(u+n) - 1 - (u+i+1) by omega]at this;exact this
   ·have ei:i+1=n:=by omega
    rw[if_neg (by omega),if_pos (by omega),show u+i+1=u+n by omega,show u+(u+n) - 1 - (u+i)=u by omega];exact M.tr _ _ _ rm (M.no _ _ hl)
 ·rw[if_neg h1]
  refine Sq.rnP M hG hP hz b1 (by omega) (fun i hi=>?_) h
  have ei:i=0:=by omega
  have en:n=1:=by omega
  subst ei en;exact rm
end
end EM
namespace EM
open PySem PySem.W PyProof.Rows
section
variable {prog:Ay} {w:Av} {A:Bp} {E:Ab→Ae→Prop} {κ:G6} {it:Array Bg} {Ok:Ae→Prop} {N:Nat} {lt:Nat→Nat→Bool} {R:Nat→Nat→Prop} {α β:Type} {pd:Array (Nat×Nat×Nat)} {g:Nat}
theorem Sq.listX {f:Nat→β→StateT Am Sem (ForInStep β)} {Q:β→Am→Prop} (I:Nat→β→Am→Prop) (b:Nat) (hs:∀x c st,x < b→I x c st→Sq prog w A E Ok (f x c) st (fun r st'=>match r with | .done c'=>Q c' st' | .yield c'=>I (x+1) c' st')) (he:∀c st,I b c st→Q c st):∀(n x:Nat) (c:β) (st:Am),x+n=b→I x c st→Sq prog w A E Ok (forIn (List.range' x n) c f) st Q
 | 0,x,c,st,hl,h=>by
  have e:x=b:=by omega
  subst e;exact fun C s o k=>kasC_nil (k _ _ s o (he c st h))
 | n+1,x,c,st,hl,h=>by
  rw[List.range'_succ];refine fun C s o k=>kasC_cons (hs x c st (by omega) h _ s o fun r st' s' o' p=>?_)
  cases r with
  | done c'=>exact k _ _ s' o' p
  | yield c'=>exact Sq.listX I b hs he n (x+1) c' st' (by omega) p C s' o' k
theorem Sq.rangeX {a b:Nat} {c:β} {f:Nat→β→StateT Am Sem (ForInStep β)} {st:Am} {Q:β→Am→Prop} (I:Nat→β→Am→Prop) (hab:a≤b) (h0:I a c st) (hs:∀x c st,x < b→I x c st→Sq prog w A E Ok (f x c) st (fun r st'=>match r with | .done c'=>Q c' st' | .yield c'=>I (x+1) c' st')) (he:∀c st,I b c st→Q c st):Sq prog w A E Ok (forIn [a:b] c f) st Q:=fun C s o k=>
 kasC_range (Sq.listX I b hs he _ a c st (by omega) h0 C s o k)
theorem PreO.bub {p p':Array Nat} {u k l:Nat} (h:PreO p p' u) (hul:u≤l) (hlk:l≤k) (hk:k < p'.size):PreO p (bubble p' k (k - l)) u:=fun i hi=>by
 rw[Z7 hk hlk,if_neg (by omega),if_neg (by omega)];exact h i hi
theorem Sq.bin (M:CmN prog w A κ it Ok N lt R) {p0 p:Array Nat} {u m ok:Nat} (hG:Ga N p) (hP:PreO p0 p u) (hz:u+m≤N) (h1:1≤ok) (hok:ok≤m) (hA:AscO R p u ok) {Q:Bool→Am→Prop} (h:∀p',Ga N p'→PreO p0 p' u→AscO R p' u m→Q true (stA κ it p' pd g)):Sq prog w A E Ok (binarySort' u m ok) (stA κ it p pd g) Q:=by
 rw[binarySort'_eq,show max ok 1=ok by omega];refine Sq.bind (P1:=fun c st'=>∃p,c=(none,())∧st'=stA κ it p pd g∧Ga N p∧PreO p0 p u∧AscO R p u m) ?_ (by intro _ _ h_;refine xE1 h_ fun p h1_=>nE5 h1_ fun e0_ e1_ b1 b2 b3=>?_;clear h_ h1_;subst e0_;subst e1_; exact Sq.pure (h p b1 b2 b3));refine Sq.rangeX (fun k c st'=>∃p,c=(none,())∧st'=stA κ it p pd g∧Ga N p∧PreO p0 p u∧1≤k∧AscO R p u k) hok ⟨p,rfl,rfl,hG,hP,h1,hA⟩ ?_ (by intro c st' h_;refine xE1 h_ fun p h1_=>nE6 h1_ fun e0_ e1_ b1 b2 _ b3=>?_;clear h_ h1_;subst e0_;subst e1_; exact⟨p,rfl,rfl,b1,b2,b3⟩);clear hG hP hA;intro k c st' hk h_;refine xE1 h_ fun p h1_=>nE6 h1_ fun e0_ e1_ hG hP hk1 a=>?_;clear h_ h1_;subst e0_;subst e1_
 have hks:u+k < p.size:=by rw[hG.sz]; omega
 dsimp only
 refine Sq.bind (P1:=fun c st'=>∃l,c=(none,l,l)∧st'=stA κ it p pd g∧l≤k∧(∀i,i < l→R (p.getD (u+i) 0) (p.getD (u+k) 0))∧∀i,l≤i→i < k→R (p.getD (u+k) 0) (p.getD (u+i) 0)) ?_ ?_
 ·refine Sq.range (fun i c st'=>∃l r,c=(none,l,r)∧st'=stA κ it p pd g∧l≤r∧r≤k∧r - l≤k - i∧(∀i,i < l→R (p.getD (u+i) 0) (p.getD (u+k) 0))∧∀i,r≤i→i < k→R (p.getD (u+k) 0) (p.getD (u+i) 0)) ⟨0,k,rfl,rfl,by omega,by omega,by omega,fun i z=>by omega,fun i z1 z2=>by omega⟩ ?_ ?_
  ·intro i x c st' hi h_;refine xE2 h_ fun l r h1_=>nE7 h1_ fun e0_ e1_ b1 b2 b3 b4 b5=>?_;clear h_ h1_;subst e0_;subst e1_
   dsimp only
   by_cases hlr:l ≥ r
   ·rw[if_pos hlr]
    have e:l=r:=by omega
    subst e;exact Sq.pure ⟨l,rfl,rfl,b2,b4,b5⟩
   ·rw[if_neg hlr]
    refine Sq.at M hG (by omega) (by omega) ?_
    dsimp only
    cases hl:lt (p.getD (u+k) 0) (p.getD (u+(l+r) / 2) 0) with
    | true=>
     rw[if_pos rfl];exact Sq.pure ⟨_,_,rfl,rfl,by omega,by omega,by omega,b4,fun i h4 h5=>M.tr _ _ _ (M.yes _ _ hl) (a.le M h4 h5)⟩
    | false=>
     rw[if_neg Cg];exact Sq.pure ⟨_,_,rfl,rfl,by omega,by omega,by omega,fun i h4=>M.tr _ _ _ (a.le M (i:=i) (j:=(l+r) / 2) (by omega) (by omega)) (M.no _ _ hl),b5⟩
  ·intro c st' h_;refine xE2 h_ fun l r h1_=>nE7 h1_ fun e0_ e1_ b1 b2 b3 b4 b5=>?_;clear h_ h1_;subst e0_;subst e1_
   have e:l=r:=by omega
   subst e;exact⟨l,rfl,rfl,b2,b4,b5⟩
 intro c st' h_;refine xE1 h_ fun l h1_=>nE5 h1_ fun e0_ e1_ y1 y2 y3=>?_;clear h_ h1_;subst e0_;subst e1_
 dsimp only
 refine Sq.down ?_;refine Sq.pure ⟨_,rfl,rfl,hG.bub _ _,hP.bub (by omega) (by omega) hks,by omega,fun i hi=>?_⟩;rw[Z7 hks (by omega),Z7 hks (by omega)]
 by_cases c1:i=l
 ·rw[if_pos (by omega),if_neg (by omega),if_pos (by omega),show u+i+1 - 1=u+l by omega]
  exact y3 l (Ax _) (by omega)
 ·rw[if_neg (by omega)]
  by_cases c2:l < i
  ·rw[if_pos (by omega),if_neg (by omega),if_pos (by omega)]
   have:=a (i - 1) (by omega);rw[show u+(i - 1)+1=u+i+1 - 1 by omega,show u+(i - 1)=u+i - 1 by omega]at this;exact this
  ·rw[if_neg (by omega)]
   by_cases c3:i+1=l
   ·rw[if_pos (by omega)]
    exact y2 i (by omega)
   ·rw[if_neg (by omega),if_neg (by omega)]
    exact a i (by omega)
theorem Zrk (M:CmN prog w A κ it Ok N lt R) {l:Bool} {k v:Nat} {P X T:List Nat} (sx:X.Pairwise R) (G:Gal lt l k (P++(X++T)) P.length X.length v v):v≤X.length∧(∀x∈X.take v,R x k)∧∀x∈X.drop v,R k x:=by
 have ge:∀i,i < X.length→(P++(X++T))[P.length+i]?=X[i]?:=fun i hi=>by
  rw[Gk (by omega),Uc,Hm hi]
 have vn:=G.vn;refine⟨vn,?_,?_⟩
 ·rcases G.lo with e | ⟨z,hz,hf⟩
  ·rw[e]
   intro x hx;simp at hx
  ·cases v with
   | zero=>intro x hx; simp at hx
   | succ v=>
    rw[Ni,ge v (by omega)]at hz;exact fun x hx=>M.tr _ _ _ (Vo M sx hz x hx) (ak M hf)
 ·rcases G.hi with e | ⟨z,hz,hf⟩
  ·rw[e,List.drop_length]
   intro x hx
   cases hx
  ·by_cases hv:v < X.length
   ·rw[ge v hv]at hz
    exact fun x hx=>M.tr _ _ _ (ao M hf) (LR M (sx.sublist (Ua _ _)) (KH hz).1 x hx)
   ·rw[Lf (by omega)]
    intro x hx
    cases hx
theorem ZyY {α:Type}:∀(z pre old suf:List α) (t:Nat),old.length=z.length→pre.length=t→(z.zipIdx.foldl (fun(a:Array α) (x:α×Nat)=>a.setIfInBounds (t+x.2) x.1) (pre++(old++suf)).toArray)=(pre++(z++suf)).toArray:=by
 have key:∀(z:List α) (n:Nat) (pre old suf:List α) (t:Nat),old.length=z.length→pre.length=t+n→((z.zipIdx n).foldl (fun(a:Array α) (x:α×Nat)=>a.setIfInBounds (t+x.2) x.1) (pre++(old++suf)).toArray)=(pre++(z++suf)).toArray:=by
  intro z
  induction z with
  | nil=>
   intro n pre old suf t h1 h2;have:old=[]:=Ud.mp h1;subst this;rfl
  | cons x z ih=>
   intro n pre old suf t h1 h2
   cases old with
   | nil=>simp at h1
   | cons y old=>
    rw[List.zipIdx_cons,Ybh]
    have e:(pre++(y::old++suf)).toArray.setIfInBounds (t+n) x=((pre++[x])++(old++suf)).toArray:=by
     rw[Ybi,Ybj _ _ (by omega),h2,Gv];simp
    show Ybk _ ((pre++(y::old++suf)).toArray.setIfInBounds (t+n) x) _=_;rw[e,ih (n+1) (pre++[x]) old suf t (by simpa using h1) (by rw[Ca,Ei]; omega)];simp
 intro z pre old suf t h1 h2;exact key z 0 pre old suf t h1 (by omega)
theorem Sq.setB {s':Am} {f:PUnit→StateT Am Sem β} {st:Am} {Q:β→Am→Prop} (h:Sq prog w A E Ok (f ⟨⟩) s' Q):Sq prog w A E Ok ((Ydp s':StateT Am Sem PUnit) >>= f) st Q:=fun C s o k=>by
 have:=h C s o k;unfold kasC at this ⊢;rw[StateT.run_bind,StateT.run_set];exact Af (Aq this)
theorem Sq.mat (M:CmN prog w A κ it Ok N lt R) {P X Y S:List Nat} {i p p2:Nat} (hn:∀x∈P++(X++(Y++S)),x < N) (sx:X.Pairwise R) (sy:Y.Pairwise R) (x1:X≠[]) (y1:Y≠[]) (ha:pd[i]?=some (P.length,X.length,p)) (hb:pd[i+1]?=some (P.length+X.length,Y.length,p2)) {Q:Bool→Am→Prop} (h:∀Z g',Z.Pairwise R→Z.Perm (X++Y)→Q true (stt κ it (P++(Z++S)) ((pd.setIfInBounds i (P.length,X.length+Y.length,p)).eraseIdxIfInBounds (i+1)) g')):Sq prog w A E Ok (mergeAt' i) (stt κ it (P++(X++(Y++S))) pd g) Q:=by
 rw[ZyB];refine Sq.getB ?_;have e1:pendingOf (stt κ it (P++(X++(Y++S))) pd g)=pd:=rfl;have e2:arrOf (stt κ it (P++(X++(Y++S))) pd g)=ar it (P++(X++(Y++S))):=rfl;rw[e1,ha,hb]
 dsimp only
 refine Sq.setB ?_;generalize ((pd.setIfInBounds i (P.length,X.length+Y.length,p)).eraseIdxIfInBounds (i+1))=pd' at h ⊢;show Sq prog w A E Ok _ (stt κ it (P++(X++(Y++S))) pd' g) Q;have lx:0 < X.length:=YB.mpr x1;have ly:0 < Y.length:=YB.mpr y1;obtain⟨y0,hy0,hy0m⟩:=Ik (xs:=Y) (i:=0) ly;obtain⟨xl,hxl,hxlm⟩:=Ik (xs:=X) (i:=X.length - 1) (by omega);have hnx:∀x∈X,x < N:=fun x hx=>hn x (by simp[hx]);have hny:∀x∈Y,x < N:=fun x hx=>hn x (by simp[hx])
 have gy0:(P++(X++(Y++S)))[P.length+X.length]?=some y0:=by
  rw[Gk (by omega),Gk (by omega),show P.length+X.length - P.length - X.length=0 by omega,Hm ly];exact hy0
 rw[e2];refine Sq.elemB gy0 ?_;refine Sq.galB M (hny y0 hy0m) hn (by simp only [Ca]; omega) lx fun k K=>?_;obtain⟨kx,f1,f2⟩:=Zrk M sx K
 dsimp only
 have aY:∀y∈Y,R y0 y:=LR M sy hy0;have aX:∀x∈X,R x xl:=fun x hx=>Vo M sx hxl x (by rw[show X.length - 1+1=X.length by omega,Ib]; exact hx)
 have same:(∀x∈X,∀y∈Y,R x y)→Q true (stt κ it (P++(X++(Y++S))) pd' g):=fun c=>by
  have:=h (X++Y) g (FW.mpr ⟨sx,sy,c⟩) (RB _);rw[Du]at this;exact this
 by_cases e3:X.length - k=0
 ·rw[if_pos (by rw[e3]; rfl)]
  refine Sq.pure (same fun x hx y hy=>M.tr _ _ _ (f1 x ?_) (aY y hy));rw[Nf (by omega)];exact hx
 rw[if_neg (by simpa using e3)]
 have gxl:(P++(X++(Y++S)))[P.length+k+(X.length - k) - 1]?=some xl:=by
  rw[Gk (by omega),Hm (by omega),←hxl]
  congr 1
  omega
 refine Sq.elemB gxl ?_
 have eb:P++(X++(Y++S))=(P++X)++(Y++S):=by rw[Du]
 have lb:P.length+X.length=(P++X).length:=by rw[Ca]
 refine Sq.galB M (hnx xl hxlm) hn (by simp only [Ca]; omega) (by omega) fun k2 K2=>?_;rw[eb,lb]at K2;obtain⟨ky,f3,f4⟩:=Zrk M sy K2
 dsimp only
 by_cases e4:k2=0
 ·rw[if_pos (by rw[e4]; rfl)]
  refine Sq.pure (same fun x hx y hy=>M.tr _ _ _ (aX x hx) (f4 y ?_));rw[e4];exact hy
 rw[if_neg (by simpa using e4)]
 have ex:(ar it (P++(X++(Y++S)))).extract (P.length+k) (P.length+X.length)=ar it (X.drop k):=by
  rw[LQ,List.drop_append,Lf (by omega),Lg,show P.length+k - P.length=k by omega,List.drop_append_of_le_length kx,Ybl (by rw[G4]; omega),Nf (by rw[G4]; omega)]
 have ey:(ar it (P++(X++(Y++S)))).extract (P.length+X.length) (P.length+X.length+k2)=ar it (Y.take k2):=by
  rw[LQ,eb,lb,List.drop_left,Uc,Ybl ky]
 rw[ex,ey]
 have D:Two R N (X.drop k) (Y.take k2):=by
  refine⟨fun x hx=>hnx x (Ub hx),fun y hy=>hny y (Rz hy),sx.sublist (Ua _ _),sy.sublist (Yb _ _),?_,xl,?_,f3⟩
  ·obtain⟨x0,hx0,hx0m⟩:=Ik (xs:=X.drop k) (i:=0) (by rw[G4]; omega)
   exact⟨x0,y0,hx0,by rw[YaH (by omega)]; exact hy0,f2 x0 hx0m⟩
  ·rw[Yy,G4,←hxl]
   congr 1
   omega
 have fin:∀(o:Array Bg) (g':Nat),Mrg R it (X.drop k) (Y.take k2) o→Sq prog w A E Ok ((do
   _root_.modify (au o (P.length+k))
   let s ←ye
   Pure.pure (failedOf s).isNone:StateT Am Sem Bool)) (stt κ it (P++(X++(Y++S))) pd' g') Q:=by
  rintro o g' ⟨zl,rfl,sz,pz⟩;refine Sq.modB ?_
  have est:au (ar it zl) (P.length+k) (stt κ it (P++(X++(Y++S))) pd' g')=stt κ it (P++((X.take k++(zl++Y.drop k2))++S)) pd' g':=by
   have hz:(X.drop k++Y.take k2).length=zl.length:=pz.length_eq.symm
   have e5:P++(X++(Y++S))=(P++X.take k)++((X.drop k++Y.take k2)++(Y.drop k2++S)):=by
    simp only [Du];rw[←Du (Y.take k2),Ht,←Du (X.take k),Ht]
   have e6:P++((X.take k++(zl++Y.drop k2))++S)=(P++X.take k)++(zl++(Y.drop k2++S)):=by simp only [Du]
   show Fx κ (Ybk (fun(a:Array Bg) (x:Bg×Nat)=>a.setIfInBounds (P.length+k+x.2) x.1) ((P++(X++(Y++S))).map (BX it)).toArray (ar it zl).toList.zipIdx) pd' g' none=Fx κ ((P++((X.take k++(zl++Y.drop k2))++S)).map (BX it)).toArray pd' g' none;have:=ZyY (zl.map (BX it)) ((P++X.take k).map (BX it)) ((X.drop k++Y.take k2).map (BX it)) ((Y.drop k2++S).map (BX it)) (P.length+k) (by rw[Az,Az,hz]) (by rw[Az,Ca,Fb]; omega);rw[e5,e6,Dh,Dh (l₁:=X.drop k++Y.take k2),Dh (l₁:=P++X.take k),Dh (l₁:=zl)];exact congrArg (fun a=>Fx κ a pd' g' none) this
  rw[est];refine Sq.getB ?_;refine Sq.pure (h _ g' ?_ ?_)
  ·have mz:∀z∈zl,z∈X.drop k∨z∈Y.take k2:=fun z hz=>Hj.mp (pz.mem_iff.mp hz)
   rw[FW,FW];refine⟨sx.sublist (Yb _ _),⟨sz,sy.sublist (Ua _ _),fun z hz y hy=>?_⟩,fun x hx z hz=>?_⟩
   ·rcases mz z hz with hz | hz
    ·exact M.tr _ _ _ (aX z (Ub hz)) (f4 y hy)
    ·have:=sy
     rw[←Ht k2 Y,FW]at this;exact this.2.2 z hz y hy
   ·rcases Hj.mp hz with hz | hz
    ·rcases mz z hz with hz | hz
     ·have:=sx
      rw[←Ht k X,FW]at this;exact this.2.2 x hx z hz
     ·exact M.tr _ _ _ (f1 x hx) (aY z (Rz hz))
    ·exact M.tr _ _ _ (f1 x hx) (aY z (Ub hz))
  ·have q1:(X.take k++(zl++Y.drop k2)).Perm (X.take k++((X.drop k++Y.take k2)++Y.drop k2)):=Rw _ (Yz _ pz)
   refine q1.trans ?_;rw[Du,Ht,←Du,Ht]
 split
 ·refine Sq.bind (P1:=fun o st'=>∃g',Mrg R it (X.drop k) (Y.take k2) o∧st'=stt κ it (P++(X++(Y++S))) pd' g') (Sq.mlo M D fun o g' hM=>⟨g',hM,rfl⟩) ?_
  rintro o st' ⟨g',hM,rfl⟩;exact fin o g' hM
 ·refine Sq.bind (P1:=fun o st'=>∃g',Mrg R it (X.drop k) (Y.take k2) o∧st'=stt κ it (P++(X++(Y++S))) pd' g') (Sq.mhi M D fun o g' hM=>⟨g',hM,rfl⟩) ?_
  rintro o st' ⟨g',hM,rfl⟩;exact fin o g' hM
end
end EM
namespace EM
open PySem PySem.W PyProof.Rows
noncomputable def srF:StateT Am Sem (ForInStep (Option Unit×Unit)):=do
 let p:=pendingOf (←get)
 if p.size≤1 then return .done (none,())
 let i:=p.size - 2
 let b:=if i > 0 then p[i - 1]?.map (·.2.1) else none
 let i:=if b.any (· < (p[i+1]?.elim 0 (·.2.1))) then i - 1 else i
 if !(←mergeAt' i) then return .done (some (),())
 return .yield (none,())
noncomputable def srM (o:Nat):StateT Am Sem (ForInStep (Option Unit×Unit)):=do
 let p:=pendingOf (←get)
 let some (_,_,c):=(if p.size > 1 then p[p.size - 2]? else none) | return .done (none,())
 if c≤o then return .done (none,())
 if !(←mergeAt' (p.size - 2)) then return .done (some (),())
 return .yield (none,())
noncomputable def srQ (u n:Nat):StateT Am Sem (ForInStep (Option Unit×Nat)):=do
 modify fun s=>setPending s ((pendingOf s).push (u,n,0))
 return .yield (none,u+n)
noncomputable def srP (z u n:Nat):StateT Am Sem (ForInStep (Option Unit×Nat)):=do
 if let some (a,b,_):=(pendingOf (←get)).back? then
  let t:Option Unit×Unit ←forIn [0:z] (none,()) fun _ _=>srM (power' z (2 * a+b) (2 * a+b+b+n) z)
  match t.1 with
  | some r=>return .done (some r,u)
  | none=>
   modify fun s=>setPending s ((pendingOf s).modify ((pendingOf s).size - 1) fun(x,y,_)=>(x,y,power' z (2 * a+b) (2 * a+b+b+n) z))
   srQ u n
 else srQ u n
noncomputable def srA (z r u:Nat):StateT Am Sem (ForInStep (Option Unit×Nat)):=do
 if u ≥ z then return .done (none,u)
 let some n ←countRun' u (z - u) | return .done (some (),u)
 if n < r then
  PySem.rule "list.sort.binary-insertion"
  if !(←binarySort' u (min (z - u) r) n) then return .done (some (),u)
  srP z u (min (z - u) r)
 else srP z u n
theorem Vq:sortRuns'=(do
  let st ←get
  let s:Option Unit×Nat ←forIn [0:(arrOf st).size] (none,0) fun _ s=>srA (arrOf st).size (minRun' (arrOf st).size (arrOf st).size 0) s.2
  match s.1 with
  | some r=>return r
  | none=>
   let t:Option Unit×Unit ←forIn [0:(arrOf st).size] (none,()) fun _ _=>srF
   match t.1 with
   | some r=>return r
   | none=>return ()):=by
 rw[sortRuns'_eq];unfold srA srP srQ srM srF
 dsimp only
 congr 1
 funext st
 congr 1
 ·congr 1
  funext _ s
  split
  ·rfl
  ·congr 1
   funext x
   cases x with
   | none=>rfl
   | some n=>
    dsimp only
    split
    ·congr 1
     funext _
     congr 1
     funext b
     split
     ·rfl
     ·congr 1
      funext st2
      cases hb:(pendingOf st2).back? with
      | none=>rfl
      | some t=>
       obtain⟨a,b,c⟩:=t
       dsimp only
       congr 1
       funext t
       obtain⟨t1,t2⟩:=t
       cases t1 <;> rfl
    ·congr 1
     funext st2
     cases hb:(pendingOf st2).back? with
     | none=>rfl
     | some t=>
      obtain⟨a,b,c⟩:=t
      dsimp only
      congr 1
      funext t
      obtain⟨t1,t2⟩:=t
      cases t1 <;> rfl
 ·funext s
  obtain⟨s1,s2⟩:=s
  cases s1 with
  | some r=>rfl
  | none=>
   dsimp only
   congr 1
   funext t
   obtain⟨t1,t2⟩:=t
   cases t1 <;> rfl
end EM
namespace EM
open PySem PySem.W PyProof.Rows
inductive Cov (R:Nat→Nat→Prop):Nat→List (List Nat)→List (Nat×Nat×Nat)→Prop
 | nil {a:Nat}:Cov R a [] []
 | cons {a p:Nat} {X:List Nat} {Xs:List (List Nat)} {q:List (Nat×Nat×Nat)}:X≠[]→X.Pairwise R→Cov R (a+X.length) Xs q→Cov R a (X::Xs) ((a,X.length,p)::q)
section
variable {prog:Ay} {w:Av} {A:Bp} {E:Ab→Ae→Prop} {κ:G6} {it:Array Bg} {Ok:Ae→Prop} {N:Nat} {lt:Nat→Nat→Bool} {R:Nat→Nat→Prop} {α β:Type} {g:Nat}
theorem Cov.len:∀{Xs:List (List Nat)} {a:Nat} {q:List (Nat×Nat×Nat)},Cov R a Xs q→Xs.length=q.length∧q.length≤Xs.flatten.length
 | _,_,_,.nil=>⟨rfl,Ax _⟩
 | _,_,_,.cons (X:=X) h _ r=>by
  obtain⟨a,b⟩:=r.len;have:=YB.mpr h;simp only [Ds,YC,Ca];omega
theorem Cov.two {X Y:List Nat}:∀{Us Vs:List (List Nat)} {a:Nat} {q:List (Nat×Nat×Nat)},Cov R a (Us++X::Y::Vs) q→∃qu qv p p2,q=qu++(a+Us.flatten.length,X.length,p)::(a+Us.flatten.length+X.length,Y.length,p2)::qv∧qu.length=Us.length∧X≠[]∧Y≠[]∧X.Pairwise R∧Y.Pairwise R∧∀Z:List Nat,Z.Pairwise R→Z.length=X.length+Y.length→Cov R a (Us++Z::Vs) (qu++(a+Us.flatten.length,X.length+Y.length,p)::qv)
 | [],Vs,a,q,h=>by
  cases h with
  | cons h1 h2 r=>
   rename_i p q1
   cases r with
   | cons h3 h4 r=>
    rename_i p2 qv
    refine⟨[],qv,p,p2,by simp,rfl,h1,h3,h2,h4,fun Z hZ hl=>?_⟩
    have hz:Z≠[]:=fun e=>by rw[e]at hl; have:=YB.mpr h1; simp at hl; omega
    have:=Cov.cons (a:=a) (p:=p) (X:=Z) hz hZ (by rw[hl,←Nk]; exact r);rw[hl]at this
    simpa using this
 | U::Us,Vs,a,_,.cons (p:=p0) (q:=q1) h1 h2 r=>by
  obtain⟨qu,qv,p,p2,e,el,x1,x2,x3,x4,k⟩:=Cov.two (Us:=Us) (Vs:=Vs) r;refine⟨(a,U.length,p0)::qu,qv,p,p2,?_,by simp[el],x1,x2,x3,x4,fun Z hZ hl=>?_⟩
  ·rw[e]
   simp only [YC,Ca,YD,Nk]
  ·have:=Cov.cons (p:=p0) h1 h2 (k Z hZ hl)
   simp only [YC,Ca,YD,Nk]at this ⊢;exact this
theorem Cov.snoc {X:List Nat} (h1:X≠[]) (h2:X.Pairwise R) {p:Nat}:∀{Xs:List (List Nat)} {a:Nat} {q:List (Nat×Nat×Nat)},Cov R a Xs q→Cov R a (Xs++[X]) (q++[(a+Xs.flatten.length,X.length,p)])
 | _,a,_,.nil=>by simpa using Cov.cons (a:=a) (p:=p) h1 h2 .nil
 | _,a,_,.cons (X:=Y) (Xs:=Xs) h3 h4 r=>by
  have:=Cov.snoc h1 h2 (p:=p) r;rw[Nk,←Ca,←YC]at this;exact .cons h3 h4 this
theorem Cov.pow (f:Nat→Nat):∀{Xs:List (List Nat)} {a:Nat} {q:List (Nat×Nat×Nat)} (i:Nat),Cov R a Xs q→Cov R a Xs (q.modify i fun x=>(x.1,x.2.1,f x.2.2))
 | _,a,_,0,.nil=>.nil
 | _,a,_,i+1,.nil=>.nil
 | _,a,_,0,.cons h3 h4 r=>.cons h3 h4 r
 | _,a,_,i+1,.cons h3 h4 r=>by
  rw[List.modify_succ_cons];exact .cons h3 h4 (Cov.pow f i r)
structure SrI (R:Nat→Nat→Prop) (N:Nat) (l:List Nat) (Xs:List (List Nat)) (T:List Nat) (q:List (Nat×Nat×Nat)):Prop where
 el:l=Xs.flatten++T
 pm:l.Perm (Cd N)
 cv:Cov R 0 Xs q
theorem SrI.lo {l:List Nat} {Xs:List (List Nat)} {T:List Nat} {q:List (Nat×Nat×Nat)} (h:SrI R N l Xs T q):∀x∈l,x < N:=fun x hx=>by simpa using h.pm.mem_iff.mp hx
theorem Sq.matC (M:CmN prog w A κ it Ok N lt R) {l:List Nat} {Xs:List (List Nat)} {T:List Nat} {q:List (Nat×Nat×Nat)} {i:Nat} (I:SrI R N l Xs T q) (hi:i+1 < q.length) {Q:Bool→Am→Prop} (h:∀l' Xs' q' g',SrI R N l' Xs' T q'→q'.length+1=q.length→Xs'.flatten.length=Xs.flatten.length→Q true (stt κ it l' q'.toArray g')):Sq prog w A E Ok (mergeAt' i) (stt κ it l q.toArray g) Q:=by
 have hxl:=I.cv.len.1
 obtain⟨Us,X,Y,Vs,rfl,rfl⟩ : ∃Us X Y Vs,Xs=Us++X::Y::Vs∧i=Us.length:=by
  refine⟨Xs.take i,Xs[i],Xs[i+1],Xs.drop (i+2),?_,by rw[Fb]; omega⟩
  conv=>lhs; rw[←Ht i Xs]
  rw[yp (by omega),yp (by omega)]
 obtain⟨qu,qv,p,p2,rfl,elq,x1,x2,x3,x4,k⟩:=I.cv.two;rw[Ry]at k ⊢
 have el:l=Us.flatten++(X++(Y++(Vs.flatten++T))):=by rw[I.el]; simp
 have pd1:(qu++(Us.flatten.length,X.length,p)::(Us.flatten.length+X.length,Y.length,p2)::qv).toArray[Us.length]?=some (Us.flatten.length,X.length,p):=by
  rw[Nm,Gk (by omega),elq,Gv]; rfl
 have pd2:(qu++(Us.flatten.length,X.length,p)::(Us.flatten.length+X.length,Y.length,p2)::qv).toArray[Us.length+1]?=some (Us.flatten.length+X.length,Y.length,p2):=by
  rw[Nm,Gk (by omega),elq,Uc]; rfl
 have hN:=I.lo;have pm:=I.pm;rw[el]at hN pm ⊢;refine Sq.mat M hN x3 x4 x1 x2 pd1 pd2 fun Z g' sz pz=>?_;have hzl:=pz.length_eq;rw[Ca]at hzl
 have e5:((qu++(Us.flatten.length,X.length,p)::(Us.flatten.length+X.length,Y.length,p2)::qv).toArray.setIfInBounds Us.length (Us.flatten.length,X.length+Y.length,p)).eraseIdxIfInBounds (Us.length+1)=(qu++(Us.flatten.length,X.length+Y.length,p)::qv).toArray:=by
  rw[Ybi,YaS,Ybj _ _ (by omega),elq,Gv,yq,List.eraseIdx_append_of_length_le (by omega),elq,Uc];rfl
 rw[e5];refine h _ (Us++Z::Vs) _ g' ⟨by simp,?_,k Z sz hzl⟩ (by simp only [Ca,Ds]; omega) (by simp[hzl]; omega);refine Ybd (Rw _ ?_) pm;rw[←Du X];exact Yz _ pz
theorem Sq.srF (M:CmN prog w A κ it Ok N lt R) {l:List Nat} {Xs:List (List Nat)} {q:List (Nat×Nat×Nat)} (I:SrI R N l Xs [] q) {Q:ForInStep (Option Unit×Unit)→Am→Prop} (h1:q.length≤1→Q (.done (none,())) (stt κ it l q.toArray g)) (h2:∀l' Xs' q' g',SrI R N l' Xs' [] q'→q'.length+1=q.length→Q (.yield (none,())) (stt κ it l' q'.toArray g')):Sq prog w A E Ok EM.srF (stt κ it l q.toArray g) Q:=by
 unfold EM.srF;refine Sq.getB ?_;have e1:pendingOf (stt κ it l q.toArray g)=q.toArray:=rfl;rw[e1]
 dsimp only
 by_cases hz:q.toArray.size≤1
 ·rw[if_pos hz]
  exact Sq.pure (h1 (by simpa using hz))
 rw[if_neg hz]
 have hz : ¬q.length≤1:=by simpa using hz
 have hsz:q.toArray.size=q.length:=by simp
 rw[hsz];refine Sq.bind (P1:=fun b st'=>b=true∧∃l' Xs' q' g',st'=stt κ it l' q'.toArray g'∧SrI R N l' Xs' [] q'∧q'.length+1=q.length) (Sq.matC M I ?_ fun l' Xs' q' g' I' hl _=>⟨rfl,l',Xs',q',g',rfl,I',hl⟩) ?_
 ·(repeat' split) <;> omega
 rintro b st' ⟨rfl,l',Xs',q',g',rfl,I',hl⟩;exact Sq.pure (h2 l' Xs' q' g' I' hl)
theorem Sq.srM (M:CmN prog w A κ it Ok N lt R) {l:List Nat} {Xs:List (List Nat)} {T:List Nat} {q:List (Nat×Nat×Nat)} {o:Nat} (I:SrI R N l Xs T q) {Q:ForInStep (Option Unit×Unit)→Am→Prop} (h1:Q (.done (none,())) (stt κ it l q.toArray g)) (h2:∀l' Xs' q' g',SrI R N l' Xs' T q'→Xs'.flatten.length=Xs.flatten.length→Q (.yield (none,())) (stt κ it l' q'.toArray g')):Sq prog w A E Ok (EM.srM o) (stt κ it l q.toArray g) Q:=by
 unfold EM.srM;refine Sq.getB ?_;have e1:pendingOf (stt κ it l q.toArray g)=q.toArray:=rfl;rw[e1]
 dsimp only
 split
 ·rename_i x y c hc
  split
  ·exact Sq.pure h1
  ·have hz:1 < q.length:=by
    by_cases hz:q.toArray.size > 1
    ·simpa using hz
    ·rw[if_neg hz]at hc
     cases hc
   have hsz:q.toArray.size=q.length:=by simp
   rw[hsz];refine Sq.bind (P1:=fun b st'=>b=true∧∃l' Xs' q' g',st'=stt κ it l' q'.toArray g'∧SrI R N l' Xs' T q'∧Xs'.flatten.length=Xs.flatten.length) (Sq.matC M I (by omega) fun l' Xs' q' g' I' hl hf=>⟨rfl,l',Xs',q',g',rfl,I',hf⟩) ?_;rintro b st' ⟨rfl,l',Xs',q',g',rfl,I',hf⟩;exact Sq.pure (h2 l' Xs' q' g' I' hf)
 ·exact Sq.pure h1
theorem SrI.more {l:List Nat} {Xs:List (List Nat)} {X T:List Nat} {q:List (Nat×Nat×Nat)} (I:SrI R N l Xs (X++T) q) (h1:X≠[]) (h2:X.Pairwise R):SrI R N l (Xs++[X]) T (q++[(Xs.flatten.length,X.length,0)]):=by
 have:=I.cv.snoc h1 h2 (p:=0);rw[Ry]at this;exact⟨by rw[I.el]; simp,I.pm,this⟩
theorem Sq.srP (M:CmN prog w A κ it Ok N lt R) {l:List Nat} {Xs:List (List Nat)} {X T:List Nat} {q:List (Nat×Nat×Nat)} {z u n:Nat} (I:SrI R N l Xs (X++T) q) (hu:Xs.flatten.length=u) (hn:X.length=n) (h1:X≠[]) (h2:X.Pairwise R) {Q:ForInStep (Option Unit×Nat)→Am→Prop} (h:∀l' Xs' q' g',SrI R N l' Xs' T q'→Xs'.flatten.length=u+n→Q (.yield (none,u+n)) (stt κ it l' q'.toArray g')):Sq prog w A E Ok (EM.srP z u n) (stt κ it l q.toArray g) Q:=by
 have fin:∀(l:List Nat) (Xs:List (List Nat)) (q:List (Nat×Nat×Nat)) (g:Nat),SrI R N l Xs (X++T) q→Xs.flatten.length=u→Sq prog w A E Ok (srQ u n) (stt κ it l q.toArray g) Q:=fun l Xs q g I hu=>by
  unfold srQ;refine Sq.modB ?_;have I2:=I.more h1 h2;rw[hu,hn]at I2;have:=h l _ _ g I2 (by simp[hu,hn]);refine Sq.pure ?_
  have e:setPending (stt κ it l q.toArray g) ((pendingOf (stt κ it l q.toArray g)).push (u,n,0))=stt κ it l (q++[(u,n,0)]).toArray g:=by
   show Fx κ (l.map (BX it)).toArray (q.toArray.push (u,n,0)) g none=Fx κ (l.map (BX it)).toArray (q++[(u,n,0)]).toArray g none;rw[List.push_toArray]
  rw[e];exact this
 unfold EM.srP;refine Sq.getB ?_
 dsimp only
 split
 ·rename_i a b c hc
  refine Sq.bind (P1:=fun t st'=>t.1=none∧∃l' Xs' q' g',st'=stt κ it l' q'.toArray g'∧SrI R N l' Xs' (X++T) q'∧Xs'.flatten.length=u) ?_ ?_
  ·refine Sq.range (fun i t st'=>t.1=none∧∃l' Xs' q' g',st'=stt κ it l' q'.toArray g'∧SrI R N l' Xs' (X++T) q'∧Xs'.flatten.length=u) ⟨rfl,l,Xs,q,g,rfl,I,hu⟩ ?_ (fun c st' h=>h)
   rintro i _ c st' hi ⟨_,l',Xs',q',g',rfl,I',hu'⟩;exact Sq.srM M I' ⟨rfl,l',Xs',q',g',rfl,I',hu'⟩ fun l2 Xs2 q2 g2 I2 h2=>⟨rfl,l2,Xs2,q2,g2,rfl,I2,h2.trans hu'⟩
  ·rintro⟨t1,t2⟩ st' ⟨rfl,l',Xs',q',g',rfl,I',hu'⟩
   dsimp only
   refine Sq.modB ?_
   have e:setPending (stt κ it l' q'.toArray g') ((pendingOf (stt κ it l' q'.toArray g')).modify ((pendingOf (stt κ it l' q'.toArray g')).size - 1) fun(x,y,_)=>(x,y,power' z (2 * a+b) (2 * a+b+b+n) z))=stt κ it l' (q'.modify (q'.length - 1) fun x=>(x.1,x.2.1,power' z (2 * a+b) (2 * a+b+b+n) z)).toArray g':=by
    show Fx κ (l'.map (BX it)).toArray (q'.toArray.modify (q'.toArray.size - 1) fun x=>(x.1,x.2.1,power' z (2 * a+b) (2 * a+b+b+n) z)) g' none=Fx κ (l'.map (BX it)).toArray _ g' none;rw[List.modify_toArray,Cu]
   rw[e];exact fin l' Xs' _ g' ⟨I'.el,I'.pm,I'.cv.pow (fun _=>power' z (2 * a+b) (2 * a+b+b+n) z) _⟩ hu'
 ·exact fin l Xs q g I hu
theorem ZuJ (M:CmN prog w A κ it Ok N lt R) {F T:List Nat} {p':Array Nat} {n:Nat} (hz:(F++T).length=N) (hG:Ga N p') (hP:PreO (F++T).toArray p' F.length) (hn1:1≤n) (hn:F.length+n≤N) (a:AscO R p' F.length n):∃X T',p'.toList=F++(X++T')∧X.length=n∧X≠[]∧X.Pairwise R:=by
 have hs:=hG.sz
 have gd:∀(p:Array Nat) (k:Nat),p.getD k 0=p.toList.getD k 0:=fun p k=>by
  rw[Kg,Cz,IK]
 have hl:p'.toList.length=N:=by rw[FJ]; exact hs
 have e1:p'.toList.take F.length=F:=by
  apply Yba
  ·rw[Fb]; omega
  ·intro k h1 h2
   have:=hP k h2;rw[gd,gd,Cz,Cz,CJ (by omega)]at this
   have e2:(F++T).toArray.toList[k]?=some F[k]:=by simp[Hm h2]
   rw[e2]at this;rw[Yw];exact this
 refine⟨(p'.toList.drop F.length).take n,(p'.toList.drop F.length).drop n,?_,?_,?_,?_⟩
 ·rw[Ht]
  conv=>lhs; rw[←Ht F.length p'.toList,e1]
 ·rw[Fb,G4]; omega
 ·intro e
  have:=congrArg X8 e;rw[Fb,G4]at this;simp at this;omega
 ·rw[Yx]
  intro i j hi hj hij;rw[Fb,G4]at hi hj;have:=a.le M (i:=i) (j:=j) (by omega) (by omega);rw[gd,gd,Cz,Cz,CJ (by omega),CJ (by omega)]at this;rw[Yw,Yw,Ybm,Ybm];exact this
theorem ZzI {l:List Nat} (h:l.Perm (Cd N)):Ga N l.toArray:=⟨by have:=h.length_eq; simpa using this,by rw[Ybn]; simpa using h⟩
theorem Sq.srA (M:CmN prog w A κ it Ok N lt R) {l:List Nat} {Xs:List (List Nat)} {T:List Nat} {q:List (Nat×Nat×Nat)} {r u:Nat} (I:SrI R N l Xs T q) (hu:Xs.flatten.length=u) {Q:ForInStep (Option Unit×Nat)→Am→Prop} (h1:N≤u→Q (.done (none,u)) (stt κ it l q.toArray g)) (h2:∀l' Xs' T' q' g' n,SrI R N l' Xs' T' q'→1≤n→Xs'.flatten.length=u+n→Q (.yield (none,u+n)) (stt κ it l' q'.toArray g')):Sq prog w A E Ok (EM.srA N r u) (stt κ it l q.toArray g) Q:=by
 unfold EM.srA
 by_cases hz:u ≥ N
 ·rw[if_pos hz]
  exact Sq.pure (h1 hz)
 rw[if_neg hz]
 have hlN:l.length=N:=by have:=I.pm.length_eq; simpa using this
 have el:=I.el
 have hlu:u+T.length=N:=by rw[←hlN,el,Ca,hu]
 have hG:=ZzI I.pm;refine Sq.bind (P1:=fun a st'=>∃n p',a=some n∧st'=stA κ it p' q.toArray g∧Run R N l.toArray p' u (N - u) n) ?_ ?_
 ·rw[←Vp]
  exact Sq.cnt M hG (by omega) (by omega) fun n p' hR=>⟨n,p',rfl,rfl,hR⟩
 intro a st' h_;refine xE2 h_ fun n p' h1_=>nE7 h1_ fun e0_ e1_ hG' hP' n1 nm hA=>?_;clear h_ h1_;subst e0_;subst e1_
 dsimp only
 have go:∀(p':Array Nat) (n:Nat),Ga N p'→PreO l.toArray p' u→1≤n→u+n≤N→AscO R p' u n→Sq prog w A E Ok (EM.srP N u n) (stA κ it p' q.toArray g) Q:=fun p' n hG hP n1 nm hA=>by
  subst hu;rw[el]at hP;obtain⟨X,T',e,hX,x1,x2⟩:=ZuJ M (by rw[←el]; exact hlN) hG hP n1 nm hA
  have es:stA κ it p' q.toArray g=stt κ it (Xs.flatten++(X++T')) q.toArray g:=by rw[←e,←Vp,yo]
  rw[es]
  have pm:(Xs.flatten++(X++T')).Perm (Cd N):=by
   rw[←e];have:=Ybn.mp hG.pm
   simpa using this
  exact Sq.srP M ⟨rfl,pm,I.cv⟩ rfl hX x1 x2 fun l' Xs' q' g' I' hl=>h2 l' Xs' T' q' g' n I' n1 hl
 by_cases hr:n < r
 ·rw[if_pos hr]
  refine Sq.ruleB ?_;refine Sq.bind (P1:=fun b st'=>∃p',b=true∧st'=stA κ it p' q.toArray g∧Ga N p'∧PreO l.toArray p' u∧AscO R p' u (min (N - u) r)) (Sq.bin M hG' hP' (by omega) n1 (by omega) hA fun p2 b1 b2 b3=>⟨p2,rfl,rfl,b1,b2,b3⟩) ?_;intro b st' h_;refine xE1 h_ fun p2 h1_=>nE5 h1_ fun e0_ e1_ b1 b2 b3=>?_;clear h_ h1_;subst e0_;subst e1_;exact go p2 _ b1 b2 (by omega) (by omega) b3
 ·rw[if_neg hr]
  exact go p' n hG' hP' n1 (by omega) hA
theorem Sq.runs (M:CmN prog w A κ it Ok N lt R) {Q:Unit→Am→Prop} (h:∀l pd g,l.Perm (Cd N)→l.Pairwise R→Q () (stt κ it l pd g)):Sq prog w A E Ok sortRuns' (stt κ it (Cd N) #[] g) Q:=by
 rw[Vq];refine Sq.getB ?_
 have hz:(arrOf (stt κ it (Cd N) #[] g)).size=N:=by
  show((Cd N).map (BX it)).toArray.size=N;simp
 rw[hz];refine Sq.bind (P1:=fun s st'=>s.1=none∧∃l Xs q g',st'=stt κ it l q.toArray g'∧SrI R N l Xs [] q) ?_ ?_
 ·refine Sq.range (fun i s st'=>∃u l Xs T q g',s=(none,u)∧st'=stt κ it l q.toArray g'∧SrI R N l Xs T q∧Xs.flatten.length=u∧i≤u) ⟨0,_,[],Cd N,[],g,rfl,rfl,⟨rfl,RB _,.nil⟩,rfl,Ax _⟩ ?_ ?_
  ·rintro i _ s st' hi ⟨u,l,Xs,T,q,g',rfl,rfl,I,hu,hiu⟩
   refine Sq.srA M I hu (fun hN=>?_) fun l' Xs' T' q' g' n I' n1 hl=>⟨u+n,l',Xs',T',q',g',rfl,rfl,I',hl,by omega⟩
   have hT:T=[]:=by
    have h1:=I.pm.length_eq;rw[I.el,Ca,hu,G5]at h1;exact Ud.mp (by omega)
   subst hT;exact⟨rfl,l,Xs,q,g',rfl,I⟩
  ·rintro s st' ⟨u,l,Xs,T,q,g',rfl,rfl,I,hu,hiu⟩
   have hT:T=[]:=by
    have h1:=I.pm.length_eq;rw[I.el,Ca,hu,G5]at h1;exact Ud.mp (by omega)
   subst hT;exact⟨rfl,l,Xs,q,g',rfl,I⟩
 rintro⟨s1,s2⟩ st' ⟨rfl,l,Xs,q,g',rfl,I⟩
 dsimp only
 refine Sq.bind (P1:=fun t st'=>t.1=none∧∃l Xs q g',st'=stt κ it l q.toArray g'∧SrI R N l Xs [] q∧q.length≤1) ?_ ?_
 ·refine Sq.range (fun i t st'=>t.1=none∧∃l Xs q g',st'=stt κ it l q.toArray g'∧SrI R N l Xs [] q∧(q.length+i≤N∨q.length≤1)) ⟨rfl,l,Xs,q,g',rfl,I,?_⟩ ?_ ?_
  ·have h1:=I.cv.len.2
   have h2:=I.pm.length_eq;rw[I.el,Ed,G5]at h2;exact .inl (by omega)
  ·rintro i _ t st' hi ⟨_,l,Xs,q,g',rfl,I,hq⟩
   exact Sq.srF M I (fun hl=>⟨rfl,l,Xs,q,g',rfl,I,hl⟩) fun l' Xs' q' g' I' hl=>⟨rfl,l',Xs',q',g',rfl,I',by omega⟩
  ·rintro t st' ⟨h0,l,Xs,q,g',rfl,I,hq⟩
   exact⟨h0,l,Xs,q,g',rfl,I,by omega⟩
 rintro⟨t1,t2⟩ st' ⟨rfl,l,Xs,q,g',rfl,I,hq⟩;refine Sq.pure (h l _ g' I.pm ?_);have el:=I.el;rw[Ed]at el;have hc:=I.cv;have hl:=hc.len.1
 match Xs,q,hc,hl,hq,el with
 | [],_,_,_,_,el=>rw[el]; exact YaX
 | [X],_,.cons _ h2 _,_,_,el=>rw[el]; simpa using h2
 | X::Y::Xs,q,_,hl,hq,_=>simp only [Ds]at hl; omega
end
end EM
namespace L2
open PySem PySem.Spec PyProof.Rows
section
variable {prog:Ay} {w:Av} {A:Bp} {E:Ab→Ae→Prop} {s:Ae}
noncomputable def Ey (h:Ar) (a:Aa) (ws:List Ab):Ar:=((h.update a (DP fun _=>#[])).push (seqObj "tuple" ws.toArray 0)).push (seqObj "list" #[] 0)
theorem Zny {a:Aa} {ws:List Ab} {k:Nat} {κ:G6} {lt:Nat→Nat→Bool} {R:Nat→Nat→Prop} {Pq:Ya7→Ae→Prop} (ho:s.heap.get? a=some (seqObj "list" ws.toArray k)) (h2:2≤ws.length) (fit:ws.length≤100000)
  (hk:∀Q:G6→Ae→Prop,Q κ { s with heap:=Ey s.heap a ws }→Ai (model prog w) A (keyKind' ws.toArray) Q E { s with heap:=Ey s.heap a ws })
  (M:EM.CmN prog w A κ (ws.toArray.zip ws.toArray) (fun s'=>s' = { s with heap:=Ey s.heap a ws }) ws.length lt R)
  (h:∀l:List Nat,l.Perm (Cd ws.length)→l.Pairwise R→Pq (.done (.ret .none)) { s with heap:=sortedHeap s.heap a ws (l.map fun i=>ws.getD i Dd).toArray }):Ai (model prog w) A (Fd.«list.sort» ⟨[.ref a],[]⟩) Pq E s:=by
 have sm : ¬ws.toArray.size < 2:=by rw[Cu]; omega
 have fz:ws.toArray.size≤Bk:=by rw[Cu,Iu]; omega
 have ha:=BR ho;rw[Ya8];refine Af (listItems_at ho rfl (Af (Yp ho rfl ?_ fz (Cy _))));obtain⟨c1,hc1⟩ : ∃c,(s.heap.update a (DP fun _=>#[])).get? a=some (seqObj "list" #[] c):=⟨_,Ya9 ho _⟩;refine Af (Yq hc1 rfl (Af (xn ?_ (by simpa using fz))));refine Af (T8 ?_ (Cy _));refine Fq ?_;have hc2:(Ey s.heap a ws).get? a=some (seqObj "list" #[] c1):=BK _ (BK _ hc1);show Ai (model prog w) A _ Pq E { s with heap:=Ey s.heap a ws }
 dsimp only
 rw[if_neg sm,if_neg sm];refine Af (hk _ ?_)
 have iz:(ws.toArray.zip ws.toArray).size=ws.length:=by simp
 have est:Fx κ (ws.toArray.zip ws.toArray) #[] 7 none=EM.stt κ (ws.toArray.zip ws.toArray) (Cd ws.length) #[] 7:=by
  have e:=PySem.W.kas_range (ws.toArray.zip ws.toArray);rw[iz,ym]at e;unfold EM.stt;rw[e]
 rw[est];refine Af (EM.Sq.runs (E:=E) M (g:=7) (Q:=fun _ st'=>∃l pd g,l.Perm (Cd ws.length)∧l.Pairwise R∧st'=EM.stt κ (ws.toArray.zip ws.toArray) l pd g) (fun l pd g a b=>⟨l,pd,g,a,b,rfl⟩) (fun _ st' s'=>s' = { s with heap:=Ey s.heap a ws }∧∃l pd g,l.Perm (Cd ws.length)∧l.Pairwise R∧st'=EM.stt κ (ws.toArray.zip ws.toArray) l pd g) _ rfl (fun _ st' s' e q=>⟨e,q⟩) |> fun z=>Dn z ?_ fun _ _ e=>e);rintro⟨⟨⟩,st'⟩ s' ⟨rfl,l,pd,g,pm,pw,rfl⟩
 dsimp only
 have ez:(arrOf (EM.stt κ (ws.toArray.zip ws.toArray) l pd g)).map (·.2)=(l.map fun i=>ws.getD i Dd).toArray:=by
  show((l.map (BX (ws.toArray.zip ws.toArray))).toArray.map (·.2))=_;rw[ym,Ie];exact congrArg Ya5 (RC fun i _=>by show(BX _ i).2=_; rw[PySem.W.kat_item rfl])
 rw[ez]
 have lz:l.length=ws.length:=by have:=pm.length_eq; simpa using this
 refine Af (Yq hc2 rfl (Af (Yp hc2 rfl ?_ (Cy _) (by rw[Cu,Az,Iu]; omega))));have ef:failedOf (EM.stt κ (ws.toArray.zip ws.toArray) l pd g)=none:=rfl;rw[ef];simp only [bne_self_eq_false,Dg,if_false];exact Aq (h l pm pw)
noncomputable def HD (h:Ar) (ws:List Ab):Ar:=((h.push (seqObj "list" #[] 0)).update h.objs.size (DP (· ++ ws.toArray))).push (seqObj "list" ws.toArray 0)
theorem Zv0 (h:Ar) (ws:List Ab):(HD h ws).get? (h.objs.size+1)=some (seqObj "list" ws.toArray 0):=by
 have z1:((h.push (seqObj "list" #[] 0)).update h.objs.size (DP (· ++ ws.toArray))).objs.size=h.objs.size+1:=by rw[Yr,Ys]
 have:=CT ((h.push (seqObj "list" #[] 0)).update h.objs.size (DP (· ++ ws.toArray))) (o:=seqObj "list" ws.toArray 0) rfl;rw[z1]at this;exact this
theorem Zxb {h:Ar} {ws:List Ab} {b:Aa} {o:Obj} (q:h.get? b=some o):(HD h ws).get? b=some o:=by
 have hlt:b < h.objs.size:=BR q
 have z1:((h.push (seqObj "list" #[] 0)).update h.objs.size (DP (· ++ ws.toArray))).objs.size=h.objs.size+1:=by rw[Yr,Ys]
 unfold HD;rw[Ybo _ _ _ (by rw[z1]; exact Ce (Js hlt)),Ybp _ _ _ _ (Ce hlt),Ybo _ _ _ (Ce hlt)];exact q
theorem Zr7 {h:Ar} {a b:Aa} {ws:List Ab} {o:Obj} (hb:b≠a) (q:h.get? b=some o):(Ey h a ws).get? b=some o:=by
 unfold Ey;refine BK _ (BK _ ?_);rw[Ybp _ _ _ _ hb];exact q
theorem Zos {l:Aa} {ws:List Ab} {κ:G6} {lt:Nat→Nat→Bool} {R:Nat→Nat→Prop} {Q:Ab→Ae→Prop} (hl:s.heap.IsList l ws.toArray) (h2:2≤ws.length) (fit:ws.length≤100000)
  (hk:∀Q:G6→Ae→Prop,Q κ { s with heap:=Ey (HD s.heap ws) (s.heap.objs.size+1) ws }→Ai (model prog w) A.in1.in1 (keyKind' ws.toArray) Q E { s with heap:=Ey (HD s.heap ws) (s.heap.objs.size+1) ws })
  (M:EM.CmN prog w A.in1.in1 κ (ws.toArray.zip ws.toArray) (fun s'=>s' = { s with heap:=Ey (HD s.heap ws) (s.heap.objs.size+1) ws }) ws.length lt R)
  (h:∀l:List Nat,l.Perm (Cd ws.length)→l.Pairwise R→Q (.ref (s.heap.objs.size+1)) { s with heap:=sortedAll s.heap ws (l.map fun i=>ws.getD i Dd).toArray }):Ai (model prog w) A (call (.builtin "sorted") [.ref l]) Q E s:=by
 have fz:ws.length≤Bk:=by rw[Iu]; omega
 refine xq xr xu xx (yc _) ?_;unfold Fd.«sorted»;refine Af (m:=checkCount "sorted" 1 1 _) (Aq (Af (collect_list hl ?_ (by rw[Iu]; omega))));refine Af (T8 ?_ fz)
 have z1:((s.heap.push (seqObj "list" #[] 0)).update s.heap.objs.size (DP (· ++ ws.toArray))).objs.size=s.heap.objs.size+1:=by rw[Yr,Ys]
 show Ai _ _ _ _ _ { s with heap:=HD s.heap ws };rw[z1];refine Af (Fq (Gu Yt ⟨_,Zv0 s.heap ws,rfl⟩ Yu (Zny (s:={ s with heap:=HD s.heap ws }) (Zv0 s.heap ws) h2 fit hk M fun l a b=>⟨_,rfl,?_⟩) (Yv _)));exact Aq ⟨_,rfl,h l a b⟩
end
section
variable {X:Cx}
noncomputable def Zy2 (K:Ao):List V→Hp→VK→Prop:=fun xs H Q=>∃l ps ks,xs=[.ref l]∧SqL K H l (ps.map V.ref)∧Bd (Ex H) ps ks∧ps.length≤100000∧
 ∀(l':Aa) (ps':List Aa) (ks':List (Int×Int)),Bd (Ex H) ps' ks'→ps'.Perm ps→ks'.Perm ks→ks'.Pairwise ple→H l'=none→Q (.ref l') (upd H l' (.lst (ps'.map V.ref)))
theorem Zk0:Ha X (.builtin "sorted") (Zy2 X.K):=by
 intro pins s σ H xs us Q I r h;obtain⟨l,ps,ks,rfl,hq,hp,hfit,q⟩:=h;obtain⟨u,rfl,rx⟩:=Jy r
 cases rx
 obtain⟨its,r',pl,hz⟩:=I.list hq;obtain rfl:=Z8 r';have hkl:ps.length=ks.length:=K1 hp;have hvl:(ps.map Be).length=ps.length:=Az _
 by_cases few:ps.length < 2
 ·refine Zqs pl.isList (by rw[hvl]; exact few) ?_
  obtain⟨c,hc⟩:=sortedAll_at s.heap (ps.map Be) (ps.map Be).toArray;have hf:H (s.heap.objs.size+1)=none:=I.hok.fresh (Ia _);refine⟨.ref (s.heap.objs.size+1),_,I.laid (t':=s.toks) (o:=.lst (ps.map V.ref)) (fun b o e=>sortedAll_old e) (Ia _) ⟨hz,_,c,Vl ps,hc⟩,rfl,q _ ps ks hp (RB _) (RB _) ?_ hf⟩
  match ks,hkl with
  | [],_=>exact .nil
  | [k],_=>exact yj _ _
  | a::b::r,e=>rw[e]at few; simp at few; omega
 ·have h0:0 < ps.length:=by omega
  have hlt:∀b o,s.heap.get? b=some o→b≠s.heap.objs.size+1:=fun b o e z=>absurd (BR e) (by rw[z]; exact Nat.not_lt.mpr (Ia _))
  have tup1:∀p k,Ex H p k→∃o t u c,(Ey (HD s.heap (ps.map Be)) (s.heap.objs.size+1) (ps.map Be)).get? p=some o∧o.cls=.type "tuple"∧o.data=.seq #[.int k.1 t,.int k.2 u] c:=fun p k hpk=>by
   obtain⟨o,t,u,c,e,hc,hd⟩:=I.tup_at hpk;exact⟨o,t,u,c,Zr7 (hlt p o e) (Zxb e),hc,hd⟩
  have tups:∀(ps0:List Aa) (ks0:List (Int×Int)),Bd (Ex H) ps0 ks0→∃fs,Ybq (Ey (HD s.heap (ps.map Be)) (s.heap.objs.size+1) (ps.map Be)) (ps0.map Be) fs∧fs.length=ps0.length∧∀v∈fs,∃i t,v=GR i t:=by
   intro ps0 ks0 hp
   induction hp with
   | nil=>exact⟨[],.nil,rfl,fun v z=>nomatch z⟩
   | cons r _ ih=>
    obtain⟨fs,a1,a2,a3⟩:=ih;obtain⟨o,t,u,c,e,hc,hd⟩:=tup1 _ _ r;refine⟨_::fs,.cons e hc hd rfl a1,by simp[a2],fun v hv=>?_⟩
    rcases CZ.mp hv with rfl | hv
    ·exact⟨_,_,rfl⟩
    ·exact a3 v hv
  obtain⟨fs,ft,fl,fi⟩:=tups ps ks hp
  have at_:∀i,i < ps.length→(ps.map Be).getD i Dd=Be (ps.getD i 0):=fun i hi=>by
   simp[Cz,hi]
  have M:EM.CmN X.prog X.w X.A.in1.in1 (tuples' (Fi "int" != Fi "tuple")) ((ps.map Be).toArray.zip (ps.map Be).toArray) (fun s'=>s' = { s with heap:=Ey (HD s.heap (ps.map Be)) (s.heap.objs.size+1) (ps.map Be) }) (ps.map Be).length (fun i j=>pltB (ks.getD i (0,0)) (ks.getD j (0,0))) (fun i j=>ple (ks.getD i (0,0)) (ks.getD j (0,0))):={
   ask:=fun i j hi hj C s' hs hC=>by
    subst hs;have hC:=hC _ rfl;rw[hvl]at hi hj;rw[←Ybr rfl];unfold Ybs;rw[at_ i hi,at_ j hj];obtain⟨o1,t1,u1,c1,g1,_,d1⟩:=tup1 _ _ (Vm hp 0 (0,0) hi);obtain⟨o2,t2,u2,c2,g2,_,d2⟩:=tup1 _ _ (Vm hp 0 (0,0) hj);refine Ybt g1 d1 g2 d2 ?_;refine YF (Tf ?_);unfold pltB at hC;refine YG (fun e=>YH ?_) (fun e=>YJ ?_)
    ·have e:=Rq e
     rw[if_pos e]at hC;refine YF (Tf (YG (fun e'=>YH (Ybu ?_)) (fun e'=>YJ ?_)))
     ·have e':=Rq e'
      rw[e',decide_eq_false (Ybv _)]at hC;exact hC
     ·exact Ybw _ _ (X3 hC)
    ·rw[if_neg (fun z=>by rw[z,beq_self_eq_true]at e; cases e)]at hC
     exact oneLt_int hC
   yes:=fun i j h=>Zpi h
   no:=fun i j h=>Zsp h
   tr:=fun i j k a b=>Z9 a b }
  refine Zos pl.isList (by rw[hvl]; omega) (by rw[hvl]; exact hfit) (fun Q hQ=>?_) M fun ix pm pw=>?_
  ·refine Ybx (T:=.type "int") (s:={ s with heap:=Ey (HD s.heap (ps.map Be)) (s.heap.objs.size+1) (ps.map Be) }) ft (by omega) (fun v hv=>?_) (by decide) hQ
   obtain⟨i,t,rfl⟩:=fi v hv;exact Yby rfl
  ·rw[hvl]at pm
   have hix:∀i∈ix,i < ps.length:=fun i hi=>by simpa using pm.mem_iff.mp hi
   have eo:(ix.map fun i=>(ps.map Be).getD i Dd)=(ix.map fun i=>ps.getD i 0).map Be:=by
    rw[Ie];exact RC fun i hi=>at_ i (hix i hi)
   rw[eo];have hpp:=aa 0 ps pm;have hkk:(ix.map fun i=>ks.getD i (0,0)).Perm ks:=aa (0,0) ks (by rw[←hkl]; exact pm);have hpk:=Znk hp 0 (0,0) ix hix;have hlen:(ix.map fun i=>ps.getD i 0).length=ps.length:=hpp.length_eq;obtain⟨c,hc⟩:=sortedAll_at s.heap (ps.map Be) ((ix.map fun i=>ps.getD i 0).map Be).toArray;have hf:H (s.heap.objs.size+1)=none:=I.hok.fresh (Ia _);refine⟨.ref (s.heap.objs.size+1),_,I.laid (t':=s.toks) (o:=.lst ((ix.map fun i=>ps.getD i 0).map V.ref)) (fun b o e=>sortedAll_old e) (Ia _) ⟨?_,_,c,Vl _,hc⟩,rfl,q _ _ _ hpk hpp hkk ?_ hf⟩
   ·rw[Az,hlen,Iu]; omega
   ·rw[Li]
    exact pw
end
end L2
namespace L2
open PySem PySem.Spec PyProof.Rows
section
variable {X:Cx} {K:Ao} {σ:St} {H:Hp} {Q:VK} {a:Aw} {ta:TE} {pos:Pos}
noncomputable def rSlX:V→Option Int→Option Int→Hp→VK→Prop:=fun x lo hi H Q=>∃z,x=.str z∧z.length≤Bk∧Q (.str (Txt.slice z lo hi)) H
theorem Zzc:SlR X rSlX:=by
 intro pins s σ H x v vl vu lo hi sl Q I rx hs pl pu h;obtain⟨z,rfl,hz,q⟩:=h;obtain⟨t,rfl⟩:=rx;refine⟨"str",_,F.slot_str_getitem.lookup,vm _ _ _,?_⟩;obtain⟨o,ho,hc,hd⟩:=hs
 have fin:∀(l u:Option (Int×Tok)),vl=partValue l→vu=partValue u→l.map (·.1)=lo→u.map (·.1)=hi→Ai (model X.prog X.w) X.A (getItem (.str z t) (.ref sl)) (EP X pins σ Q) X.xe s:=fun l u e1 e2 e3 e4=>by
  subst e1 e2 e3 e4
  exact wpAny_getItem_str_slice (l:=l) (u:=u) (st:=none) ⟨o,ho,hc,hd⟩ rfl
   (post_val_or_str ⟨Eb (Txt.slice_le z _ _) hz,fun t' k=>⟨.str _,H,I.tok k,⟨t',rfl⟩,q⟩⟩)
 have pv:∀{v:Ab} {o:Option Int},J9 v o→∃l:Option (Int×Tok),v=partValue l∧l.map (·.1)=o:=fun {v o} h=>by
  cases h <;> first | exact⟨none,rfl,rfl⟩ | exact⟨some (_,_),rfl,rfl⟩
 obtain⟨l,e1,e3⟩:=pv pl;obtain⟨u,e2,e4⟩:=pv pu;exact fin l u e1 e2 e3 e4
noncomputable def rSlA (K:Ao):V→Option Int→Option Int→Hp→VK→Prop:=fun x lo hi H Q=>rSlG K x lo hi H Q∨rSlX x lo hi H Q
theorem Zy9:SlR X (rSlA X.K):=SlR.or Zzb Zzc
theorem ZzS {p:Aa} {xs ys:List V} {lo hi:Option Int} (h:SqL K H p xs) (e:cutV xs lo hi=ys) (k:∀(l:Aa) (H':Hp),Same H H'→H l=none→H' l=some (.lst ys)→Q (.ref l) H'):rSlA K (.ref p) lo hi H Q:=.inl (j_sl h e k)
end
end L2
namespace L2
open PySem PySem.Spec PyProof.Rows
mutual
noncomputable def DV (H:Hp):Ue→V→Prop
 | .none,v=>v=.non
 | .bool b,v=>v=.bl b
 | .int i,v=>v=.int i
 | .str x,v=>v=.str x
 | .list ds,v=>∃p xs,v=.ref p∧H p=some (.lst xs)∧DVs H ds xs
 | .tuple ds,v=>∃p xs,v=.ref p∧H p=some (.tup xs)∧DVs H ds xs
 | .dict _,_=>False
noncomputable def DVs (H:Hp):List Ue→List V→Prop
 | [],xs=>xs=[]
 | d::ds,xs=>∃v r,xs=v::r∧DV H d v∧DVs H ds r
end
section
variable {X:Cx} {pins:List (Aa×Obj)} {σ:St} {H:Hp} {s:Ae}
mutual
theorem Ma (I:Inv X pins σ H s):∀(d:Ue) (v:V) (u:Ab),DV H d v→RelV v u→∃as,Reads s.heap u d as
 | .none,v,u,h,r=>by
  rw[DV]at h; subst h; cases r; exact⟨_,.none⟩
 | .bool b,v,u,h,r=>by
  rw[DV]at h; subst h; cases r; exact⟨_,.bool b⟩
 | .int i,v,u,h,r=>by
  rw[DV]at h; subst h; obtain⟨t,rfl⟩:=r; exact⟨_,.int i t⟩
 | .str x,v,u,h,r=>by
  rw[DV]at h; subst h; obtain⟨t,rfl⟩:=r; exact⟨_,.str x t⟩
 | .list ds,v,u,h,r=>by
  rw[DV]at h;obtain⟨p,xs,rfl,e,hs⟩:=h
  cases r
  obtain⟨z,its,n,r',e'⟩:=I.hok p _ e;obtain⟨as,ra⟩:=az I ds xs its hs r';exact⟨_,.list e' rfl rfl (by simpa using ra)⟩
 | .tuple ds,v,u,h,r=>by
  rw[DV]at h;obtain⟨p,xs,rfl,e,hs⟩:=h
  cases r
  obtain⟨z,its,r',o,e',hc,n,hd⟩:=I.hok p _ e;obtain⟨as,ra⟩:=az I ds xs its hs r';exact⟨_,.tuple e' hc hd (by simpa using ra)⟩
 | .dict _,v,u,h,r=>by rw[DV]at h; exact h.elim
theorem az (I:Inv X pins σ H s):∀(ds:List Ue) (xs:List V) (us:List Ab),DVs H ds xs→Vals xs us→∃as,ReadsAll s.heap us ds as
 | [],xs,us,h,r=>by
  rw[DVs]at h; subst h; cases r; exact⟨_,.nil⟩
 | d::ds,xs,us,h,r=>by
  rw[DVs]at h;obtain⟨v,r0,rfl,h1,h2⟩:=h
  cases r with
  | cons r1 r2=>
   obtain⟨a1,q1⟩:=Ma I d v _ h1 r1;obtain⟨a2,q2⟩:=az I ds r0 _ h2 r2;exact⟨_,.cons q1 q2⟩
end
noncomputable def rEqD:R2:=fun x y H Q=>∃d1 d2,DV H d1 x∧DV H d2 y∧d1.canLay0=true∧d2.canLay0=true∧d1.depth≤60∧Q (.bl (YK d1 d2)) H
theorem ZyK (hu:X.A.units+64 < cLine):OpR X (compareOp .Eq) rEqD:=by
 intro pins s σ H x y v u Q I rx ry h;obtain⟨d1,d2,h1,h2,c1,c2,hd,q⟩:=h;obtain⟨a1,q1⟩:=Ma I d1 x v h1 rx;obtain⟨a2,q2⟩:=Ma I d2 y u h2 ry;exact SeqAt.compareEq_reads q1 q2 c1 c2 (Kh (Ug (Eb (yr _ _) hd) _) (by omega)) ⟨.bl _,H,I,rfl,q⟩
noncomputable def rEqA:R2:=fun x y H Q=>rEq x y H Q∨rEqD x y H Q
theorem Dl (hu:X.A.units+64 < cLine):OpR X (compareOp .Eq) rEqA:=OpR.or ZzW (ZyK hu)
noncomputable def rNeD:R2:=fun x y H Q=>∃d1 d2,DV H (.list d1) x∧DV H (.list d2) y∧Lj d1=true∧Lj d2=true∧Jt d1≤60∧Q (.bl (!Lk d1 d2)) H
theorem ZyN (hu:X.A.units+64 < cLine):OpR X (compareOp .NotEq) rNeD:=by
 intro pins s σ H x y v u Q I rx ry h;obtain⟨d1,d2,h1,h2,c1,c2,hd,q⟩:=h;obtain⟨a1,q1⟩:=Ma I (.list d1) x v h1 rx;obtain⟨a2,q2⟩:=Ma I (.list d2) y u h2 ry
 cases q1 with
 | @list b1 o vs n _ as1 g1 g2 g3 g4=>
  cases q2 with
  | @list b2 o' vs' n' _ as2 k1 k2 k3 k4=>
   have hl:s.heap.IsList _ vs:=⟨_,g1,g2,_,g3⟩;have hl':s.heap.IsList _ vs':=⟨_,k1,k2,_,k3⟩
   have n1:vs.size=d1.length:=by simpa using YL _ _ _ g4
   have n2:vs'.size=d2.length:=by simpa using YL _ _ _ k4
   have fin:EP X pins σ Q (.bool (!Lk d1 d2)) s:=⟨.bl _,H,I,rfl,q⟩
   by_cases hz:vs.size=vs'.size
   ·refine Ydq hl hl' hz (by omega) (e:=Ybz d1 d2) (fun j j1 j2=>?_) _ _ _ _ ?_
    ·have:=YbA d1 d2 X.A.in1 s vs.toList vs'.toList _ _ g4 k4 c1 c2 (by
      have:X.A.in1.units=X.A.units+1∨X.A.in1.units=X.A.units:=by first | exact .inl rfl | exact .inr rfl
      have h3:=yr (Jt d1) (Jt d2)
      omega) j (by simpa using j1) (by simpa using j2)
     simpa using this
    ·have e:=yt d1 d2
     rw[←n1,←n2,←hz,Nat.min_self,beq_self_eq_true,Hs]at e;rw[e]; exact fin
   ·refine Ydr hl hl' (by simpa using hz) (by omega) _ _ _ _ ?_
    have e:=yt d1 d2
    have hb:(d1.length == d2.length)=false:=by
     rw[←n1,←n2]; simpa using hz
    rw[hb,Fw]at e;rw[←e]at fin;exact fin
noncomputable def rNeT:R2:=fun x y H Q=>∃d1 d2,DV H (.tuple d1) x∧DV H (.tuple d2) y∧Lj d1=true∧Lj d2=true∧Jt d1≤60∧Q (.bl (!Lk d1 d2)) H
theorem ZyO (hu:X.A.units+64 < cLine):OpR X (compareOp .NotEq) rNeT:=by
 intro pins s σ H x y v u Q I rx ry h;obtain⟨d1,d2,h1,h2,c1,c2,hd,q⟩:=h;obtain⟨a1,q1⟩:=Ma I (.tuple d1) x v h1 rx;obtain⟨a2,q2⟩:=Ma I (.tuple d2) y u h2 ry
 cases q1 with
 | @tuple b1 o vs n _ as1 g1 g2 g3 g4=>
  cases q2 with
  | @tuple b2 o' vs' n' _ as2 k1 k2 k3 k4=>
   have hl:s.heap.IsTuple _ vs:=⟨_,g1,g2,_,g3⟩;have hl':s.heap.IsTuple _ vs':=⟨_,k1,k2,_,k3⟩
   have n1:vs.size=d1.length:=by simpa using YL _ _ _ g4
   have n2:vs'.size=d2.length:=by simpa using YL _ _ _ k4
   refine Yds hl hl' (by omega) (e:=Ybz d1 d2) (fun j j1 j2=>?_) _ _ _ _ ?_
   ·have:=YbA d1 d2 X.A.in1 s vs.toList vs'.toList _ _ g4 k4 c1 c2 (by
     have:X.A.in1.units=X.A.units+1∨X.A.in1.units=X.A.units:=by first | exact .inl rfl | exact .inr rfl
     have h3:=yr (Jt d1) (Jt d2)
     omega) j (by simpa using j1) (by simpa using j2)
    simpa using this
   ·rw[n1,n2,yt d1 d2]
    exact⟨.bl _,H,I,rfl,q⟩
noncomputable def rNeA:R2:=fun x y H Q=>rNe x y H Q∨rNeD x y H Q∨rNeT x y H Q
theorem Gq (hu:X.A.units+64 < cLine):OpR X (compareOp .NotEq) rNeA:=OpR.or ZzY (OpR.or (ZyN hu) (ZyO hu))
end
noncomputable def pd (k:Int×Int):Ue:=.tuple [.int k.1,.int k.2]
theorem Zvf (x y:Int×Int):YK (pd x) (pd y)=decide (x=y):=by
 obtain⟨a,b⟩:=x;obtain⟨c,d⟩:=y;simp only [pd,YK,Lk,Hs,Prod.mk.injEq]
 by_cases h:a=c
 ·subst h; by_cases h':b=d
  ·subst h'; simp
  ·simp[h']
 ·simp[h]
theorem ZiH:∀a b:List (Int×Int),Lk (a.map pd) (b.map pd)=decide (a=b)
 | [],[]=>rfl
 | [],_::_=>by simp[Lk]
 | _::_,[]=>by simp[Lk]
 | x::a,y::b=>by
  simp only [Cv,Lk,Zvf,ZiH a b,yu]
  by_cases h:x=y
  ·subst h; simp
  ·simp[h]
theorem bc:∀a:List (Int×Int),Lj (a.map pd)=true
 | []=>rfl
 | _::a=>by simp[Lj,yw,pd,bc a]
theorem ZmR:∀a:List (Int×Int),Jt (a.map pd)≤60
 | []=>by simp[Jt]
 | _::a=>by
  have:=ZmR a;simp only [Cv,Jt,pd,YbB]; omega
theorem ZoL (H:Hp):∀a:List Int,DVs H (a.map .int) (a.map V.int)
 | []=>by rw[Fe,DVs]; rfl
 | x::a=>by
  rw[Cv,DVs];exact⟨.int x,a.map V.int,rfl,by rw[DV],ZoL H a⟩
theorem bj {H:Hp} {p:Aa} {k:Int×Int} (h:Ex H p k):DV H (pd k) (.ref p):=by
 unfold pd;rw[DV];exact⟨p,_,rfl,h,ZoL H [k.1,k.2]⟩
theorem bu {H:Hp}:∀{ps:List Aa} {ks:List (Int×Int)},Bd (Ex H) ps ks→DVs H (ks.map pd) (ps.map V.ref)
 | _,_,.nil=>by rw[Fe,DVs]; rfl
 | _,_,.cons r q=>by
  rw[Cv,DVs];exact⟨_,_,rfl,bj r,bu q⟩
section
variable {K:Ao} {H:Hp} {Q:VK}
theorem ZvA {l l':Aa} {ps ps':List Aa} {ks ks':List (Int×Int)} (h:H l=some (.lst (ps.map V.ref))) (h':H l'=some (.lst (ps'.map V.ref))) (p:Bd (Ex H) ps ks) (p':Bd (Ex H) ps' ks') (q:Q (.bl (!decide (ks=ks'))) H):rNeA (.ref l) (.ref l') H Q:=by
 refine .inr (.inl ⟨ks.map pd,ks'.map pd,?_,?_,bc ks,bc ks',ZmR ks,?_⟩)
 ·rw[DV]; exact⟨l,_,rfl,h,bu p⟩
 ·rw[DV]; exact⟨l',_,rfl,h',bu p'⟩
 ·rw[ZiH]; exact q
theorem Zyf {p p':Aa} {k k':Int×Int} (h:Ex H p k) (h':Ex H p' k') (q:Q (.bl (!decide (k=k'))) H):rNeA (.ref p) (.ref p') H Q:=by
 refine .inr (.inr ⟨[.int k.1,.int k.2],[.int k'.1,.int k'.2],bj h,bj h',?_,?_,?_,?_⟩)
 ·simp[yw,Lj]
 ·simp[yw,Lj]
 ·simp[YbB,Jt]
 ·have e:=Zvf k k'
  unfold pd at e;rw[YK]at e;rw[e]; exact q
theorem Zvn {i j:Int} (h:Q (.bl (decide (i=j))) H):rEqA (.int i) (.int j) H Q:=.inl (ZL h)
theorem Zvo {i j:Str} (h:Q (.bl (decide (i=j))) H):rEqA (.str i) (.str j) H Q:=.inl (ZM h)
theorem Zvy {i j:Int} (h:Q (.bl (!decide (i=j))) H):rNeA (.int i) (.int j) H Q:=.inl (ZP h)
theorem Zvz {i j:Str} (h:Q (.bl (!decide (i=j))) H):rNeA (.str i) (.str j) H Q:=.inl (ZQ h)
end
end L2
namespace PySem
open Sem (wp)
theorem Zr1:typeLookup (.type "list_reverseiterator") "__len__" = pure none:=by rw[Uh,Ui]; kernel_rfl
theorem Zuf:typeLookup (.type "list_reverseiterator") "__length_hint__" = pure (some (.builtin "list_reverseiterator.__length_hint__")):=by rw[Uh,Ui]; kernel_rfl
section
variable {prog:Ay} {w:Av} {A:Bp} {s:Ae} {R:K5→Ae→Prop}
variable {I:Aa} {fp wr:List Aa} {G:Array Ir→Array Ir→Prop} {n:Nat} {P:Nat→Ab→Prop} {St:Nat→Ae→Prop}
theorem ZpZ (W:YM prog w A.in1 I fp wr G n P St) (hT:∀i s,St i s→s.TypeIs (.ref I) "list_reverseiterator") (S:Aa) (res:Ab) (c₀:Nat) (hst:St 0 s) (hSf:S∉fp) (hI:I∈fp)
  (hS:s.heap.get? S=some { cls:=.type "list",data:=.seq #[] c₀ })
  (hR:∀s' acc' c',Moved (S::wr) G s s'→s'.heap.get? S=some { cls:=.type "list",dict:=none,data:=.seq acc' c',slots:=#[] }→YQ P acc' n→R (.ok (.ret res)) s') (hn:n≤Bk) :
  Ai (model prog w) A.in1 (RD (.ref S) (.ref I) res)
   (fun fin s'=>match fin with | .done f=>R (.ok f) s' | .again c'=>c'.quiet=true∧codeAny (model prog w) A c' R s') (fun e s'=>R (.error e) s') s:=by
 have hSI:S≠I:=fun e=>hSf (e ▸ hI)
 have h1:YS (.ref S) (.ref I)=false:=by simp[YS,hSI]
 unfold RD;refine Af (Tv (hT 0 _ hst) ?_);rw[if_neg (by rw[h1]; decide)];refine Af (W.self 0 _ _ _ hst ?_);refine Af (Fq ?_);unfold YbC;refine Af (YT (hT 0 _ hst) Zr1 ?_);show Ai _ A.in1 (specialOf (Be I) (K7 "__length_hint__") >>= _) _ _ _;refine Af (YT (hT 0 _ hst) Zuf ?_)
 (generalize hid:("list_reverseiterator.__length_hint__" : String)=id0; (fail_if_success (clear hid id0)); wp_delta; rw[show splitId id0=some ("list_reverseiterator","__length_hint__") from by subst hid; decide +kernel]; subst hid)
 refine Af (YW (b:=true) (hT 0 _ hst) (by rw[yx]; kernel_rfl) ?_);refine Aq ?_;rw[if_neg (by decide)];exact Aq ⟨Uj YbD _,YbE W hn _ hSf _ n 0 _ _ _ rfl (Cy _) hst hS (YbF P) fun s' acc' c' hm hS' hacc=>hR s' acc' c' hm hS' hacc⟩
theorem ZtY (W:YM prog w A.in1 I fp wr G n P St) (hT:∀i s,St i s→s.TypeIs (.ref I) "list_reverseiterator") (S:Aa) (hst:St 0 s) (hSf:S∉fp) (hI:I∈fp)
  (hS:s.heap.get? S=some { cls:=.type "list",data:=.seq #[] })
  (hR:∀s' acc' c',Moved (S::wr) G s s'→s'.heap.get? S=some { cls:=.type "list",dict:=none,data:=.seq acc' c',slots:=#[] }→YQ P acc' n→R (.ok (.ret .none)) s') (hn:n≤Bk) :
  Ai (model prog w) A.in1 (Fd.«list.__init__» ⟨[.ref S,.ref I],[]⟩)
   (fun fin s'=>match fin with | .done f=>R (.ok f) s' | .again c'=>c'.quiet=true∧codeAny (model prog w) A c' R s') (fun e s'=>R (.error e) s') s:=by
 show Ai _ A.in1 (do let old ←YbG (.ref S); Ydt (.ref S) (fun _=>#[]); letGo old.toList.reverse; RD (.ref S) (.ref I) .none) _ _ s;refine Af ?_;unfold YbG;refine Af (Uk hS rfl (Aq ?_));show Ai _ A.in1 (updateSeq S (fun _=>#[]) >>= fun _=>letGo (#[]:Array Ab).toList.reverse >>= fun _=>RD (.ref S) (.ref I) .none) _ _ s;refine Af (yz hS rfl ?_);have hS₂:=Ka (DP (fun _=>(#[]:Array Ab))) hS rfl
 have oth:∀b o,b≠S→s.heap.get? b=some o→(s.heap.update S (DP (fun _=>(#[]:Array Ab)))).get? b=some o:=
  fun b o hb e=>(Kc _ _ (DX hb)).trans e
 refine Af (wpAny_letGo ?_);refine ZpZ (hn:=hn) W hT S .none _ (W.frame 0 s _ s.toks hst (Ax _) fun b hb o e=>oth b o (fun h=>hSf (h ▸ hb)) e) hSf hI hS₂ fun s' acc' c' hm hS' hacc=>?_;exact hR s' acc' c' (YbH W.gtrans ((Moved.refl W.grefl).then_heap (Ax _) fun b o hb e=>oth b o (fun h=>hb (h ▸ Ec)) e) hm) hS' hacc
end
section
variable {prog:Ay} {w:Av} {A:Bp} {E:Ab→Ae→Prop} {s:Ae}
variable {I:Aa} {fp wr:List Aa} {G:Array Ir→Array Ir→Prop} {n:Nat} {P:Nat→Ab→Prop} {St:Nat→Ae→Prop}
theorem Zlv {Q:Ab→Ae→Prop} (W:YM prog w A.in1.in1 I fp wr G n P St) (hT:∀i s,St i s→s.TypeIs (.ref I) "list_reverseiterator") (hst:St 0 s) (hfp:∀b∈fp,b < s.heap.objs.size) (hI:I∈fp)
  (hQ:∀s' acc' c',Moved (s.heap.objs.size::wr) G { s with heap:=s.heap.push { cls:=.type "list",data:=.seq #[] } } s'→
   s'.heap.get? s.heap.objs.size=some { cls:=.type "list",dict:=none,data:=.seq acc' c',slots:=#[] }→YQ P acc' n→Q (.ref s.heap.objs.size) s') (hn:n≤Bk) :
  Ai (model prog w) A (call (.type "list") [.ref I]) Q E s:=by
 have hSf:s.heap.objs.size∉fp:=fun hm=>Hi _ (hfp _ hm)
 refine callType_codes (Q₁:=fun obj s₁=>obj=.ref s.heap.objs.size∧s₁ = { s with heap:=s.heap.push { cls:=.type "list",data:=.seq #[] } }) F.called_list (F.typeCall_list_1 _) F.entry_list_init
  (code_list_new _ ⟨rfl,rfl⟩) fun obj s₁ h₁=>?_
 obtain⟨rfl,rfl⟩:=h₁;have hS:(s.heap.push { cls:=.type "list",data:=.seq #[] }).get? s.heap.objs.size=some { cls:=.type "list",data:=.seq #[] }:=CT _ rfl;refine⟨⟨_,hS,rfl⟩,F.args_list_init_2 _ _,ZtY (hn:=hn) W hT _ (W.frame 0 s _ s.toks hst (Ax _) fun b _ o e=>BK _ e) hSf hI hS fun s' acc' c' hm hS' hacc=>?_⟩;exact⟨rfl,hQ s' acc' c' hm hS' hacc⟩
end
end PySem
namespace L2
open PySem PySem.Spec PyProof.Rows
section
variable {X:Cx} {tg:Aw}
noncomputable def rSum (K:Ao):List V→Hp→VK→Prop:=fun xs H Q=>∃(p:Aa) (ns:List Int),xs=[.ref p]∧SqL K H p (ns.map V.int)∧Q (.int ns.sum) H
theorem ZmZ:∀{ns:List Int} {us:List Ab},Vals (ns.map V.int) us→∃xs:List (Int×Tok),us=xs.map (fun x=>GR x.1 x.2)∧xs.map (·.1)=ns
 | [],_,r=>by
  cases r
  exact⟨[],rfl,rfl⟩
 | n::ns,_,r=>by
  cases r with
  | cons r rr=>
   obtain⟨t,rfl⟩:=r;obtain⟨xs,rfl,e⟩:=ZmZ rr;exact⟨(n,t)::xs,rfl,by rw[Cv,e]⟩
theorem Zq3 (hc:X.calm=true):Ha X (.builtin "sum") (rSum X.K):=by
 intro pins s σ H xs us Q I r h;obtain⟨p,ns,rfl,hq,q⟩:=h
 cases r with
 | cons r rr=>
  cases rr
  cases r
  obtain⟨its,rv,pl,hz⟩:=I.list hq;obtain⟨zs,e,en⟩:=ZmZ rv
  have pl':s.heap.IsList p (intItems zs.toArray):=by
   have e':intItems zs.toArray=its.toArray:=by rw[e]; simp[intItems]
   rw[e']; exact pl.isList
  refine sum_intListG (I.ok.hd hc) pl' fun h' tk t' k=>⟨.int ns.sum,H,I.kept k,⟨t',?_⟩,q⟩;rw[preSum_eq,Nf (by simp),←en]
noncomputable def ZpA (K:Ao) (te:TE):TE:=fun σ H Q=>te σ H fun x H1=>∃p ys,x=.ref p∧SqL K H1 p ys∧∀l,H1 l=none→Q (.ref l) (upd H1 l (.lst ys.reverse))
theorem ZrG {its:List Ab} {acc:Array Ab} (h:YQ (fun i v=>its.toArray[its.toArray.size - 1 - i]?=some v) acc its.toArray.size):acc.toList=its.reverse:=by
 obtain⟨h1,h2⟩:=h
 have h1:acc.size=its.length:=by rw[h1]; simp
 apply YbI;intro i
 by_cases hi:i < its.length
 ·have e:acc[i]?=some (acc[i]'(by omega)):=Gm (by omega)
  have:=h2 i _ e;rw[Cu,Nm]at this;rw[IK,e,←this,za hi]
 ·rw[IK,Np (by omega),RG (by rw[Ul]; omega)]
theorem Zkh:∀{xs xs':List V} {us us':List Ab},Vals xs us→Vals xs' us'→Vals (xs++xs') (us++us')
 | _,_,_,_,.nil,r=>r
 | _,_,_,_,.cons h r,r'=>.cons h (Zkh r r')
theorem ZiU:∀{xs:List V} {us:List Ab},Vals xs us→Vals xs.reverse us.reverse
 | _,_,.nil=>.nil
 | _,_,.cons h r=>by
  rw[YbJ,YbJ];exact Zkh (ZiU r) (.cons h .nil)
theorem Zqn {e:Aw} {te:TE} {p p2 pos pos2:Pos} (hc:X.calm=true) (hg:Gl X "list") (hm:X.mg "list" = none) (hg2:Gl X "reversed") (hm2:X.mg "reversed" = none) (ha:PE X e te)
  (he:BW [e] X.env=(false,eval e X.env)::BW [] X.env:=by rfl) :
  PE X (.Call (.Name "list" p) [.Call (.Name "reversed" p2) [e] [] pos2] [] pos) (ZpA X.K te):=by
 intro pins s σ H Q I h;refine J7 (Jc I hg hm LC ?_);refine M6 ?_ rfl rfl;show Ai _ _ (spliced ((false,eval (.Call (.Name "reversed" p2) [e] [] pos2) X.env)::backTo pos (BW [] X.env))) _ _ s;refine u6 ?_;refine J7 (Jc I hg2 hm2 ZnN ?_)
 let R:List V→Hp→Prop:=fun vs H1=>match vs with | [x]=>(∃p ys,x=V.ref p∧SqL X.K H1 p ys∧∀l,H1 l=none→Q (.ref l) (upd H1 l (.lst ys.reverse))) | _=>False
 have h':Jz te tNil σ H R:=h;refine M6 (thn (Ac ha Ag he pos2 pins s σ H R I h') fun us s1 ⟨vs,H1,I1,r1,q1⟩=>?_) he rfl
 match vs,r1,q1 with
 | [x],r1,q1=>
  obtain⟨p,ys,rfl,hq,q⟩:=q1;obtain⟨u,rfl,rx⟩:=Jy r1
  cases rx
  obtain⟨its,rv,pl,hz⟩:=I1.list hq;have hlen:=rv.length;have pl0:s1.heap.IsList p its.toArray:=pl.isList
  have hpl:p < s1.heap.objs.size:=by obtain⟨o,ho,_⟩:=id pl0; exact BR ho
  refine call_reversed_list pl0 ?_;refine u5 ?_;have I2:Inv X pins σ H1 { s1 with heap:=s1.heap.push (revObj p ((its.toArray.size:Int) - 1)) }:=I1.kept (t':=s1.toks) fun b o e=>BK _ e;have pl2:(s1.heap.push (revObj p ((its.toArray.size:Int) - 1))).IsList p its.toArray:=pl0.at fun o e=>BK _ e;have W:=(Walks.listRev (prog:=X.prog) (w:=X.w) (A:=X.A.in1.in1) (I.ok.hd hc) s1.heap.objs.size p (Ce hpl) its.toArray).toS;refine Zlv (s:={ s1 with heap:=s1.heap.push (revObj p ((its.toArray.size:Int) - 1)) }) W (fun i s st=>st.2.1.typeIs) ⟨Cy _,⟨_,CT _ rfl,rfl,by simp[revObj]⟩,pl2⟩ (fun b hb=>?_) (by simp) (fun s' acc c' hm hS hacc=>?_) (by simp only [Cu]; omega)
  ·have hs:(s1.heap.push (revObj p ((its.toArray.size:Int) - 1))).objs.size=s1.heap.objs.size+1:=by simp[YX]
   show b < (s1.heap.push (revObj p ((its.toArray.size:Int) - 1))).objs.size;rw[hs];simp at hb
   rcases hb with rfl | rfl
   ·exact Tj _
   ·exact Js hpl
  ·rw[Moved.eq_with hm]
   have hf:H1 (s1.heap.push (revObj p ((its.toArray.size:Int) - 1))).objs.size=none:=I2.hok.fresh (Ax _);have ea:=ZrG hacc
   have ea':acc=its.reverse.toArray:=by rw[←ea]
   have hz':ys.reverse.length≤Bk:=by rw[Ul]; exact hz
   have kp:∀b o,s1.heap.get? b=some o→s'.heap.get? b=some o:=fun b o e=>by
    have hb:=BR e;refine hm.heap b o (fun hmem=>?_) (BK _ (BK _ e))
    rcases CZ.mp hmem with e' | e'
    ·have hs:(s1.heap.push (revObj p ((its.toArray.size:Int) - 1))).objs.size=s1.heap.objs.size+1:=by simp[YX]
     have e'':b=(s1.heap.push (revObj p ((its.toArray.size:Int) - 1))).objs.size:=e';rw[hs]at e'';exact absurd hb (by rw[e'']; exact Nat.not_lt.mpr (Ia _))
    ·exact absurd hb (by rw[Dr.mp e']; exact Hi _)
   refine⟨.ref _,upd H1 _ (.lst ys.reverse),I1.laid (t':=s'.toks) kp ?_ (show Ck X.prog X.w _ s'.heap _ (.lst ys.reverse) from⟨hz',its.reverse,c',ZiU rv,by rw[←ea']; exact hS⟩),rfl,q _ hf⟩;simp[YX]
end
section
variable {σ:St} {H:Hp} {Q:VK} {D:Ends} {K:Ao} {g:TG} {tb:TS} {ix:List Nat} {tc:TT} {te:TE}
theorem ZzO {p:Aa} {ns:List Int} (h:SqL K H p (ns.map V.int)) (q:Q (.int ns.sum) H):rSum K [.ref p] H Q:=⟨p,ns,rfl,h,q⟩
def Zu4 (K:Ao) (x:V) (H1:Hp) (Q:VK):Prop:=∃p ys,x=.ref p∧SqL K H1 p ys∧∀l,H1 l=none→Q (.ref l) (upd H1 l (.lst ys.reverse))
theorem ZmX (h:te σ H fun x H1=>Zu4 K x H1 Q):ZpA K te σ H Q:=h
theorem ZrL {p:Aa} {ys:List V} (h:SqL K H p ys) (k:∀(l:Aa) (H':Hp),Same H H'→H l=none→H' l=some (.lst ys.reverse)→Q (.ref l) H'):Zu4 K (.ref p) H Q:=
 ⟨p,ys,rfl,h,fun l hl=>k l _ (GC hl _) hl Cp⟩
end
end L2
namespace PySem
open Sem (wp)
open AutoSeq1 (wpAny_loadPart')
theorem Zne (a:Aa) (vs:Array Ab) (m:Nat) (dc:Option Aa) (sc:Array (Option Ab)):Meets (Fd.«enumerate.__new__» ⟨[.type "enumerate",.ref a],[]⟩) (fun _ R z=>
    z.heap.get? a=some { cls:=.type "tuple",dict:=dc,data:=.seq vs m,slots:=sc }∧
    R (.ok (.ret (.ref (z.heap.push { cls:=.type "tuple_iterator",data:=.fields #[.ref a,.int 0 0] }).objs.size)))
      { z with heap:=(z.heap.push { cls:=.type "tuple_iterator",data:=.fields #[.ref a,.int 0 0] }).push { cls:=.type "enumerate",data:=.fields #[.none,.bool false,.ref z.heap.objs.size,rawInt 0,.none,.none] } }):=
  .of_wp fun pr wo ar R z hz=>by
    obtain⟨hp,gg,dd,tt,ss⟩:=z;obtain⟨ha,hR⟩:=hz;have hsubE:=sub_enumerate;have hT:Ar.IsTuple (YbK ⟨hp,gg,dd,tt,ss⟩) a vs:=⟨_,ha,rfl,m,rfl⟩
    wp_walk using Tu ha
    refine wpAny_stack_any fun stk=>Aq ?_
    split
    · rename_i cc _ _ _ _ _
      cases (cc == Fi "enumerate") <;>
        (wp_walk using Tu ha,wz hT
         exact⟨_,rfl,hR⟩)
    · wp_walk using Tu ha,wz hT
      exact⟨_,rfl,hR⟩
section
variable {prog:Ay} {w:Av} {A:Bp} {E:Ab→Ae→Prop} {s:Ae}
theorem Zlu {a:Aa} {vs:Array Ab} {Q:Ab→Ae→Prop} (hT:s.heap.IsTuple a vs)
  (q:∀h',YZ h' (s.heap.objs.size+1) s.heap.objs.size 0 .none→h'.IsTupleIter s.heap.objs.size a 0→(∀b o,s.heap.get? b=some o→h'.get? b=some o)→Q (.ref (s.heap.objs.size+1)) { s with heap:=h' }) :
  Ai (model prog w) A (call (.type "enumerate") [.ref a]) Q E s:=by
 obtain⟨⟨c,dc,dt,sc⟩,ha,hc,m,hd⟩:=hT
 replace hc:c=.type "tuple":=hc
 replace hd:dt=.seq vs m:=hd
 subst hc hd;refine callType_new F.called_enumerate (by decide) (F.typeCall_enumerate_1 _) (F.newCall_enumerate_1 _) (fun z=>F.args_object_init_2 z _) F.entry_enumerate_new (Zne a vs m dc sc) ⟨ha,?_⟩;have hz:(s.heap.push { cls:=.type "tuple_iterator",data:=.fields #[.ref a,.int 0 0] }).objs.size=s.heap.objs.size+1:=J5 ..;show _∧_;rw[hz]
 have he:YZ ((s.heap.push { cls:=.type "tuple_iterator",data:=.fields #[.ref a,.int 0 0] }).push { cls:=.type "enumerate",data:=.fields #[.none,.bool false,.ref s.heap.objs.size,rawInt 0,.none,.none] }) (s.heap.objs.size+1) s.heap.objs.size 0 .none:=by
  have e:=CT (s.heap.push { cls:=.type "tuple_iterator",data:=.fields #[.ref a,.int 0 0] }) (o:={ cls:=.type "enumerate",data:=.fields #[.none,.bool false,.ref s.heap.objs.size,rawInt 0,.none,.none] }) rfl;rw[hz]at e;exact e
 exact⟨⟨_,he,rfl⟩,q _ he ⟨_,BK _ (CT _ rfl),rfl,rfl⟩ fun b o e=>BK _ (BK _ e)⟩
theorem ZjJ {it t:Aa} {i:Nat} {vs} {x:Ab} {Q:Ab→Ae→Prop} (hi:s.heap.IsTupleIter it t i) (ht:s.heap.IsTuple t vs) (hx:vs[i]?=some x)
  (q:∀h',h'.IsTupleIter it t (i+1)→HX it s.heap h'→Q x { s with heap:=h' }):Ai (model prog w) A (Y0 (.ref it)) Q E s:=by
 obtain⟨o,ho,hc,hd⟩:=id hi;obtain⟨ot,hot,_,nt,hdt⟩:=ht;unfold Y0;refine Af (M9 (name:=K7 "__next__") hi.typeIs Y4 (Gu Y4 hi.typeIs YbL ?_ (YbM _)));show Ai _ _ (field (.ref it) 0 >>= _) _ _ s;refine Af (Hn ho hd (x:=.ref t) rfl ?_);show Ai _ _ (if (Be t == Dd)=true then _ else _) _ _ s;rw[if_neg (show ¬((Be t == Dd)=true) from Cg)];show Ai _ _ (field (.ref it) 1 >>= _) _ _ s;refine Af (Hn ho hd (x:=.int i 0) rfl ?_);show Ai _ _ (seqItems? (.ref t) >>= _) _ _ s;refine Af (Uk hot hdt ?_);simp only [Ft,hx];refine Af (RJ ho hd (by simp) (Aq ⟨x,rfl,Aq (q _ ?_ (RK ..))⟩));exact⟨_,Ka _ ho (zb (Um hd _)),(YbN ..).trans hc,by rw[Um hd]; simp[rawInt]⟩
theorem ZkC {it t:Aa} {i:Nat} {vs} {Q:Ab→Ae→Prop} (hh:A.handled=none) (hi:s.heap.IsTupleIter it t i) (ht:s.heap.IsTuple t vs) (hx:vs[i]?=none)
  (q:∀h' e,zc it s.heap h'→(∃o,h'.get? e=some o∧o.cls=.type "StopIteration")→E (.ref e) { s with heap:=h' }):Ai (model prog w) A (Y0 (.ref it)) Q E s:=by
 obtain⟨o,ho,hc,hd⟩:=id hi;obtain⟨ot,hot,_,nt,hdt⟩:=ht;unfold Y0;refine Af (M9 (name:=K7 "__next__") hi.typeIs Y4 (Gu Y4 hi.typeIs YbL ?_ (YbM _)));show Ai _ _ (field (.ref it) 0 >>= _) _ _ s;refine Af (Hn ho hd (x:=.ref t) rfl ?_);show Ai _ _ (if (Be t == Dd)=true then _ else _) _ _ s;rw[if_neg (show ¬((Be t == Dd)=true) from Cg)];show Ai _ _ (field (.ref it) 1 >>= _) _ _ s;refine Af (Hn ho hd (x:=.int i 0) rfl ?_);show Ai _ _ (seqItems? (.ref t) >>= _) _ _ s;refine Af (Uk hot hdt ?_);simp only [Ft,hx];refine Af (yf (Af (RJ ho hd (by simp) ?_)));show Ai _ _ (newExc (.type "StopIteration") [] >>= _) _ _ _;refine Af ?_;simp only [newExc,newTuple];refine Af (FQ ?_ (by size_fits));refine Af (m:=firstArgMember _ _) (Y5 (a:=Dd) (by first | rfl | (simp only [firstArgMember]; rfl)) ?_);refine FQ ?_ (by size_fits);simp only [raiseNew];refine Af (zf ?_)
 first | rw[show A.in1.handled=none from hh] | rw[hh]
 refine Af (Aq (zg ?_));exact q _ _ (((RK ..).extBut.push _).push _) ⟨_,CT _ rfl,rfl⟩
end
theorem Draws.tup {prog:Ay} {w:Av} {A:Bp} (hh:A.handled=none) (it t:Aa) (hne:t≠it) (vs:Array Ab):Draws prog w A it [it,t] vs.size (fun i v=>vs[i]?=some v) (fun i h=>h.IsTupleIter it t i∧h.IsTuple t vs) where
 live:=fun _ _ z=>let ⟨o,ho,_⟩:=z.1; ⟨o,ho⟩
 frame:=fun _ _ _ z hk=>⟨(let ⟨o,ho,r⟩:=z.1; ⟨o,hk it (by simp) o ho,r⟩),(let ⟨o,ho,r⟩:=z.2; ⟨o,hk t (by simp) o ho,r⟩)⟩
 item:=fun i s Q E hi z q=>ZjJ z.1 z.2 (x:=vs[i]) (by simp[hi]) fun h' hi' hs'=>q _ h' s.toks (by simp[hi]) ⟨hi',z.2.extBut hs'.extBut hne⟩ hs'
 done:=fun s Q E z q=>ZkC hh z.1 z.2 (by simp) q
theorem ZuF {h:Ar} {o o':Obj} {b:Aa} (e:(h.push o).get? b=some o'):b=h.objs.size∧o'=o∨h.get? b=some o':=by
 obtain⟨e1,e2⟩:=YbO.mp e
 have e1:(h.objs.push o)[b]?=some o':=by simpa [YX] using e1
 rw[Array.getElem?_push]at e1
 split at e1
 ·rename_i z
  exact .inl ⟨z,(De e1).symm⟩
 ·exact .inr (YbO.mpr ⟨e1,e2⟩)
end PySem
namespace L2
open PySem PySem.Spec PyProof.Rows
section
variable {X:Cx} {pins:List (Aa×Obj)} {σ:List (Option V)} {H:Hp} {s:Ae} {h':Ar}
theorem Inv.turnedL {t':Nat} {ch:List Aa} (I:Inv X pins σ H s) (k:∀b o,b∉ch→s.heap.get? b=some o→h'.get? b=some o) (hf:∀b∈ch,FpOk X pins H b):Inv X pins σ H { s with heap:=h',toks:=t' }:=by
 have nit:∀b u,H b=some u→b∉ch:=fun b u e z=>by rw[(hf b z).1]at e; cases e
 have hL:X.env.locals∉ch:=fun z=>(hf _ z).2.1 rfl;refine I.step (g':=s.gens) (d':=s.drawn) (ch:=ch) (fun b hb=>?_) (fun b o _ _ hc e _=>k b o hc e) (fun b o _ _ hc e _=>⟨o.slots,k b o hc e⟩) (fun _ _ _ _ n=>n) (fun b o hc e=>⟨o,k b o hc e⟩) (fun _ _ e=>e) (fun _ _ _ e=>e) (fun b ps e=>⟨#[],by rw[e]; simp⟩) (fun m hm=>?_) (fun b u e=>?_) I.bare
 ·obtain⟨f0,f1,f2,f3,f4,f5⟩:=hf b hb
  exact⟨f3,f1,f4,f5⟩
 ·obtain⟨o,es,ep,ho,r⟩:=hm
  exact⟨o,es,ep,k _ o hL ho,r⟩
 ·refine(I.hok b u e).stay (fun c v hc q=>k c v ?_ q) (fun _ q=>q) fun _ _ q=>q
  rcases hc with z | z
  ·rw[z]; exact nit b u e
  ·exact nit c _ z
theorem Inv.pairTurn {t':Nat} {ch:List Aa} {x y:V} {u v:Ab} (I:Inv X pins σ H s) (rx:RelV x u) (ry:RelV y v) (hf:∀b∈ch,FpOk X pins H b) (hch:∀b∈ch,b≠s.heap.objs.size)
  (k:∀b o,b∉ch→s.heap.get? b=some o→h'.get? b=some o) (hT:h'.get? s.heap.objs.size=some { cls:=.type "tuple",data:=.seq #[u,v] }) :
  Inv X pins σ (upd H s.heap.objs.size (.tup [x,y])) { s with heap:=h',toks:=t' }:=by
 have I1:Inv X pins σ (upd H s.heap.objs.size (.tup [x,y])) { s with heap:=s.heap.push { cls:=.type "tuple",data:=.seq #[u,v] } }:=
  I.laid (t':=s.toks) (fun b o e=>BK _ e) (Ax _) (show Ck X.prog X.w _ _ _ (.tup [x,y]) from⟨Ln rfl,[u,v],.cons rx (.cons ry .nil),vg _ _⟩)
 refine Inv.turnedL (s:={ s with heap:=s.heap.push { cls:=.type "tuple",data:=.seq #[u,v] } }) (ch:=ch) I1 (fun b o hb e=>?_) fun b hb=>?_
 ·rcases ZuF e with⟨e1,e2⟩ | e
  ·rw[e1,e2]; exact hT
  ·exact k b o hb e
 ·obtain⟨f0,f1,f2,f3,f4,f5⟩:=hf b hb
  exact⟨by rw[Bo (hch b hb)]; exact f0,f1,f2,f3,f4,f5⟩
end
noncomputable def Ite (sq:Hp→Prop) (xs:List V):It:=⟨fun i H=>i < xs.length∧sq H,fun i H x H'=>∃T v,xs[i]?=some v∧H T=none∧x=.ref T∧H'=upd H T (.tup [.int (i:Int),v]),fun i H=>i=xs.length∧sq H⟩
theorem ZnD {P:Ay} {w:Av} {K:Ao} {elts:List Aw} {kk:Nat} {ps:Pos} {sq:Hp→Prop} {xs:List V} {e it:Aa} {stI:Nat→Ar→Prop} (hei:e≠it)
  (hobj:∀i h,stI i h→∃o,h.get? it=some o∧∀v,o.data≠.cell v) (hkeep:∀i h h',stI i h→(∀o,h.get? it=some o→h'.get? it=some o)→stI i h')
  (hD:∀(X:Cx),X.prog=P→X.w=w→X.K=K→X.calm=true→∀(pins:List (Aa×Obj)) (σ:St) (H:Hp) (s:Ae) (i:Nat),Inv X pins σ H s→sq H→(∃old,YZ s.heap e it i old)→stI i s.heap→
   ∃(its:List Ab) (fp:List Aa) (S:Nat→Ar→Prop),Vals xs its∧Draws P w X.A.in1 it fp its.length (fun j v=>its[j]?=some v) S∧S i s.heap∧(∀j h,S j h→stI j h)∧e∉fp) :
  Turn P w K (.Tuple elts kk ps) (Ite sq xs) [e,it] e (fun i h=>(∃old,YZ h e it i old)∧stI i h) where
 mem:=by simp
 obj:=fun i h st b hb=>by
  obtain⟨⟨old,he⟩,hs⟩:=st
  rcases CZ.mp hb with rfl | hb
  ·exact⟨_,he,fun v z=>by cases z⟩
  ·rw[Dr.mp hb]; exact hobj i h hs
 keep:=fun i h h' st k=>by
  obtain⟨⟨old,he⟩,hs⟩:=st;exact⟨⟨old,k e (by simp) _ he⟩,hkeep i h h' hs fun o z=>k it (by simp) o z⟩
 item:=by
  intro X hP hw hK hc i pins s σ H E I hf st hg;obtain⟨⟨old,he⟩,hs⟩:=st;obtain⟨its,fp,S,rv,D,hS,hst,hef⟩:=hD X hP hw hK hc pins σ H s i I hg.2 ⟨old,he⟩ hs;subst hP hw hK
  have hi:i < its.length:=by rw[←rv.length]; exact hg.1
  refine wpAny_pyNext_enum_itemD D he hS hi hei hef fun u h1 tk hu ho hs1 hT hsz hk=>?_;have hel:e < s.heap.objs.size:=BR he
  have hil:it < s.heap.objs.size:=by obtain⟨o,q,_⟩:=hobj i _ hs; exact BR q
  refine⟨_,rfl,wpAny_letOwnedTupleGo_enum ho fun h2 he2 hs2=>?_⟩;obtain⟨v,hv⟩ : ∃v,xs[i]?=some v:=⟨xs[i]'hg.1,CJ hg.1⟩;obtain⟨u',hu',ru⟩:=rv.get hv;have eu:u'=u:=De (hu'.symm.trans hu);subst eu
  have I2:Inv X pins σ (upd H s.heap.objs.size (.tup [.int (i:Int),v])) { s with heap:=h2,toks:=tk+1 }:=
   I.pairTurn (ch:=[e,it]) (u:=.int i tk) ⟨tk,rfl⟩ ru hf (fun b hb=>by
    rcases CZ.mp hb with rfl | hb
    ·exact Ce hel
    ·rw[Dr.mp hb]; exact Ce hil) (fun b o hb z=>by
    have hb1:b≠e:=fun q=>hb (by simp[q]);have hb2:b≠it:=fun q=>hb (by simp[q])
    exact(hs2.2 b hb1).trans (hk b o hb1 hb2 z)) ((hs2.2 _ (Hk hel)).trans hT)
  refine⟨.ref s.heap.objs.size,_,I2,rfl,⟨_,v,hv,I.hok.fresh (Ax _),rfl,rfl⟩,⟨⟨_,by simpa using he2⟩,hst _ _ (D.frame _ _ _ hs1 fun b hb o z=>(hs2.2 b fun q=>hef (q ▸ hb)).trans z)⟩,fun b hb=>?_⟩
  have hne:b≠s.heap.objs.size:=by
   rcases CZ.mp hb with rfl | hb
   ·exact Ce hel
   ·rw[Dr.mp hb]; exact Ce hil
  rw[Bo hne];exact(hf b hb).1
 done:=by
  intro X hP hw hK hc i pins s σ H E I hf st hg;obtain⟨⟨old,he⟩,hs⟩:=st;obtain⟨its,fp,S,rv,D,hS,hst,hef⟩:=hD X hP hw hK hc pins σ H s i I hg.2 ⟨old,he⟩ hs;subst hP hw hK
  have hi:i=its.length:=by rw[←rv.length]; exact hg.1
  rw[hi]at hS;obtain⟨f0,f1,f2,f3,f4,f5⟩:=hf it (by simp);exact wpAny_pyNext_enum_endD D he hS fun h1 eb=>⟨rfl,I.turned (t':=s.toks) (fun b o hb z=>eb b o hb z) f0 f1 f3 f4 f5⟩
 self:=fun _ _ _ _ _ st h=>by
  obtain⟨⟨old,he⟩,_⟩:=st;exact zj he h
section
variable {X:Cx}
noncomputable def Zx6 (K:Ao) (tl:TE):TI:=fun σ H R=>tl σ H fun x H1=>(∃a xs,x=.ref a∧SqL K H1 a xs∧R (Ite (fun H=>SqL K H a xs) xs) H1)∨(∃a xs,x=.ref a∧SqT K H1 a xs∧R (Ite (fun H=>SqT K H a xs) xs) H1)
theorem Zsn {elts:List Aw} {kk:Nat} {ps:Pos} {l:Aw} {tl:TE} {p pos:Pos} (hg:Gl X "enumerate") (hm:X.mg "enumerate" = none) (ha:PE X l tl) (he:BW [l] X.env=(false,eval l X.env)::BW [] X.env:=by rfl) :
  PI X (.Tuple elts kk ps) (.Call (.Name "enumerate" p) [l] [] pos) (Zx6 X.K tl):=by
 intro pins s σ H R I h;refine J7 (Jc I hg hm ZmO ?_)
 let R':List V→Hp→Prop:=fun vs H1=>match vs with | [x]=>((∃a xs,x=V.ref a∧SqL X.K H1 a xs∧R (Ite (fun H=>SqL X.K H a xs) xs) H1)∨(∃a xs,x=V.ref a∧SqT X.K H1 a xs∧R (Ite (fun H=>SqT X.K H a xs) xs) H1)) | _=>False
 have h':Jz tl tNil σ H R':=h;refine M6 (thn (Ac ha Ag he pos pins s σ H R' I h') fun us s1 ⟨vs,H1,I1,r1,q1⟩=>?_) he rfl
 have fpk:∀b∈[s1.heap.objs.size+1,s1.heap.objs.size],FpOk X pins H1 b:=fun b hb=>by
  rcases CZ.mp hb with rfl | hb
  ·exact I1.fpOk (Ia _) (I1.hok.fresh (Ia _))
  ·rw[Dr.mp hb]; exact I1.fpOk (Ax _) (I1.hok.fresh (Ax _))
 match vs,r1,q1 with
 | [x],r1,q1=>
  obtain⟨u,rfl,rx⟩:=Jy r1
  rcases q1 with⟨a,xs,rfl,hq,q⟩ | ⟨a,xs,rfl,hq,q⟩
  ·cases rx
   obtain⟨its,rv,pl,hz⟩:=I1.list hq;refine call_enumerate_list pl.isList fun h2 he2 hi2 hsz hk=>?_;refine zj he2 ⟨s1.heap.objs.size+1,_,_,_,H1,rfl,I1.kept (t':=s1.toks) hk,ZnD (e:=s1.heap.objs.size+1) (it:=s1.heap.objs.size) (stI:=fun i h=>h.IsListIter s1.heap.objs.size a i) (Uo _) ?_ ?_ ?_,⟨⟨_,he2⟩,hi2⟩,fpk,q⟩
   ·rintro i h ⟨o,e,c,d⟩
    exact⟨o,e,fun v z=>by rw[d]at z; cases z⟩
   ·exact fun i h h' z k=>z.at k
   ·intro Y hP hw hK hc pins' σ' H' s' i I' hs ⟨old,hen⟩ hit
    have hs:SqL Y.K H' a xs:=by rw[hK]; exact hs
    obtain⟨its',rv',pl',hz'⟩:=I'.list hs
    have na:a≠s1.heap.objs.size:=fun z=>by
     obtain⟨o,e,c,d⟩:=hit;obtain⟨o',e',c',d'⟩:=pl'.isList;rw[z,e]at e'
     cases e'
     rw[c]at c';exact absurd c' (by decide)
    have nb:s1.heap.objs.size+1∉[s1.heap.objs.size,a]:=fun z=>by
     rcases CZ.mp z with z | z
     ·exact Uo _ z
     ·obtain⟨o',e',c',d'⟩:=pl'.isList
      rw[←Dr.mp z,hen]at e'
      cases e'
      have c2:Fi "enumerate" = Fi "list":=c';exact absurd c2 (by decide)
    have D:=Draws.list (prog:=Y.prog) (w:=Y.w) (A:=Y.A.in1) (I'.ok.hd hc) s1.heap.objs.size a na its'.toArray;rw[hP,hw]at D;exact⟨its',[s1.heap.objs.size,a],fun i h=>h.IsListIter s1.heap.objs.size a i∧h.IsList a its'.toArray,rv',by simpa using D,⟨hit,pl'.isList⟩,fun j h z=>z.1,nb⟩
  ·cases rx
   obtain⟨its,rv,pl,hz⟩:=I1.tuple hq;refine Zlu (show s1.heap.IsTuple a its.toArray from pl) fun h2 he2 hi2 hk=>?_;refine zj he2 ⟨s1.heap.objs.size+1,_,_,_,H1,rfl,I1.kept (t':=s1.toks) hk,ZnD (e:=s1.heap.objs.size+1) (it:=s1.heap.objs.size) (stI:=fun i h=>h.IsTupleIter s1.heap.objs.size a i) (Uo _) ?_ ?_ ?_,⟨⟨_,he2⟩,hi2⟩,fpk,q⟩
   ·rintro i h ⟨o,e,c,d⟩
    exact⟨o,e,fun v z=>by rw[d]at z; cases z⟩
   ·exact fun i h h' z k=>let ⟨o,e,r⟩:=z; ⟨o,k o e,r⟩
   ·intro Y hP hw hK hc pins' σ' H' s' i I' hs ⟨old,hen⟩ hit
    have hs:SqT Y.K H' a xs:=by rw[hK]; exact hs
    obtain⟨its',rv',pl',hz'⟩:=I'.tuple hs
    have na:a≠s1.heap.objs.size:=fun z=>by
     obtain⟨o,e,c,d⟩:=hit;obtain⟨o',e',c',d'⟩:=pl';rw[z,e]at e'
     cases e'
     rw[c]at c';exact absurd c' (by decide)
    have nb:s1.heap.objs.size+1∉[s1.heap.objs.size,a]:=fun z=>by
     rcases CZ.mp z with z | z
     ·exact Uo _ z
     ·obtain⟨o',e',c',d'⟩:=pl'
      rw[←Dr.mp z,hen]at e'
      cases e'
      have c2:Fi "enumerate" = Fi "tuple":=c';exact absurd c2 (by decide)
    have D:=Draws.tup (prog:=Y.prog) (w:=Y.w) (A:=Y.A.in1) (I'.ok.hd hc) s1.heap.objs.size a na its'.toArray;rw[hP,hw]at D;exact⟨its',[s1.heap.objs.size,a],fun i h=>h.IsTupleIter s1.heap.objs.size a i∧h.IsTuple a its'.toArray,rv',by simpa using D,⟨hit,pl'⟩,fun j h z=>z.1,nb⟩
noncomputable def ZyZ:V→List V→Hp→VK→Prop:=fun x vs H Q=>∃i:Int,x=.int i∧vs=[]∧Q (.int ((Lp i:Nat):Int)) H
theorem ZhD:MtR X "int.bit_length" ZyZ:=by
 intro pins s σ H x xs v us Q I r rs h;obtain⟨i,rfl,rfl,q⟩:=h;obtain⟨t,rfl⟩:=r
 cases rs
 exact call_int_bit_length ⟨.int _,H,I.tok _,⟨_,rfl⟩,q⟩
noncomputable def rAll (K:Ao):List V→Hp→VK→Prop:=fun xs H Q=>∃(p:Aa) (bs:List Bool),xs=[.ref p]∧SqL K H p (bs.map V.bl)∧Q (.bl (bs.all id)) H
noncomputable def rAny (K:Ao):List V→Hp→VK→Prop:=fun xs H Q=>∃(p:Aa) (bs:List Bool),xs=[.ref p]∧SqL K H p (bs.map V.bl)∧Q (.bl (bs.any id)) H
theorem bw:∀{bs:List Bool} {us:List Ab},Vals (bs.map V.bl) us→us=bs.map J3
 | [],_,r=>by cases r; rfl
 | b::bs,_,r=>by
  cases r with
  | cons r rr=>
   cases r
   rw[bw rr];rfl
theorem ZsE (bs:List Bool):(Cd bs.length).all (fun i=>bs.getD i false)=bs.all id:=by
 apply GX.mpr;rw[Lb,Lb]
 constructor
 ·intro h x hx
  obtain⟨i,hi,rfl⟩:=Y6.mp hx;have:=h i (Es.mpr hi);rw[Cz,CJ hi]at this;exact this
 ·intro h i hi
  have hi:=Es.mp hi;rw[Cz,CJ hi];exact h _ (Rx hi)
theorem ZsF (bs:List Bool):(Cd bs.length).any (fun i=>bs.getD i false)=bs.any id:=by
 apply GX.mpr;rw[Gn,Gn]
 constructor
 ·rintro⟨i,hi,h⟩
  have hi:=Es.mp hi;rw[Cz,CJ hi]at h;exact⟨_,Rx hi,h⟩
 ·rintro⟨x,hx,h⟩
  obtain⟨i,hi,rfl⟩:=Y6.mp hx;refine⟨i,Es.mpr hi,?_⟩;rw[Cz,CJ hi];exact h
theorem Zkg {prog:Ay} {w:Av} {A:Bp} (bs:List Bool):TruthOf prog w A (fun i v=>(bs.map J3).toArray[i]?=some v) (fun i=>bs.getD i false):=by
 intro i v s Q E hP hQ;rw[Nm,CQ]at hP
 cases e:bs[i]? with
 | none=>rw[e]at hP; cases hP
 | some b=>
  rw[e]at hP
  cases hP
  simp only [Cz,e]at hQ;exact M3 hQ
theorem Zq0 (hc:X.calm=true):Ha X (.builtin "all") (rAll X.K):=by
 intro pins s σ H xs us Q I r h;obtain⟨p,bs,rfl,hq,q⟩:=h;obtain⟨u,rfl,rx⟩:=Jy r
 cases rx
 obtain⟨its,rv,pl,hz⟩:=I.list hq;have e:=bw rv;subst e
 have hpl:p < s.heap.objs.size:=by obtain⟨o,ho,_⟩:=pl.isList; exact BR ho
 have W:=zm (prog:=X.prog) (w:=X.w) (A:=X.A.in1) (I.ok.hd hc) s.heap.objs.size p (Ce hpl) (bs.map J3).toArray;refine call_all_walk (Ym pl.isList ⟨s.heap.objs.size,_,_,_,_,_,_,rfl,W,⟨⟨_,CT _ rfl,rfl,rfl⟩,pl.isList.push _⟩,Zkg bs,fun h' tk k=>?_⟩);rw[Cu,Az,ZsE];refine⟨.bl (bs.all id),H,I.kept (t':=tk) (fun b o z=>k b o ?_ (BK _ z)),rfl,q⟩;exact fun hm=>absurd (BR z) (by rw[Dr.mp hm]; exact Hi _)
theorem Zq1 (hc:X.calm=true):Ha X (.builtin "any") (rAny X.K):=by
 intro pins s σ H xs us Q I r h;obtain⟨p,bs,rfl,hq,q⟩:=h;obtain⟨u,rfl,rx⟩:=Jy r
 cases rx
 obtain⟨its,rv,pl,hz⟩:=I.list hq;have e:=bw rv;subst e
 have hpl:p < s.heap.objs.size:=by obtain⟨o,ho,_⟩:=pl.isList; exact BR ho
 have W:=zm (prog:=X.prog) (w:=X.w) (A:=X.A.in1) (I.ok.hd hc) s.heap.objs.size p (Ce hpl) (bs.map J3).toArray;refine call_any_walk (Ym pl.isList ⟨s.heap.objs.size,_,_,_,_,_,_,rfl,W,⟨⟨_,CT _ rfl,rfl,rfl⟩,pl.isList.push _⟩,Zkg bs,fun h' tk k=>?_⟩);rw[Cu,Az,ZsF];refine⟨.bl (bs.any id),H,I.kept (t':=tk) (fun b o z=>k b o ?_ (BK _ z)),rfl,q⟩;exact fun hm=>absurd (BR z) (by rw[Dr.mp hm]; exact Hi _)
end
section
variable {σ:St} {H:Hp} {Q:VK} {D:Ends} {K:Ao} {g:TG} {tb:TS}
def bz (sq:Hp→Prop) (xs:List V) (g:TG) (tb:TS) (D:Ends) (σ:St) (H:Hp):Prop:=
 ∃W:Nat→Nat→St→Hp→Prop,(∃m,W 0 m σ H)∧∀i m σ H,W i m σ H→
   ((Ite sq xs).stop i H∧D.nx σ H)∨((Ite sq xs).go i H∧∃N:St→Hp→Prop,(∀σ' H',N σ' H'→∃m',m' < m∧W (i+1) m' σ' H')∧∀x H',(Ite sq xs).yld i H x H'→g x σ H' fun σ2 H2=>tb { D with nx:=N,ct:=N,bk:=D.nx } σ2 H2)
def SeqE (K:Ao) (x:V) (g:TG) (tb:TS) (D:Ends) (σ:St) (H1:Hp):Prop:=(∃a xs,x=.ref a∧SqL K H1 a xs∧bz (fun H=>SqL K H a xs) xs g tb D σ H1)∨(∃a xs,x=.ref a∧SqT K H1 a xs∧bz (fun H=>SqT K H a xs) xs g tb D σ H1)
theorem Zvq {tl:TE} (h:tl σ H fun x H1=>SeqE K x g tb D σ H1):tFor (Zx6 K tl) g tb D σ H:=h
theorem ZzU {sq:Hp→Prop} {xs:List V} (Pv:Nat→St→Hp→Prop) (h0:Pv 0 σ H) (hl:∀i σ H,i≤xs.length→Pv i σ H→sq H)
  (hs:∀(i:Nat) (v:V) (T:Aa) σ H H',xs[i]?=some v→Pv i σ H→Same H H'→H T=none→H' T=some (.tup [.int (i:Int),v])→g (.ref T) σ H' fun σ2 H2=>tb { D with nx:=Pv (i+1),ct:=Pv (i+1),bk:=D.nx } σ2 H2) (hd:∀σ H,Pv xs.length σ H→D.nx σ H):bz sq xs g tb D σ H:=by
 refine⟨fun i m σ H=>m=xs.length - i∧i≤xs.length∧Pv i σ H,⟨xs.length,by simp,Cy _,h0⟩,?_⟩;rintro i m σ H ⟨rfl,hi,p⟩
 by_cases hlt:i < xs.length
 ·refine .inr ⟨⟨hlt,hl i σ H hi p⟩,Pv (i+1),fun σ' H' p'=>⟨xs.length - (i+1),by omega,rfl,hlt,p'⟩,fun x H' y=>?_⟩
  obtain⟨T,v,hv,hT,rfl,rfl⟩:=y;exact hs i v T σ H _ hv p (GC hT _) hT Cp
 ·have e:i=xs.length:=by omega
  subst e;exact .inl ⟨⟨rfl,hl _ σ H hi p⟩,hd σ H p⟩
theorem Zy8 {a:Aa} {xs:List V} (Pv:Nat→St→Hp→Prop) (h0:Pv 0 σ H) (hl:∀i σ H,i≤xs.length→Pv i σ H→SqT K H a xs)
  (hs:∀(i:Nat) (v:V) (T:Aa) σ H H',xs[i]?=some v→Pv i σ H→Same H H'→H T=none→H' T=some (.tup [.int (i:Int),v])→g (.ref T) σ H' fun σ2 H2=>tb { D with nx:=Pv (i+1),ct:=Pv (i+1),bk:=D.nx } σ2 H2) (hd:∀σ H,Pv xs.length σ H→D.nx σ H):SeqE K (.ref a) g tb D σ H:=.inr ⟨a,xs,rfl,hl 0 σ H (Cy _) h0,ZzU Pv h0 hl hs hd⟩
theorem R9 {T:Aa} {x y:V} {i j:Nat} {R:St→Hp→Prop} (e:H T=some (.tup [x,y])) (h:R ((σ.set i (some x)).set j (some y)) H):gTup K 2 (Zo (G9 i) (Zo (G9 j) gNil)) (.ref T) σ H R:=
 ⟨T,[x,y],rfl,SqT.of e,rfl,x,[y],rfl,y,[],rfl,rfl,h⟩
theorem ZoP {i:Int} (h:Q (.int ((Lp i:Nat):Int)) H):tyV K "int" (.int i) H∧ZyZ (.int i) [] H Q:=⟨rfl,i,rfl,rfl,h⟩
theorem ZvJ {i:Int} {R:Bool→Prop} (h:R (!decide (i=0))):∃k,TruV K (.int i) H k∧R k:=⟨_,rfl,h⟩
theorem Zrs {r r':R2} {ta tb tc:TE} (h:ta σ H fun x H1=>tb σ H1 fun y H2=>r x y H2 fun z H3=>∃k,z=.bl k∧(if k=true then tc σ H3 fun w' H4=>r' y w' H4 Q else Q (.bl false) H3)):Zv r r' ta tb tc σ H Q:=h
theorem ZzJ {p:Aa} {bs:List Bool} (h:SqL K H p (bs.map V.bl)) (q:Q (.bl (bs.all id)) H):rAll K [.ref p] H Q:=⟨p,bs,rfl,h,q⟩
theorem ZzK {p:Aa} {bs:List Bool} (h:SqL K H p (bs.map V.bl)) (q:Q (.bl (bs.any id)) H):rAny K [.ref p] H Q:=⟨p,bs,rfl,h,q⟩
end
end L2
namespace L2
open PySem PySem.Spec PyProof.Rows
section
variable {X:Cx}
end
section
open PySem.SeqAt
open PySem.AutoSeq1 (wpAny_loadPart')
open PySem.MeetsSeq PySem.MeetsSeq2 PySem.MeetsSeq3
end
def ZzA (i j:Int):Prop:=0 < j∧j≤18446744073709551616
theorem JN {X:Cx}:OpR X (binaryOp .FloorDiv) (rI ZzA fun i j=>.int (i / j)):=opI fun i j _ _ _ _ _ hc q=>by
 have h1:(0:Int) < j:=hc.1;have h2:j≤18446744073709551616:=hc.2;refine floordiv_int (by omega) (by rw[Yaz i (by omega)]; exact q) (.inl (PyProof.noPylong_of_log2 ?_));have h3:j.natAbs.log2 < 65:=(Nat.log2_lt (by omega)).mpr (by omega);omega
section
variable {σ:St} {H:Hp} {Q:VK} {D:Ends} {K:Ao} {g:TG} {tb:TS}
end
end L2
namespace PySem
open Sem (wp)
theorem Obj.dict_mapFields (o:Obj) (f:Array Ab→Array Ab):(RL f o).dict=o.dict:=by unfold RL; split <;> rfl
noncomputable def b8 (l:List Env):List Aa:=l.filterMap (·.frame)
def Heap.Tr (h:Ar) (e:Aa) (cls:Ab) (T:Aa):Prop:=∃oe vs oT ts,h.get? e=some oe∧oe.cls=cls∧oe.dict=none∧oe.data=.fields vs∧vs[1]?=some (.ref T)∧T≠e∧h.get? T=some oT∧oT.data=.fields ts∧ts[3]?=some .none
structure Heap.Gone (fs own:List Aa) (h h':Ar):Prop where
 kept:∀b o,b∉fs→b∉own→h.get? b=some o→h'.get? b=some o
 slot:∀b o,b∈fs→b∉own→h.get? b=some o→∃sl,h'.get? b=some { o with slots:=sl }
section
variable {M:Rk} {A:Bp} {E:Ab→Ae→Prop} {s:Ae}
theorem ZnW {base:Ar} {env:Env} {outer:List Env} {L e:Aa} {oe:Obj} {vs:Array Ab} {head:Ab} {nx:Bool} {Q:Unit→Ae→Prop} (hfr:A.frames=some (env::outer)) (hl:s.heap.FunFrames base (env::outer)) (hf:env.frame=some L)
  (he:s.heap.get? e=some oe) (hdi:oe.dict=none) (hd:oe.data=.fields vs) (hsz:1 < vs.size)
  (q:∀h' T,Heap.Gone (b8 (env::outer)) [e] s.heap h'→s.heap.get? T=none→s.heap.objs.size≤T→h'.Tr e oe.cls T→Q () { s with heap:=h' }) :
  Ai M A (do let a ←frameOf env; let pl ←entryPlaceOf L nx; let b ←YbP head a .none (rawInt L) .none pl; setField (.ref e) 1 b) (fun _ s'=>Ai M A (setFlight (.ref e) none) Q E s') E s:=by
 have hene:e∉b8 (env::outer):=fun hm=>by
  obtain⟨_,o,ho,hnf⟩:=hl.mem hm
  rw[he]at ho; injection ho with ho; subst ho; exact hnf vs hd
 refine Af (wpAny_frameOf_fun hfr hl hf fun h₁ hs₁=>?_);refine Af (wpAny_entryPlaceOf fun pl hpl=>?_);unfold YbP newFields;refine Af (FQ ?_ (hpl.sizeOk5 _ _ _ _ _));have he₁:h₁.get? e=some oe:=(hs₁.2.1 e hene).trans he;generalize hrec:({ cls:=.type "traceback",dict:=none,data:=.fields ([head,.ref L,.none,rawInt L,.none]++(if pl.isEmpty then Tn 6 Dd else pl)).toArray }:Obj)=rec
 have hfree:rec.isFreed=false:=by subst hrec; rfl
 have hrd:rec.data=.fields ([head,.ref L,.none,rawInt L,.none]++(if pl.isEmpty then Tn 6 Dd else pl)).toArray:=by subst hrec; rfl
 have he₂:=BK (h:=h₁) rec he₁;refine RJ he₂ hd hsz ?_;have hTe:h₁.objs.size≠e:=Hk (BR he₁);have hd₃:=Um hd (·.setIfInBounds 1 (Be h₁.objs.size));have he₃:=Ka (RL (·.setIfInBounds 1 (Be h₁.objs.size))) he₂ (zb hd₃);have hT₃:=(Kc (h₁.push rec) (RL (·.setIfInBounds 1 (Be h₁.objs.size))) (DX hTe)).trans (CT h₁ hfree);unfold setFlight;refine Af (Hn he₃ hd₃ (x:=.ref h₁.objs.size) (by simp[hsz]) ?_);rw[if_pos (show(Be h₁.objs.size != Dd)=true from by simp)];refine RJ hT₃ hrd (by simp only [Cu,Ca,Ds,G3] <;> omega) ?_
 have keep:∀b o,b≠e→h₁.get? b=some o→(((h₁.push rec).update e (RL (·.setIfInBounds 1 (Be h₁.objs.size)))).update h₁.objs.size (RL (·.setIfInBounds 3 ((none:Option Aa).elim Dd fun f=>rawInt f)))).get? b=some o:=fun b o hbe hb=>by
  have hbT:h₁.objs.size≠b:=Hk (BR hb);rw[Kc _ _ hbT,Kc _ _ (DX hbe)];exact BK _ hb
 refine q _ h₁.objs.size ⟨fun b o hb ho e'=>?_,fun b o hb ho e'=>?_⟩ (Yas (by rw[hs₁.1]; exact Ax _)) (by rw[hs₁.1]; exact Ax _) ?_
 ·exact keep b o (fun z=>ho (by rw[z]; exact Dr.mpr rfl)) ((hs₁.2.1 b hb).trans e')
 ·obtain⟨sl,e2⟩:=hs₁.2.2 b o e'
  exact⟨sl,keep b _ (fun z=>ho (by rw[z]; exact Dr.mpr rfl)) e2⟩
 ·refine⟨_,_,_,_,?_,YbN _ _,(Obj.dict_mapFields _ _).trans hdi,hd₃,by simp[hsz],hTe,Ka _ hT₃ (zb (Um hrd _)),Um hrd _,by first | (simp; done) | (rcases hpl with rfl | ⟨_,_,_,_,_,_,_,rfl⟩ <;> simp)⟩
  rw[Kc _ _ hTe]; exact he₃
theorem ZnX {base:Ar} {env:Env} {outer:List Env} {L e:Aa} {oe:Obj} {vs:Array Ab} {Q:Unit→Ae→Prop} (hfr:A.frames=some (env::outer)) (hl:s.heap.FunFrames base (env::outer)) (hf:env.frame=some L)
  (he:s.heap.get? e=some oe) (hdi:oe.dict=none) (hd:oe.data=.fields vs) (h1:vs[1]?=some .none)
  (q:∀h' T,Heap.Gone (b8 (env::outer)) [e] s.heap h'→s.heap.get? T=none→s.heap.objs.size≤T→h'.Tr e oe.cls T→Q () { s with heap:=h' }):Ai M A (leaving env (.ref e)) Q E s:=by
 unfold leaving noteFrame;simp only [hf];refine Af (Af (Hn he hd h1 ?_));rw[if_neg (by decide)];exact ZnW hfr hl hf he hdi hd (Nq.mp h1).1 q
end
end PySem
namespace L2
open PySem PySem.Spec PyProof.Rows
section
variable {P:Ay} {w:Av} {H H':Hp} {h h' h1 h2:Ar} {a:Aa} {o:HO} {fs own:List Aa}
theorem Ck.at (x:Ck P w H h a o):∃u,h.get? a=some u:=by
 cases o with
 | lst xs=>obtain⟨_,_,_,_,e⟩:=x; exact⟨_,e⟩
 | tup xs=>obtain⟨_,_,_,⟨_,e,_⟩⟩:=x; exact⟨_,e⟩
 | dK kvs=>obtain⟨_,_,_,_,o,_,_,e,_⟩:=x; exact⟨_,e⟩
 | dT kvs=>obtain⟨_,_,_,_,o,_,_,e,_⟩:=x; exact⟨_,e⟩
 | set S n=>obtain⟨o,_,_,_,e,_⟩:=x; exact⟨_,e⟩
 | ins C dx fs=>obtain⟨_,_,_,e,_⟩:=x; exact⟨_,e⟩
 | own y=>obtain⟨_,e⟩:=x; exact⟨_,e⟩
 | xd fs=>obtain⟨_,⟨_,_,_,e,_⟩,_⟩:=x; exact⟨_,e⟩
 | rng lo hi=>obtain⟨_,_,_,e⟩:=x; exact⟨_,e⟩
 | frz ob u=>obtain⟨e,_⟩:=x; exact⟨_,e⟩
 | tbl ps=>exact⟨_,(show h.get? a=some _ from x)⟩
 | met f y=>exact⟨_,(show h.get? a=some _ from x)⟩
 | ext φ=>obtain⟨_,⟨_,e⟩,_⟩:=x; exact⟨_,e⟩
theorem HOk.out (x:HOk P w H h) (e:h.get? a=none):H a=none:=by
 cases q:H a with
 | none=>rfl
 | some u=>obtain⟨v,z⟩:=Ck.at (x a u q); rw[e]at z; cases z
theorem ZwA (u:Un fs [] H H' h h1) (g:Heap.Gone fs own h1 h2) (hn:∀b∈own,h.get? b=none):Un fs [] H H' h h2:=by
 have no:∀b o,h.get? b=some o→b∉own:=fun b o e z=>by rw[hn b z]at e; cases e
 refine⟨fun b o e n hf hx=>g.kept b o hf (no b o e) (u.keep b o e n hf hx),fun b o e n hf hx=>?_,u.free,fun b o e hx=>?_,u.tups,u.frzs,u.tbls⟩
 ·obtain⟨sl,q⟩:=u.slot b o e n hf hx
  obtain⟨sl',q'⟩:=g.slot b _ hf (no b o e) q;exact⟨sl',q'⟩
 ·obtain⟨o',q⟩:=u.there b o e hx
  by_cases hf:b∈fs
  ·obtain⟨sl',q'⟩:=g.slot b _ hf (no b o e) q
   exact⟨_,q'⟩
  ·exact⟨_,g.kept b _ hf (no b o e) q⟩
theorem ZtT (x:HOk P w H h) (g:Heap.Gone fs own h h2) (hf:∀b∈fs,H b=none) (ho:∀b∈own,H b=none):HOk P w H h2:=fun b u e=>by
 refine(x b u e).stay (fun c v hc q=>?_) (fun _ q=>q) fun _ _ q=>q
 have hs:∃z,H c=some z:=by
  rcases hc with z | z
  ·rw[z]; exact⟨_,e⟩
  ·exact⟨_,z⟩
 obtain⟨z,hz⟩:=hs;exact g.kept c v (fun m=>by rw[hf c m]at hz; cases hz) (fun m=>by rw[ho c m]at hz; cases hz) q
end
noncomputable def CX1 (P:Ay) (w:Av):CXT:=fun outer H s E e s'=>∃ea T C H',e=.ref ea∧s'.os=s.os∧Jq s'.gens∧Un (frs outer) [] H H' s.heap s'.heap∧HOk P w H' s'.heap∧H' ea=none∧H' T=none∧
 s.heap.get? ea=none∧s.heap.get? T=none∧s'.heap.Tr ea (.ref C) T∧E (.ref C) none H'
def Lets (X:Cx) (E:XK):Prop:=∀(pins:List (Aa×Obj)) (σ:St) (H:Hp) (s:Ae) (h':Ar) (e C:Aa) (args:List Ab),Inv X pins σ H s→Ar.MadeExcOf s.heap h' e (.ref C) args→E (.ref C) none H→X.xe (.ref e) { s with heap:=h' }
section
variable {P:Ay} {w:Av} {K:Ao} {mg:Str→Option Ab} {base:Ar} {N:List Str} {qual:Str} {scope:DK} {f:Aa} {cd:Ab} {A:Bp} {outer:List Env} {s:Ae} {H:Hp} {E:XK}
theorem cg:Lets (cxOf (CX1 P w) P w K mg base N qual scope f cd A outer s H E) E:=by
 intro pins σ H1 s1 h' e C args I hm hE;obtain⟨t,ho,_,_⟩:=hm.there;have I1:Inv (cxOf (CX1 P w) P w K mg base N qual scope f cd A outer s H E) pins σ H1 { s1 with heap:=h' }:=I.kept (t':=s1.toks) hm.keeps;show Ai _ _ (leaving _ _) _ _ _;refine ZnX (s:={ s1 with heap:=h' }) I.ok.frames I1.stack rfl ho rfl rfl (by simp) fun h2 T g nT _ tr=>?_;have He:H1 e=none:=I.hok.out hm.new;have HT:H1 T=none:=I1.hok.out nT;have un:Un (frs (cxOf (CX1 P w) P w K mg base N qual scope f cd A outer s H E).stack) [] H1 H1 s1.heap h2:=ZwA (Un.kept hm.keeps) g (fun b hb=>by rw[Dr.mp hb]; exact hm.new);have hk:HOk P w H1 h2:=ZtT I1.hok g I1.stkFree (fun b hb=>by rw[Dr.mp hb]; exact He);have I2:Inv (cxOf (CX1 P w) P w K mg base N qual scope f cd A outer s H E) pins σ H1 { s1 with heap:=h2 }:=I.call (g':=s1.gens) (t':=s1.toks) (d':=s1.drawn) (ch:=[]) un hk I.bare (fun b z=>absurd z (by simp))
 have back:∀b,s1.heap.get? b=none→s.heap.get? b=none:=fun b hb=>by
  cases q:s.heap.get? b with
  | none=>rfl
  | some o=>
   obtain⟨o',z⟩:=I.base.there b o q (by show b∉[]; simp);rw[hb]at z; cases z
 have nT1:s1.heap.get? T=none:=by
  cases q:s1.heap.get? T with
  | none=>rfl
  | some o=>have z:=hm.keeps T o q; rw[show h'.get? T=none from nT]at z; cases z
 exact⟨e,T,C,H1,rfl,I.os,I.bare,I2.base,hk,He,HT,back e hm.new,back T nT1,tr,hE⟩
end
theorem Fun.ok1 {P:Ay} {w:Av} {K:Ao} {mg:Str→Option Ab} {base:Ar} {x qual:Str} {st:Ba} {f:Aa} {fd:Bq} {N ps:List Str} {k:Nat} {sp:Sp} (F:Fun K x qual st f fd) (S:FnScope N ps (Bf st)) (len:∀vs H Q E,sp vs H Q E→vs.length=ps.length)
  (hbody:∀(cdv:Ab) (A:Bp) (outer:List Env) (s:Ae) (H:Hp) (vs:List V) (Q:VK) (E:XK),Room k (A.deeper (envOfC qual (Bf st) s.heap.objs.size f cdv))→sp vs H Q E→
   ∃t,PSs (cxOf (CX1 P w) P w K mg base N qual (Bf st) f cdv A outer s H E) (JC st) t∧t { nx:=fun _ H'=>Q .non H',rt:=Q } (start N vs) H):FnOk P w K mg base (CX1 P w) (k+1) f fd ps sp:=by
 obtain⟨oc,od,kV,doc,pm,an,cdv,ct,osl,rfl,lk,hcd⟩:=F.ex;exact Zx4 lk hcd S len fun A outer s H vs Q E hr hsp=>hbody cdv A outer s H vs Q E hr hsp
end L2
namespace L2
open PySem PySem.Spec PyProof.Rows
noncomputable abbrev vErr:List Ab:=[.type "ValueError",.type "Exception",.type "BaseException",.type "object"]
abbrev Vr (K:Ao) (C:Aa):Prop:=Y7 K C vErr "ValueError.__new__" = true
theorem Zx1 {K:Ao} {h:Ar} {C:Aa} (X:K.In h) (q:Vr K C):∃bm N nm qn bs hdct sn sub ab col dd k0 k1 k2 k3 k5 mN,
  h.get? C=some (excClassObj nm qn C N bs bm hdct sn sub ab col dd k0 k1 k2 k3 k5 "ValueError.__new__")∧h.Ns N mN∧mN "__init__" = none∧OwnTail h vErr bm:=by
 unfold Vr Y7 at q
 split at q
 ·rename_i dd cd sl ho
  split at q
  ·rename_i C' bm k0 k1 k2 k3 n k5 hm hs
   simp only [DN,beq_iff_eq,Uq]at q;obtain⟨⟨⟨⟨⟨rfl,rfl⟩,hdel⟩,ht⟩,hok⟩,hni⟩:=q;obtain⟨nm,bs,mro,ns,qn,hd,sn,sub,ab,col,del⟩:=cd
   dsimp only at hm hdel hok hni
   subst hm hdel
   have hsl:sl = #[k0,k1,k2,k3,some (.builtin "ValueError.__new__"),k5]:=by
    obtain⟨l⟩:=sl;simp only at hs;rw[hs]
   subst hsl;exact⟨bm,ns,nm,qn,bs,hd,sn,sub,ab,col,dd,k0,k1,k2,k3,k5,_,X _ _ ho,.of_isNs (PySem.W.isNs_of_in X hok),PySem.W.nsMap_none_of_in X hok hni,PySem.W.tail_of_in X ht⟩
  ·cases q
 ·cases q
section
variable {X:Cx} {E:XK} {C:Aa} {x:Str} {np cpos pos:Pos} {e:Aw} {es:List Aw} {t:TA}
noncomputable def Zwa (C:Aa) (E:XK) (t:TA):TS:=fun _ σ H=>t σ H fun vs H1=>vs.length≤9∧E (.ref C) none H1
theorem cj (hc:X.calm=true) (hl:Lets X E) (q:Vr X.K C) (hg:Gl X x) (hm:X.mg x=some (.ref C)) (ha:PA X (e::es) t) (hdb:(x == ("__debug__" : Str))=false:=by decide)
  (he:BW (e::es) X.env=(false,eval e X.env)::BW es X.env:=by rfl) (hpl:(backTo cpos (BW es X.env)).any (·.1)=false:=by rfl) :
  PS X (.Raise (some (.Call (.Name x np) (e::es) [] cpos)) none pos) (Zwa C E t):=by
 intro pins s σ H D I h;obtain⟨tl,N,nm,qn,bs,hdct,sn,sub,ab,col,dd,k0,k1,k2,k3,k5,mN,hC,hN,hni,T⟩:=Zx1 I.mod.kin q;have F:=PySem.F.excBase_ValueError
 refine wpAny_Raise_call_subU (C:=C) (nm:=nm) (q:=qn) (N:=N) (bs:=bs) (bm:=tl) (hdct:=hdct) (sn:=sn) (sub:=sub) (ab:=ab) (col:=col) (dd:=dd) (k0:=k0) (k1:=k1) (k2:=k2) (k3:=k3) (k5:=k5)
  F F.hasB F (mN:=mN) (T.hasType F.hasBase) (I.ok.hd hc) (by rw[he]; show(false || (backTo cpos (BW es X.env)).any (·.1))=false; rw[hpl]; rfl) hni (Zn I hg hm ⟨rfl,?_⟩ hdb)
 have h2:=ha cpos pins s σ H _ I h;rw[he]at h2 ⊢;refine YaQ (Dn h2 (fun vs s2 h3=>?_) fun _ _ y=>y);obtain⟨us,H2,I2,r,hlen,hE⟩:=h3;refine⟨rfl,?_,I2.bk _ _ hC,hN.keeps I2.bk,T.keeps I2.bk,fun h' e hm=>hl pins σ H2 s2 h' e C vs I2 hm hE⟩;show vs.length≤Bk;rw[←r.length]; exact Eb hlen (by decide)
end
section
variable {X:Cx} {k:Nat} {f C:Aa} {fd:Bq} {ps:List Str} {sp:Sp} {dvs:List V} {ds:List Ab} {x m:Str} {p pos apos:Pos} {e o:Aw} {es:List Aw} {ta:TE} {t:TA}
end
section
variable {X:Cx} {pins:List (Aa×Obj)} {σ:St} {H:Hp} {s:Ae} {ea T T' C:Aa} {h':Ar}
end
section
variable {X:Cx} {b:List Ba} {h₀:zp} {hs:List zp} {tb:TSx} {th:Aa→TS} {pos:Pos} {e:Aw} {te:TEx}
end
end L2
namespace L2
open PySem PySem.Spec PyProof.Rows
structure ExcK (K:Ao) (C:Aa):Prop where
 own:Vr K C
 cl:(PySem.W.clsIn K C).isSome=true
 ga:Cq K (.ref C) "__getattribute__" = some (some (.builtin "BaseException.__getattribute__"))
 gb:Cq K (.ref C) "__getattr__" = some none
 cc:Cq K (.ref C) "__class__" = some (some (.builtin "object.__class__"))
 mb:M8 K C (.type "BaseException")=some true
 mo:M8 K C (.type "object")=some true
section
variable {prog:Ay} {w:Av} {A:Bp} {E:Ab→Ae→Prop} {h:Ar} {g:Array Ir} {d:Drawn} {t:Nat} {os:OsState} {a C:Aa} {o:Obj} {K:Ao}
end
section
variable {X:Cx} {pins l:List (Aa×Obj)} {σ:St} {H:Hp} {s:Ae} {ea T C:Aa} {h':Ar} {oe:Obj}
end
section
variable {X:Cx} {N:Str} {C':Aa} {np pos:Pos} {b₀:Ba} {suite:List Ba} {rest:List zp} {ts tr:Aa→TS}
end
theorem PS.nox {X:Cx} {st:Ba} {t:TS} (h:PS X.nox st t):PS X st t:=fun pins s σ H D I hw=>
 Dn (h pins s σ H D (I.wish _) hw) (fun _ _ q=>q.unwish) fun _ _ z=>Gj z
theorem PA.nox {X:Cx} {es:List Aw} {t:TA} (h:PA X.nox es t):PA X es t:=fun pos pins s σ H Q I hw=>
 Dn (h pos pins s σ H Q (I.wish _) hw) (fun _ _ ⟨v,H',I',r,q⟩=>⟨v,H',I'.unwish,r,q⟩) fun _ _ z=>Gj z
def FnS1 (P:Ay) (w:Av) (K:Ao) (mg:Str→Option Ab) (base:Ar) (k:Nat) (x:Str) (ps:List Str) (sp:Sp):Prop:=∃f fd,FnOk P w K mg base (CX1 P w) k f fd ps sp∧Bs K fd ps []∧Iv K (.ref f)=true∧mg x=some (.ref f)
section
variable {X:Cx} {k k':Nat} {x:Str} {ps:List Str} {sp:Sp} {e:Aw} {es:List Aw} {t:TA} {p pos:Pos}
theorem ZvX {X:Cx}:NQ (CX1 X.prog X.w) X E0:=fun _ _ _ _ _ _ _ ⟨_,_,_,_,_,_,_,_,_,_,_,_,_,_,hE⟩=>hE.elim
theorem ZvY (G:FnS1 X.prog X.w X.K X.mg X.base k x ps sp) (hr:Room k' X.A) (ha:PA X (e::es) t) (hk:k≤k':=by omega) (hg:Gl X x:=by rfl) (hdb:(x == ("__debug__" : Str))=false:=by decide)
  (he:BW (e::es) X.env=(false,eval e X.env)::BW es X.env:=by rfl) (hpl:(backTo pos (BW es X.env)).any (·.1)=false:=by rfl):PE X (.Call (.Name x p) (e::es) [] pos) (tFn sp t):=by
 obtain⟨f,fd,F,hb,kp,hm⟩:=G;rw[←ZnC];exact Zsj F (hr.mono hk) hg hm kp hb .nil ZvX ha hdb he hpl
end
section
variable {K:Ao} {D:Ends} {σ:St} {H:Hp} {Q:VK} {C C':Aa}
theorem ZrB {E:XK} {t:TA} (h:t σ H fun vs H1=>vs.length≤9∧E (.ref C) none H1):Zwa C E t D σ H:=h
end
end L2
namespace PySem
open Sem (wp)
def Heap.RawD (h:Ar) (d:Aa) (es:Array K8) (ep:Nat):Prop:=∃o,h.get? d=some o∧o.ExactDict∧o.data=.dict es ep
section
variable {prog:Ay} {w:Av} {A:Bp} {E:Ab→Ae→Prop} {s:Ae}
theorem Heap.RawD.ty {d:Aa} {es:Array K8} {ep:Nat} (x:s.heap.RawD d es ep):s.TypeIs (.ref d) "dict":=let ⟨o,ho,hc,_⟩:=x; ⟨o,ho,hc.1⟩
theorem ZsH (d:Aa) (hsm:(d == sysModules)=false):MeetsIn prog w (Fd.«dict.items» ⟨[.ref d],[]⟩) (fun _ R z=>(∃es ep,z.heap.RawD d es ep)∧
  R (.ok (.ret (.ref z.heap.objs.size))) { z with heap:=z.heap.push { cls:=.type "dict_items",data:=.fields #[.ref d] } }):=
 .of_wp fun A R z ⟨⟨es,ep,hm⟩,q⟩=>by
  unfold Fd.«dict.items»;refine Af ?_;unfold Ydu;refine Af (wpAny_notOrdered_dict (s:=z) hm.ty ?_);show Ai _ _ (pure d) _ _ z;refine Aq ?_;show Ai _ _ (YbQ d >>= _) _ _ z;unfold YbQ;rw[if_neg (by rw[hsm]; decide)];exact Af (Aq (Af (FQ (Aq ⟨_,rfl,q⟩))))
theorem ZuH {v d:Aa} {es:Array K8} {ep:Nat} {Q:Ab→Ae→Prop} (hv:s.heap.IsItemsView v d) (hm:s.heap.RawD d es ep)
  (q:Q (.ref s.heap.objs.size) { s with heap:=s.heap.push { cls:=.type "dict_itemiterator",data:=.fields #[.none,.bool false,.ref d,.int 0 0,.int es.size 0,.int ep 0,.none,.none] } }) :
  Ai (model prog w) A (pyIter (.ref v)) Q E s:=by
 obtain⟨vo,gv,cv,dv⟩:=id hv;obtain⟨o,go,co,da⟩:=id hm;refine Y8 hv.typeIs YbR (Gu YbR hv.typeIs F.entry_dict_items_iter ?_ (F.args_dict_items_iter_1 _));unfold Fd.«dict_items.__iter__»;refine Af (Aq (Af ?_));unfold Ydv;refine Af (Hn gv dv (x:=.ref d) rfl (Aq (Af ?_)));unfold Ydw;refine Af (zq go da (Af (zr go da ?_)))
 have own:zu "dict_itemiterator" = true:=by decide
 simp only [own,if_true];refine FQ (Aq ⟨_,rfl,"dict_itemiterator",_,⟨_,CT _ rfl,rfl⟩,RM.lookup,?_⟩) (by simp only [sizeOk,YbS,Cu,Ca,Ds,G3,Iu]; omega)
 simpa [rawInt,YbS] using q
theorem ZuG {it d:Aa} {i ep:Nat} {es:Array K8} {ok ov:Ab} {Q:Option Ab→Ae→Prop} (hit:Kl s.heap it d i es.size ep ok ov) (hm:s.heap.RawD d es ep) (hi:i < es.size)
  (q:∀h',zx h' it d (i+1) es.size ep es[i].key es[i].val s.heap.objs.size→h'.get? s.heap.objs.size=some { cls:=.type "tuple",data:=.seq #[es[i].key,es[i].val] }→
   (∀b o,b≠it→s.heap.get? b=some o→h'.get? b=some o)→Q (some (.ref s.heap.objs.size)) { s with heap:=h' }) :
  Ai (model prog w) A (pyNext (.ref it)) Q E s:=by
 obtain⟨hp,g,dr,tk,os⟩:=s;obtain⟨o,go,co,da⟩:=id hm;have ti:Ur ⟨hp,g,dr,tk,os⟩ (.ref it) "dict_itemiterator":=⟨_,hit,rfl⟩;unfold pyNext;refine Af (T9 (M9 (name:=K7 "__next__") ti RM (Gu RM ti YbT ?_ (YbU _))));refine Af (Aq (Af (Af ?_)))
 first | refine Af (Y9 ti (Aq ?_)) | refine Af (Za ti (Aq ?_))
 refine Af (Zb hit rfl ?_)
 have own:zu "dict_itemiterator" = true:=by decide
 simp only [own,if_true];show Ai _ _ (if (Be d == Dd)=true then _ else _) _ _ _;rw[if_neg (show ¬((Be d == Dd)=true) from Cg)];refine Af (Aq (Af (zq go da ?_)));rw[if_neg (by simp)];refine Af (Aq (Af (zr go da ?_)));rw[if_neg (by simp)];refine Aq ?_;simp only [show ¬((i:Int) < 0) by omega,if_false,Ft,Gm hi];refine Af ?_
 first | refine Af (Y9 ti (Aq ?_)) | refine Af (Za ti (Aq ?_))
 refine Af (zy ti ?_);show Ai _ _ (setField (.ref it) 3 (rawInt ((i:Int)+1)) >>= _) _ _ ⟨hp,g,dr,tk,os⟩;refine Af (Nr hit (by simp) fun a1 e1 s1=>?_)
 replace s1:HX it hp a1:=s1
 replace e1:Kl a1 it d (i+1) es.size ep ok ov:=by
  unfold Kl;rw[show((i+1:Nat):Int)=(i:Int)+1 by omega]
  simpa [rawInt] using e1
 have t1:Ur ⟨a1,g,dr,tk,os⟩ (.ref it) "dict_itemiterator":=⟨_,e1,rfl⟩;refine Af (Fq (Af (zy t1 (Af (zy t1 ?_)))));show Ai _ _ (YbV (.ref it) 6 es[i].key es[i].val) _ _ ⟨a1,g,dr,tk,os⟩;unfold YbV;refine Af (xn ?_);have e2:Kl (a1.push { cls:=.type "tuple",data:=.seq #[es[i].key,es[i].val] }) it d (i+1) es.size ep ok ov:=BK _ e1;have z1:a1.objs.size=hp.objs.size:=s1.1;have il:it < hp.objs.size:=BR hit
 have p2:(a1.push { cls:=.type "tuple",data:=.seq #[es[i].key,es[i].val] }).get? hp.objs.size=some { cls:=.type "tuple",data:=.seq #[es[i].key,es[i].val] }:=by rw[←z1]; exact CT _ rfl
 have k2:∀b o,b≠it→hp.get? b=some o→(a1.push { cls:=.type "tuple",data:=.seq #[es[i].key,es[i].val] }).get? b=some o:=fun b o hb e=>BK _ (s1.extBut b o hb e);generalize a1.push { cls:=.type "tuple",data:=.seq #[es[i].key,es[i].val] } = a2 at e2 p2 k2;show Ai _ _ (YbW (.ref it) >>= _) _ _ ⟨a2,g,dr,tk,os⟩;rw[z1];refine Af ?_;unfold YbW;refine Af (Hn e2 rfl (x:=.none) rfl (Aq ?_));simp only [if_true];refine Af (Hn e2 rfl (x:=ok) rfl (Af (Hn e2 rfl (x:=ov) rfl ?_)));refine Af (Nr e2 (by simp) fun a3 e3 s3=>?_)
 replace s3:HX it a2 a3:=s3
 replace e3:Kl a3 it d (i+1) es.size ep es[i].key ov:=e3
 refine Af (Nr e3 (by simp) fun a4 e4 s4=>?_)
 replace s4:HX it a3 a4:=s4
 replace e4:Kl a4 it d (i+1) es.size ep es[i].key es[i].val:=e4
 refine Af (Nr e4 (by simp) fun a5 e5 s5=>?_)
 replace s5:HX it a4 a5:=s5
 replace e5:zx a5 it d (i+1) es.size ep es[i].key es[i].val hp.objs.size:=e5
 refine Af (Nr e5 (by simp) fun a6 e6 s6=>?_)
 replace s6:HX it a5 a6:=s6
 replace e6:zx a6 it d (i+1) es.size ep es[i].key es[i].val hp.objs.size:=e6
 refine Af (wpAny_letGo (Aq (Aq ⟨_,rfl,Aq (q a6 e6 ?_ ?_)⟩)))
 ·exact s6.extBut _ _ (Hk il) (s5.extBut _ _ (Hk il) (s4.extBut _ _ (Hk il) (s3.extBut _ _ (Hk il) p2)))
 ·exact fun b o hb e=>s6.extBut b o hb (s5.extBut b o hb (s4.extBut b o hb (s3.extBut b o hb (k2 b o hb e))))
theorem Zxi {it d:Aa} {ep:Nat} {es:Array K8} {ok ov:Ab} {Q:Option Ab→Ae→Prop} (hh:A.handled=none) (hit:Kl s.heap it d es.size es.size ep ok ov) (hm:s.heap.RawD d es ep)
  (q:∀h',zc it s.heap h'→Q none { s with heap:=h' }):Ai (model prog w) A (pyNext (.ref it)) Q E s:=by
 obtain⟨o,go,co,da⟩:=id hm;have ti:s.TypeIs (.ref it) "dict_itemiterator":=⟨_,hit,rfl⟩;unfold pyNext;refine Af (T9 (M9 (name:=K7 "__next__") ti RM (Gu RM ti YbT ?_ (YbU _))));refine Af (Aq (Af (Af ?_)))
 first | refine Af (Y9 ti (Aq ?_)) | refine Af (Za ti (Aq ?_))
 refine Af (Zb hit rfl ?_)
 have own:zu "dict_itemiterator" = true:=by decide
 simp only [own,if_true];show Ai _ _ (if (Be d == Dd)=true then _ else _) _ _ s;rw[if_neg (show ¬((Be d == Dd)=true) from Cg)];refine Af (Aq (Af (zq go da ?_)));rw[if_neg (by simp)];refine Af (Aq (Af (zr go da ?_)));rw[if_neg (by simp)];refine Aq ?_;simp only [show ¬((es.size:Int) < 0) by omega,if_false,Ft,Np (Ax es.size)];refine Af ?_
 first | refine Af (Y9 ti (Aq ?_)) | refine Af (Za ti (Aq ?_))
 show Ai _ _ (setField (.ref it) 2 .none >>= _) _ _ s;refine Af (RJ hit rfl (by simp) ?_);show Ai _ _ (newExc (.type "StopIteration") [] >>= _) _ _ _;refine Af ?_;simp only [newExc,newTuple];refine Af (FQ ?_ (by size_fits));refine Af (m:=firstArgMember _ _) (Y5 (a:=Dd) (by first | rfl | (simp only [firstArgMember]; rfl)) ?_);refine FQ ?_ (by size_fits);simp only [raiseNew];refine Af (zf ?_);rw[show A.in1.handled=none from hh];refine Af (Aq (zg ?_));refine Af (YW (T:="StopIteration") (b:=true) ⟨_,CT _ rfl,rfl⟩ isSubtype_stop ?_);exact Aq (q _ (((RK ..).extBut.push _).push _))
end
end PySem
namespace PySem
theorem ZiZ:entryFor table "dict_itemiterator.__iter__" = some Fd.«dict_keyiterator.__iter__»:=
 z6 (id':="dict_keyiterator.__iter__") (by kernel_rfl) rfl (by decide +kernel) (by kernel_rfl)
theorem ZrF {prog:Ay} {w:Av} {A:Bp} {E:Ab→Ae→Prop} {s:Ae} {it d:Aa} {i n ep:Nat} {ok ov:Ab} {Q:Ab→Ae→Prop} (hit:Kl s.heap it d i n ep ok ov) (q:Q (.ref it) s):Ai (model prog w) A (pyIter (.ref it)) Q E s:=by
 have ti:s.TypeIs (.ref it) "dict_itemiterator":=⟨_,hit,rfl⟩;refine Y8 ti YbX (Gu YbX ti ZiZ ?_ (F.args_dict_itemiterator_iter_1 _));show Ai _ _ (ret (.ref it)) _ _ s;exact Aq ⟨_,rfl,"dict_itemiterator",_,ti,RM.lookup,q⟩
end PySem
namespace L2
open PySem PySem.Spec PyProof.Rows
theorem Inv.freeze {X:Cx} {pins:List (Aa×Obj)} {σ:St} {H:Hp} {s:Ae} {a:Aa} {kvs:List (List Key×V)} (I:Inv X pins σ H s) (e:H a=some (.dT kvs)):∃o,s.heap.get? a=some o∧Inv X pins σ (upd H a (.frz o (.dT kvs))) s:=by
 have z:=I.hok a _ e;obtain⟨_,_,xs,r,o,es,ep,h1,h2,h3,h4,h5⟩:=(show Ck X.prog X.w H s.heap a (.dT kvs) from z)
 have ne:∀{b:Aa} {u:HO},H b=some u→(∀k,u≠.dT k)→b≠a:=fun q n z=>by rw[z,e]at q; cases q; exact n _ rfl
 have nn:∀{b:Aa},H b=none→b≠a:=fun q z=>by rw[z,e]at q; cases q
 refine⟨o,h1,⟨I.ok,I.os,I.bare,⟨I.base.keep,I.base.slot,fun b u q n hx=>?_,I.base.there,fun b xs q=>?_,fun b u v q=>?_,fun b ps q=>?_⟩,I.loc,I.cell,?_,fun x c q=>?_,fun p hp=>?_,fun b u q=>?_,I.len⟩⟩
 ·have:=I.base.free b u q n hx
  rw[Bo (nn this)]; exact this
 ·have:=I.base.tups b xs q
  rw[Bo (ne this (by intro k h; cases h))]; exact this
 ·have:=I.base.frzs b u v q
  rw[Bo (ne this (by intro k h; cases h))]; exact this
 ·obtain⟨more,this⟩:=I.base.tbls b ps q
  exact⟨more,by rw[Bo (ne this (by intro k h; cases h))]; exact this⟩
 ·rw[Bo (nn I.free)]; exact I.free
 ·rw[Bo (nn (I.freeC x c q))]; exact I.freeC x c q
 ·obtain⟨p1,p2,p3⟩:=I.pin p hp
  exact⟨p1,by rw[Bo (nn p2)]; exact p2,p3⟩
 ·have stay:∀{b:Aa} {u:HO},Ck X.prog X.w H s.heap b u→Ck X.prog X.w (upd H a (.frz o (.dT kvs))) s.heap b u:=fun {b u} y=>
   y.stay (fun _ _ _ q=>q) (fun c q=>by rw[Bo (ne q (by intro k h; cases h))]; exact q) fun c xs q=>by rw[Bo (ne q (by intro k h; cases h))]; exact q
  by_cases hb:b=a
  ·subst hb
   rw[Cp]at q
   cases q
   exact⟨h1,stay z⟩
  ·rw[Bo hb]at q
   exact stay (I.hok b u q)
noncomputable def Itd (a:Aa) (o:Obj) (kvs:List (List Key×V)):It:=⟨fun i H=>i < kvs.length∧H a=some (.frz o (.dT kvs)),fun i H x H'=>∃T b k v,kvs[i]?=some (k,v)∧H b=some (.tup (k.map kV))∧H T=none∧x=.ref T∧H'=upd H T (.tup [.ref b,v]),fun i H=>i=kvs.length∧H a=some (.frz o (.dT kvs))⟩
theorem cu {P:Ay} {w:Av} {H:Hp} {h:Ar} {a:Aa} {kvs:List (List Key×V)} {o:Obj} {es:Array K8} {ep:Nat} (x:Ck P w H h a (.dT kvs)) (ho:h.get? a=some o) (hd:o.data=.dict es ep):h.RawD a es ep∧es.size=kvs.length∧
  ∀i k v,kvs[i]?=some (k,v)→∃b,∃hi:i < es.size,es[i].key=.ref b∧H b=some (.tup (k.map kV))∧RelV v es[i].val:=by
 obtain⟨z,y,xs,r,o',es',ep',h1,h2,h3,h4,h5⟩:=x;rw[ho]at h1
 cases h1
 rw[hd]at h3
 cases h3
 have ln:es.size=xs.length:=by rw[←FJ,h4,Az]
 have pl:kvs.length=xs.length:=K1 r;refine⟨⟨o,ho,h2,hd⟩,by omega,fun i k v hk=>?_⟩
 have get:∀{l:List (List Key×V)} {m:List (List Key×Aa×Ab)},Bd (fun(p:List Key×V) (q:List Key×Aa×Ab)=>p.1=q.1∧H q.2.1=some (.tup (p.1.map kV))∧RelV p.2 q.2.2) l m→∀(i:Nat) (p:List Key×V),l[i]?=some p→
   ∃q:List Key×Aa×Ab,m[i]?=some q∧p.1=q.1∧H q.2.1=some (.tup (p.1.map kV))∧RelV p.2 q.2.2:=by
  intro l m q
  induction q with
  | nil=>intro i p hp; cases hp
  | cons hq _ ih=>
   intro i p hp
   cases i with
   | zero=>cases hp; exact⟨_,rfl,hq⟩
   | succ i=>exact ih i p hp
 obtain⟨q,hq,e1,e2,e3⟩:=get r i _ hk
 have hi:i < es.size:=by rw[ln]; exact(Cr.mp hq).1
 have he:es[i]?=some (entryOfKey (tupleKind (Gb P w)) q):=by
  rw[←IK,h4,CQ,hq]; rfl
 have he':es[i]=entryOfKey (tupleKind (Gb P w)) q:=by
  rw[Gm hi]at he;exact De he
 exact⟨q.2.1,hi,by rw[he']; rfl,e2,by rw[he']; exact e3⟩
theorem Zqu {P:Ay} {w:Av} {K:Ao} {elts:List Aw} {kk:Nat} {ps:Pos} {a it:Aa} {o:Obj} {kvs:List (List Key×V)} {ep:Nat} {es:Array K8} (hd:o.data=.dict es ep) (hen:es.size=kvs.length) :
  Turn P w K (.Tuple elts kk ps) (Itd a o kvs) [it] it (fun i h=>∃ok ov,Kl h it a i es.size ep ok ov) where
 mem:=by simp
 obj:=fun i h st b hb=>by
  rw[Dr.mp hb];obtain⟨ok,ov,he⟩:=st;exact⟨_,he,fun v z=>by cases z⟩
 keep:=fun i h h' st k=>by
  obtain⟨ok,ov,he⟩:=st;exact⟨ok,ov,k it (by simp) _ he⟩
 item:=by
  intro X hP hw hK hc i pins s σ H E I hf st hg;obtain⟨ok,ov,he⟩:=st;subst hP hw hK;obtain⟨ho,hx⟩:=(show Ck X.prog X.w H s.heap a (.frz o (.dT kvs)) from I.hok a _ hg.2);obtain⟨raw,_,get⟩:=cu hx ho hd
  have hi:i < es.size:=by rw[hen]; exact hg.1
  refine ZuG he raw hi fun h1 ho1 hT hk=>?_;have hil:it < s.heap.objs.size:=BR he;refine⟨_,rfl,wpAny_letOwnedTupleGo_items ho1 fun h2 he2 hs2=>?_⟩;obtain⟨⟨k,v⟩,hkv⟩ : ∃p,kvs[i]?=some p:=⟨kvs[i]'hg.1,CJ hg.1⟩;obtain⟨b,_,eb,hb,rv⟩:=get i k v hkv
  have I2:Inv X pins σ (upd H s.heap.objs.size (.tup [.ref b,v])) { s with heap:=h2,toks:=s.toks }:=
   I.pairTurn (ch:=[it]) (x:=.ref b) (y:=v) (u:=es[i].key) (v:=es[i].val) eb rv hf (fun c hc=>by rw[Dr.mp hc]; exact Ce hil)
    (fun c u hc z=>by
     have hc1:c≠it:=fun q=>hc (by simp[q])
     exact(hs2.2 c hc1).trans (hk c u hc1 z)) ((hs2.2 _ (Hk hil)).trans hT)
  refine⟨.ref s.heap.objs.size,_,I2,rfl,⟨_,b,k,v,hkv,hb,I.hok.fresh (Ax _),rfl,rfl⟩,⟨_,_,he2⟩,fun c hc=>?_⟩;rw[Dr.mp hc,Bo (Ce hil)];exact(hf it (by simp)).1
 done:=by
  intro X hP hw hK hc i pins s σ H E I hf st hg;obtain⟨ok,ov,he⟩:=st;subst hP hw hK;obtain⟨ho,hx⟩:=(show Ck X.prog X.w H s.heap a (.frz o (.dT kvs)) from I.hok a _ hg.2);obtain⟨raw,_,_⟩:=cu hx ho hd
  have hi:i=es.size:=by rw[hen]; exact hg.1
  rw[hi]at he;obtain⟨f0,f1,f2,f3,f4,f5⟩:=hf it (by simp);exact Zxi (I.ok.hd hc) he raw fun h1 eb=>⟨rfl,I.turned (t':=s.toks) (fun b u hb z=>eb b u hb z) f0 f1 f3 f4 f5⟩
 self:=fun A i s Q E st h=>by
  obtain⟨ok,ov,he⟩:=st;exact ZrF he h
section
variable {X:Cx}
noncomputable def cz (td:TE):TI:=fun σ H R=>td σ H fun x H1=>∃a o kvs,x=.ref a∧H1 a=some (.frz o (.dT kvs))∧R (Itd a o kvs) H1
theorem c7 {elts:List Aw} {kk:Nat} {ps:Pos} {o:Aw} {td:TE} {apos cpos:Pos} (ho:PE X o td) (hbase:attributeBase o "items" X.env (eval o X.env)=eval o X.env:=by rfl) (hline:(apos.endLine == cpos.line)=true:=by rfl) :
  PI X (.Tuple elts kk ps) (.Call (.Attribute o "items" apos) [] [] cpos) (cz td):=by
 intro pins s σ H R I h;refine YaO hbase hline (thn (ho pins s σ H _ I h) fun v s1 hv=>?_);obtain⟨x,H2,I2,r1,a,ob,kvs,rfl,e2,q⟩:=hv
 cases r1
 obtain⟨hob,hx⟩:=(show Ck X.prog X.w H2 s1.heap a (.frz ob (.dT kvs)) from I2.hok a _ e2);obtain⟨_,hsm,xs,_,o',es,ep,h1,hex,hda,_⟩:=(show Ck X.prog X.w H2 s1.heap a (.dT kvs) from hx);rw[hob]at h1
 cases h1
 obtain⟨raw,hen,_⟩:=cu hx hob hda;refine⟨"dict","dict.items",F.plainAttrs_dict,YbY,F.type_dict_items,raw.ty,fun b e=>by cases e; exact⟨ob,hob,hex.2.1⟩,?_⟩;refine vq rfl (YaP (call_meetsIn YbY raw.ty F.entry_dict_items (F.args_dict_items_1 _) (ZsH a hsm) ⟨⟨es,ep,raw⟩,?_⟩));have I3:Inv X pins σ H2 { s1 with heap:=s1.heap.push { cls:=.type "dict_items",data:=.fields #[.ref a] } }:=I2.kept (t':=s1.toks) fun b u e=>BK _ e;have raw3:(s1.heap.push { cls:=.type "dict_items",data:=.fields #[.ref a] }).RawD a es ep:=⟨ob,BK _ hob,hex,hda⟩;refine ZuH (s:={ s1 with heap:=s1.heap.push { cls:=.type "dict_items",data:=.fields #[.ref a] } }) ⟨_,CT _ rfl,rfl,rfl⟩ raw3 ?_;exact⟨_,[_],_,_,H2,rfl,I3.kept (t':=s1.toks) fun b u e=>BK _ e,Zqu hda hen,⟨_,_,CT _ rfl⟩,fun b hb=>by rw[Dr.mp hb]; exact I3.fpOk (Ax _) (I3.hok.fresh (Ax _)),q⟩
end
section
variable {σ:St} {H:Hp} {Q:VK} {D:Ends} {K:Ao} {g:TG} {tb:TS}
def ZxJ (a:Aa) (o:Obj) (kvs:List (List Key×V)) (g:TG) (tb:TS) (D:Ends) (σ:St) (H:Hp):Prop:=
 ∃W:Nat→Nat→St→Hp→Prop,(∃m,W 0 m σ H)∧∀i m σ H,W i m σ H→
   ((Itd a o kvs).stop i H∧D.nx σ H)∨((Itd a o kvs).go i H∧∃N:St→Hp→Prop,(∀σ' H',N σ' H'→∃m',m' < m∧W (i+1) m' σ' H')∧∀x H',(Itd a o kvs).yld i H x H'→g x σ H' fun σ2 H2=>tb { D with nx:=N,ct:=N,bk:=D.nx } σ2 H2)
def SeqD (x:V) (g:TG) (tb:TS) (D:Ends) (σ:St) (H1:Hp):Prop:=∃a o kvs,x=.ref a∧H1 a=some (.frz o (.dT kvs))∧ZxJ a o kvs g tb D σ H1
theorem Zvp {td:TE} (h:td σ H fun x H1=>SeqD x g tb D σ H1):tFor (cz td) g tb D σ H:=h
theorem ZzT {a:Aa} {o:Obj} {kvs:List (List Key×V)} (Pv:Nat→St→Hp→Prop) (h0:Pv 0 σ H) (hl:∀i σ H,i≤kvs.length→Pv i σ H→H a=some (.frz o (.dT kvs)))
  (hs:∀(i:Nat) (k:List Key) (v:V) (T b:Aa) σ H H',kvs[i]?=some (k,v)→Pv i σ H→Same H H'→H b=some (.tup (k.map kV))→H T=none→H' T=some (.tup [.ref b,v])→g (.ref T) σ H' fun σ2 H2=>tb { D with nx:=Pv (i+1),ct:=Pv (i+1),bk:=D.nx } σ2 H2) (hd:∀σ H,Pv kvs.length σ H→D.nx σ H):ZxJ a o kvs g tb D σ H:=by
 refine⟨fun i m σ H=>m=kvs.length - i∧i≤kvs.length∧Pv i σ H,⟨kvs.length,by simp,Cy _,h0⟩,?_⟩;rintro i m σ H ⟨rfl,hi,p⟩
 by_cases hlt:i < kvs.length
 ·refine .inr ⟨⟨hlt,hl i σ H hi p⟩,Pv (i+1),fun σ' H' p'=>⟨kvs.length - (i+1),by omega,rfl,hlt,p'⟩,fun x H' y=>?_⟩
  obtain⟨T,b,k,v,hv,hb,hT,rfl,rfl⟩:=y;exact hs i k v T b σ H _ hv p (GC hT _) hb hT Cp
 ·have e:i=kvs.length:=by omega
  subst e;exact .inl ⟨⟨rfl,hl _ σ H hi p⟩,hd σ H p⟩
end
end L2
namespace PySem
theorem Zq6 {prog:Ay} {w:Av} {A:Bp} {R:K5→Ae→Prop} {s:Ae} {elt target iter:Aw} {ifs:List Aw} {scope:DK} {pos:Pos} {it acc:Ab} {env:Env} (I:Nat→Ae→Prop)
  (turn:∀n s,I n s→Ai (model prog w) A (pyNext it) (fun r s1=>match r with
   | none=>R (.ok .next) s1
   | some v=>Ai (model prog w) A (letOwnedTupleGo target it v) (fun _ s2=>Ai (model prog w) A (assign target env v) (fun _ s3=>
     Ai (model prog w) A (forIn ifs true fun c r=>if r=true then do let ok ←isTrue c env (eval c env); pure (La ok) else pure (La r)) (fun ok s4=>
      if ok=true then Ai (model prog w) A (eval elt env) (fun x s5=>
       Ai (model prog w) A (call (.builtin "list.append") [acc,x]) (fun _ s6=>∃m,m < n∧I m s6) (notedBy (model prog w) A env fun e s'=>R (.error e) s') s5) (notedBy (model prog w) A env fun e s'=>R (.error e) s') s4
      else ∃m,m < n∧I m s4) (notedBy (model prog w) A env fun e s'=>R (.error e) s') s3) (notedBy (model prog w) A env fun e s'=>R (.error e) s') s2) (notedBy (model prog w) A env fun e s'=>R (.error e) s') s1) (notedBy (model prog w) A env fun e s'=>R (.error e) s') s)
  (n:Nat) (h:I n s):codeAny (model prog w) A (.compLoop (.ListComp elt [⟨target,iter,ifs,0⟩] scope pos) 0 it acc env) R s:=by
 refine codeAny_loop rfl I (fun n s hI=>?_) n h;show Ai _ A ((compTurn (.ListComp elt [⟨target,iter,ifs,0⟩] scope pos) 0 it acc env).onRaise (fun x=>do noteFrame x env; theTreesLotGoes x)) _ _ s;refine wpAny_noted ?_;rw[compTurn_list];refine Af (uo (Af (Dn (turn n s hI) (fun r s1 h1=>?_) fun _ _ z=>z)))
 cases r with
 | none=>exact Aq h1
 | some v=>
  refine Af (Dn h1 (fun _ s2 h2=>?_) fun _ _ z=>z);refine Af (Dn h2 (fun _ s3 h3=>Af (Dn h3 (fun ok s4 h4=>?_) fun _ _ z=>z)) fun _ _ z=>z)
  cases ok with
  | false=>exact Aq ⟨rfl,h4⟩
  | true=>
   exact Af (Af (Dn h4 (fun x s5 h5=>Af (Dn h5 (fun _ s6 h6=>Aq (Aq ⟨rfl,h6⟩)) fun _ _ z=>z)) fun _ _ z=>z))
end PySem
namespace L2
open PySem PySem.Spec PyProof.Rows
noncomputable def Gg (X:Cx) (x x':Str) (ns:List Str) (scope:DK) (cl:List (Str×Aa)) (s:Ae) (H:Hp) (ex:List Aa):Cx:={ Ew X x ns scope cl s H ex with N:=x::x'::ns }
def Sd (sc:DK) (N:List Str) (x x':Str) (ns:List Str) (ix:List Nat) (scope:DK):Prop:=
 scope.kind=.function∧(∀y∈scope.names,y.2≠.cell∧(y.2=.local→scope.names.lookup y.1=some .local)∧(y.2=.free→sc.names.lookup y.1=some .cell∨sc.names.lookup y.1=some .free))∧
 scope.names.lookup x=some .local∧scope.names.lookup x'=some .local∧(∀y∈ns,scope.names.lookup y=some .free)∧(ix.map fun k=>N[k]?)=ns.map some∧(x::x'::ns).Nodup
noncomputable instance (sc:DK) (N:List Str) (x x':Str) (ns:List Str) (ix:List Nat) (scope:DK):Decidable (Sd sc N x x' ns ix scope):=by unfold Sd; infer_instance
def Vt (J:It) (ix:List Nat) (tc:TT) (te:TE) (σ:St) (Q:VK) (H1:Hp):Prop:=∀acc,H1 acc=none→∃W:Nat→Nat→List V→Hp→Prop,(∃m,W 0 m [] (upd H1 acc (.lst [])))∧
 ∀i m ys H,W i m ys H→(J.stop i H∧Q (.ref acc) H)∨(J.go i H∧∀x H',J.yld i H x H'→∃T va vb,x=.ref T∧H' T=some (.tup [va,vb])∧tc (some va::some vb::subS σ ix) H' fun b H2=>
  if b=true then te (some va::some vb::subS σ ix) H2 fun y H3=>H3 acc=some (.lst ys)∧ys.length < Bk∧∃m',m' < m∧W (i+1) m' (ys++[y]) (upd H3 acc (.lst (ys++[y]))) else ∃m',m' < m∧W (i+1) m' ys H2)
noncomputable def Zv8 (wi:TI) (ix:List Nat) (tc:TT) (te:TE):TE:=fun σ H Q=>wi σ H fun J H1=>Vt J ix tc te σ Q H1
section
variable {X:Cx} {pins:List (Aa×Obj)} {σ:St} {H:Hp} {s:Ae} {cl:List (Str×Aa)} {x x':Str} {ns:List Str} {ix:List Nat} {sc scope:DK} {N:List Str} {fp:List Aa}
theorem ZtQ (I:Inv X pins σ H s) (f:∀b∈fp,FpOk X pins H b) (hlt:∀b∈fp,b < s.heap.objs.size) (hcl:∀y c,cl.lookup y=some c→X.env.cells.lookup y=some c) {H':Hp} (hn:∀b∈fp,H' b=none):∀b∈fp,FpOk (Gg X x x' ns scope cl s H fp) [] H' b:=fun b hb=>by
 obtain⟨f0,f1,f2,f3,f4,f5⟩:=f b hb;refine⟨hn b hb,Ce (hlt b hb),fun z=>?_,.inl hb,fun y c e=>f4 y c (hcl y c e),fun p hp=>?_⟩
 ·rcases CZ.mp (I.stkSub b z) with z | z
  ·exact f1 z
  ·exact f2 z
 ·exact absurd (show p∈([]:List (Aa×Obj)) from hp) (by simp)
theorem ZrD {h1:Ar} {m:Str→Option Ab} {t':Nat} (I:Inv X pins σ H s) (hsc:X.env.scope=sc) (hN:X.N=N) (C:Sd sc N x x' ns ix scope) (hcl:∀y c,cl.lookup y=some c→X.env.cells.lookup y=some c)
  (hcla:∀y∈scope.names,y.2=.free→∃c,cl.lookup y.1=some c) (f:∀b∈fp,FpOk X pins H b) (hlt:∀b∈fp,b < s.heap.objs.size) (hn:h1.Ns s.heap.objs.size m) (hk:∀b o,s.heap.get? b=some o→h1.get? b=some o) :
  Inv (Gg X x x' ns scope cl s H fp) [] (none::none::subS σ ix) H { s with heap:=h1,toks:=t' }:=by
 obtain⟨c1,c2,c3,c3',c4,c5,c6⟩:=C;have kind:∀y,(relabel scope X.env).names.lookup y=(scope.names.lookup y).map fun k=>if (k == Hr && X.env.scope.kind == .function && X.env.kindOf y == some .cell)=true then Yn else k:=fun y=>Z4 scope.names y
 have fr:∀y,((relabel scope X.env).names.lookup y=some .cell∨(relabel scope X.env).names.lookup y=some .free)→scope.names.lookup y=some .free:=fun y h=>by
  rw[kind y]at h
  cases e:scope.names.lookup y with
  | none=>rw[e]at h; simp at h
  | some k=>
   rw[e]at h;have hm:=JL e
   cases k with
   | free=>rfl
   | cell=>exact absurd rfl (c2 _ hm).1
   | «local»=>simp at h
   | globalExplicit=>simp at h
   | globalImplicit=>simp at h
 have fr':∀y,scope.names.lookup y=some .free→(relabel scope X.env).names.lookup y=some .cell∨(relabel scope X.env).names.lookup y=some .free:=fun y h=>by
  rw[kind y,h]
  by_cases hc:(Hr == Hr && X.env.scope.kind == .function && X.env.kindOf y == some .cell)=true
  ·left; rw[Kf,if_pos hc]
  ·right; rw[Kf,if_neg hc]
 have noC:∀p:Aa×Obj,p∉(Gg X x x' ns scope cl s H fp).pn++[]:=fun p hp=>absurd (show p∈([]:List (Aa×Obj)) from hp) (by simp)
 have lenE:ix.length=ns.length:=by
  have:=congrArg X8 c5
  rwa [Az,Az]at this
 refine⟨⟨I.ok.mod,c1,I.ok.glob,I.ok.blt,Ax _,fun y z c h1 h2=>I.ok.inj y z c (hcl y c h1) (hcl z c h2),fun y hy=>?_,fun y c hy=>absurd hy (by simp[Gg,Ew]),I.ok.hd,I.ok.frames,.inl rfl,fun b hb=>?_,I.bs,
  Eb I.ok.bsz I.sz,fun b o e hb=>?_,fun b hb=>?_,I.stack,I.stkFree⟩,rfl,I.bare,Un.kept hk,⟨m,hn,fun i y v e1 e2 e3=>?_⟩,fun y c e=>?_,I.hok.fresh (Ax _),fun y c e=>I.freeC y c (hcl y c e),fun p hp=>absurd hp (noC p),I.hok.kept hk,?_⟩
 ·exact hcla _ (JL (fr y hy)) rfl
 ·obtain⟨f0,f1,f2,f3,f4,f5⟩:=f b hb
  exact⟨Ce (hlt b hb),fun y c e=>f4 y c (hcl y c e)⟩
 ·obtain⟨f0,f1,f2,f3,f4,f5⟩:=f b hb
  rcases f3 with z | z
  ·exact I.ok.noex b o e z
  ·exact absurd (Er (BR (I.ok.bs b o e).1) z) (Hi _)
 ·obtain⟨f0,f1,f2,f3,f4,f5⟩:=f b hb
  intro z
  rcases CZ.mp (I.stkSub b z) with z | z
  ·exact f1 z
  ·exact f2 z
 ·cases i with
  | zero=>cases e2
  | succ i=>
  cases i with
  | zero=>cases e2
  | succ j=>
   have e1':ns[j]?=some y:=e1;have e2':(ix.map fun k=>(σ[k]?).join)[j]?=some (some v):=e2;have e5:=congrArg (fun l=>l[j]?) c5;simp only [CQ,e1',Kf]at e5 e2'
   cases ek:ix[j]? with
   | none=>rw[ek]at e5; cases e5
   | some k=>
    rw[ek]at e5 e2'
    have eN:N[k]?=some y:=by simpa using e5
    have eσ:(σ[k]?).join=some v:=by simpa using e2'
    have eσ':σ[k]?=some (some v):=by
     cases q:σ[k]? with
     | none=>rw[q]at eσ; cases eσ
     | some w=>rw[q]at eσ; have:w=some v:=eσ; rw[this]
    have hy:=c4 y (Df e1');have hk':=(c2 _ (JL hy)).2.2 rfl;rw[←hsc]at hk';obtain⟨m0,hn0,hl⟩:=I.loc;obtain⟨u,r,l⟩:=hl k y v (by rw[hN]; exact eN) eσ' (.inr hk');refine⟨u,r,?_⟩
    rcases l with⟨kl,_⟩ | ⟨_,c,ec,z⟩
    ·exfalso
     have kl:X.env.scope.names.lookup y=some .local:=kl;rw[kl]at hk'
     rcases hk' with z | z <;> cases z
    ·obtain⟨c',ec'⟩:=hcla _ (JL hy) rfl
     have ee:c'=c:=by
      have:=hcl y c' ec';rw[ec]at this;exact(De this).symm
     subst ee;obtain⟨o,ho,hd⟩:=z;exact .inr ⟨fr' y hy,c',ec',⟨o,hk _ _ ho,hd⟩⟩
 ·obtain⟨v,o,ho,hd⟩:=I.cell y c (hcl y c e)
  exact⟨v,o,hk _ _ ho,hd⟩
 ·show(none::none::subS σ ix).length=(x::x'::ns).length
  rw[Ds,Ds,Ds,Ds];unfold subS;rw[Az,lenE]
end
section
variable {X:Cx} {pins:List (Aa×Obj)} {σ:St} {H:Hp} {s:Ae} {cl:List (Str×Aa)} {x x':Str} {ns:List Str} {ix:List Nat} {sc scope:DK} {N:List Str} {fp:List Aa} {elt iter:Aw} {px px' tp pos:Pos} {tk:Nat} {ifs:List Aw} {tc:TT} {te:TE} {wi:TI}
theorem Zq7 {E:Ab→Ae→Prop} {J:It} {it:Aa} {tn:Nat→Ar→Prop} {Q:VK} {RR:Ab→Aa→K5→Ae→Prop} (hsc:X.env.scope=sc) (hN:X.N=N) (C:Sd sc N x x' ns ix scope) (hc:X.calm=true)
  (ht:∀cl s H ex,PTs (Gg X x x' ns scope cl s H ex) ifs tc) (he:∀cl s H ex,PE (Gg X x x' ns scope cl s H ex) elt te) (I:Inv X pins σ H s) (hcl:∀y c,cl.lookup y=some c→X.env.cells.lookup y=some c)
  (hcla:∀y∈scope.names,y.2=.free→∃c,cl.lookup y.1=some c) (T:Turn X.prog X.w X.K (.Tuple [.Name x px,.Name x' px'] tk tp) J fp it tn) (st:tn 0 s.heap) (f:∀b∈fp,FpOk X pins H b) (h:Vt J ix tc te σ Q H)
  (fin:∀D C m s' H',Inv X pins σ H' s'→s'.heap.Ns C m→FpOk X pins H' C→Q (.ref D) H'→RR (.ref D) C (.ok .next) s') :
  Ai (model X.prog X.w) X.A (newList []) (fun ja s3=>Ai (model X.prog X.w) X.A (newFunctionEnv scope X.env.globals cl [] X.env.qual none .none (some X.env)) (fun ce s4=>
   codeAny (model X.prog X.w) X.A (.compStart (.ListComp elt [⟨.Tuple [.Name x px,.Name x' px'] tk tp,iter,ifs,0⟩] scope pos) 0 (.ref it) ja { ce with scope:=relabel scope X.env }) (RR ja ce.locals) s4) E s3) E s:=by
 have hC:=C;obtain⟨c1,c2,c3,c3',c4,c5,c6⟩:=C;have hfr:H s.heap.objs.size=none:=I.hok.fresh (Ax _);obtain⟨W,⟨m0,w0⟩,turn⟩:=h _ hfr;refine FQ (Ya2 (fun y hy=>(c2 y hy).1) (by intro y hy; simp at hy) (fun h1 hn1 hs1=>?_) c1);have I3:=I.lnew (its:=[]) (ys:=[]) (t':=s.toks) .nil (Cy _)
 have hlt0:∀b∈fp,b < s.heap.objs.size:=fun b hb=>by
  obtain⟨o,ho,_⟩:=T.obj _ _ st b hb;exact BR ho
 generalize hs3:({ s with heap:=s.heap.push { cls:=.type "list",data:=.seq ([]:List Ab).toArray },toks:=s.toks }:Ae)=s3 at I3
 have e3:s3.heap=s.heap.push { cls:=.type "list",data:=.seq ([]:List Ab).toArray }:=by rw[←hs3]
 have sz3:s3.heap.objs.size=s.heap.objs.size+1:=by rw[e3,J5]
 have f3:∀b∈fp,FpOk X pins (upd H s.heap.objs.size (.lst [])) b:=fun b hb=>⟨by rw[Bo (Ce (hlt0 b hb))]; exact(f b hb).1,(f b hb).2⟩
 have hlt:∀b∈fp,b < s3.heap.objs.size:=fun b hb=>by rw[sz3]; exact Js (hlt0 b hb)
 have hk:∀b o,s3.heap.get? b=some o→h1.get? b=some o:=fun b o e=>by
  refine(hs1.2 b ?_).trans (BK _ ?_)
  ·have:=BR e
   rw[sz3]at this;show b≠(s.heap.push _).objs.size;rw[J5];exact Ce this
  ·rw[e3]at e; exact e
 have hn3:h1.Ns s3.heap.objs.size (fun y=>([]:List (Str×Ab)).reverse.lookup y):=by rw[e3]; exact hn1
 have I4:=ZrD (t':=s3.toks+([]:List (Str×Ab)).length) I3 hsc hN hC hcl hcla f3 hlt hn3 hk;have st4:tn 0 h1:=T.keep _ _ _ st fun b hb o e=>hk b o (by rw[e3]; exact BK _ e);have stat:∀{H':Hp},(∀b∈fp,H' b=none)→∀b∈fp,FpOk (Gg X x x' ns scope cl s3 (upd H s.heap.objs.size (.lst [])) fp) [] H' b:=fun {H'} hn=>ZtQ I3 f3 hlt hcl hn
 have loop:∀s4:Ae,s4 = { s3 with heap:=h1,toks:=s3.toks+([]:List (Str×Ab)).length }→
   codeAny (model X.prog X.w) X.A (.compLoop (.ListComp elt [⟨.Tuple [.Name x px,.Name x' px'] tk tp,iter,ifs,0⟩] scope pos) 0 (.ref it) (.ref s.heap.objs.size) (compEnvC scope cl s3.heap.objs.size X.env)) (RR (.ref s.heap.objs.size) s3.heap.objs.size) s4:=by
  rintro s4 rfl;refine Zq6 (fun n s'=>∃i v0 v1 ys H',Inv (Gg X x x' ns scope cl s3 (upd H s.heap.objs.size (.lst [])) fp) [] (v0::v1::subS σ ix) H' s'∧tn i s'.heap∧(∀b∈fp,H' b=none)∧W i n ys H') ?_ m0 ⟨0,none,none,[],_,I4,st4,fun b hb=>(f3 b hb).1,w0⟩;rintro n s5 ⟨i,v0,v1,ys,H5,I5,st5,fr5,w5⟩
  rcases turn i n ys H5 w5 with⟨stop,q⟩ | ⟨go,step⟩
  ·refine Dn (T.done (Gg X x x' ns scope cl s3 (upd H s.heap.objs.size (.lst [])) fp) rfl rfl rfl hc i [] s5 _ H5 _ I5 (stat fr5) st5 stop) (fun r s6 hr=>?_) fun _ _ e=>e
   obtain⟨hr,I6⟩:=hr;subst hr;obtain⟨m6,hn6,_⟩:=id I6.loc;refine fin _ _ m6 s6 H5 (I3.call' I6.os I6.base I6.hok I6.bare fun b hb=>?_) hn6 (I3.fpOk (Ax _) I6.free) q;obtain⟨g0,g1,g2,g3,g4,g5⟩:=f3 b hb;exact⟨g3,g1,g4,g5⟩
  ·refine Dn (T.item (Gg X x x' ns scope cl s3 (upd H s.heap.objs.size (.lst [])) fp) rfl rfl rfl hc i [] s5 _ H5 _ I5 (stat fr5) st5 go) (fun r s6 hr=>?_) fun _ _ e=>e
   obtain⟨u,hr,h6⟩:=hr;subst hr;refine Dn h6 (fun _ s6 q6=>?_) fun _ _ e=>e;obtain⟨xv,H6,I6,r6,y6,st6,fr6⟩:=q6;have I6':=I6.pinned (stat fr6) (T.obj _ _ st6);obtain⟨Tt,va,vb,rfl,eT,step'⟩:=step xv _ y6
   have again:∀{m':Nat} {ys':List V} {H7:Hp} {s7:Ae},Inv (Gg X x x' ns scope cl s3 (upd H s.heap.objs.size (.lst [])) fp) ([]++NB fp s6.heap) (some va::some vb::subS σ ix) H7 s7→W (i+1) m' ys' H7→
     ∃i v0 v1 ys H',Inv (Gg X x x' ns scope cl s3 (upd H s.heap.objs.size (.lst [])) fp) [] (v0::v1::subS σ ix) H' s7∧tn i s7.heap∧(∀b∈fp,H' b=none)∧W i m' ys H':=fun {m' ys' H7 s7} I7 w7=>by
    refine⟨i+1,some va,some vb,ys',H7,I7.unpinned,T.keep _ _ _ st6 fun b hb o e=>(I7.pin (b,o) (Gs _ (Gs _ (NK hb e)))).1,fun b hb=>?_,w7⟩;obtain⟨o,e,d⟩:=T.obj _ _ st6 b hb;exact(I7.pin (b,o) (Gs _ (Gs _ (NK hb e)))).2.1
   have lx:(relabel scope X.env).names.lookup x=some .local:=xg c3;have lx':(relabel scope X.env).names.lookup x'=some .local:=xg c3';have hg2:PG (Gg X x x' ns scope cl s3 (upd H s.heap.objs.size (.lst [])) fp) (.Tuple [.Name x px,.Name x' px'] tk tp) _:=RX (show X.calm=true from hc) (Je (UV (i:=0) (x:=x) (pos:=px) c6 rfl (.inl lx) (.inr lx)) (Je (UV (i:=1) (x:=x') (pos:=px') c6 rfl (.inl lx') (.inr lx')) RW));refine Dn (hg2 _ s6 _ H6 (.ref Tt) u (fun σ' H'=>σ'=some va::some vb::subS σ ix∧H'=H6) I6' r6 (R9 eT ⟨rfl,rfl⟩)) (fun _ s7 h7=>?_) fun _ _ e=>e.elim;obtain⟨σ7,H7,I7,rfl,rfl⟩:=h7;refine Dn (ht cl s3 _ fp _ s7 _ _ _ I7 step') (fun b s8 h8=>?_) fun _ _ e=>e.elim;obtain⟨H8,I8,q8⟩:=h8
   cases b with
   | false=>
    rw[if_neg Cg]at q8 ⊢;obtain⟨m',hm,w8⟩:=q8;exact⟨m',hm,again I8 w8⟩
   | true=>
    rw[if_pos rfl]at q8 ⊢;refine Dn (he cl s3 _ fp _ s8 _ _ _ I8 q8) (fun uy s9 h9=>?_) fun _ _ e=>e.elim;obtain⟨y,H9,I9,r9,hacc,hz,m',hm,w9⟩:=h9;refine Dn (Jg (X:=Gg X x x' ns scope cl s3 (upd H s.heap.objs.size (.lst [])) fp) _ s9 _ H9 (.ref s.heap.objs.size) [y] _ [uy] (fun v H'=>H'=upd H9 s.heap.objs.size (.lst (ys++[y]))) I9 rfl (.cons r9 .nil) ⟨_,ys,y,rfl,rfl,hacc,hz,rfl⟩) (fun _ s10 h10=>?_) fun _ _ e=>e.elim;obtain⟨v,H10,I10,_,rfl⟩:=h10;exact⟨m',hm,again I10 w9⟩
 exact Ya3 (loop _ rfl) (T.self _ 0 _ _ _ st4 (loop _ rfl))
theorem Zpg (hsc:X.env.scope=sc) (hN:X.N=N) (C:Sd sc N x x' ns ix scope) (hc:X.calm=true) (hi:PI X (.Tuple [.Name x px,.Name x' px'] tk tp) iter wi) (ht:∀cl s H ex,PTs (Gg X x x' ns scope cl s H ex) ifs tc) (he:∀cl s H ex,PE (Gg X x x' ns scope cl s H ex) elt te)
  (hs:∀v,foldedSetIterable iter X.env v=pure v:=by intro _; rfl):PE X (.ListComp elt [⟨.Tuple [.Name x px,.Name x' px'] tk tp,iter,ifs,0⟩] scope pos) (Zv8 wi ix tc te):=by
 intro pins s σ H Q I h
 obtain⟨cl,hclos,hcl,hcla⟩:=Z3 (env:=X.env) scope fun y hy hf=>I.ok.has y.1 (by
  have:=(C.2.1 y hy).2.2 hf;rw[←hsc]at this
  exact this)
 rw[eval_ListComp];refine xj (use:=none) rfl hs hclos C.1 (fun y hy=>(C.2.1 y hy).2.1) (thn (hi pins s σ H _ I h) fun v s1 h1=>thn h1 fun itv s2 h2=>?_);obtain⟨it,fp,tn,J,H2,rfl,I2,T,st2,f2,hg⟩:=h2;refine Zq7 (RR:=fun ja C=>compPost (model X.prog X.w) X.A X.xe none (EP X pins σ Q) ja C) hsc hN C hc ht he I2 hcl hcla T st2 f2 hg ?_;intro D C' m s' H' I' hn' fC q;obtain⟨g0,g1,g2,g3,g4,g5⟩:=fC;exact⟨m,hn',fun h' hs'=>⟨.ref D,H',I'.turned (t':=s'.toks) (fun b o hb e=>hs'.extBut b o hb e) g0 (DX (DX g1)) g3 g4 g5,rfl,q⟩⟩
end
end L2
namespace L2
open PySem PySem.Spec PyProof.Rows
section
variable {ix:List Nat} {tc:TT} {te:TE} {σ:St} {H:Hp} {Q:VK}
theorem Zru {td:TE} (h:td σ H fun x H1=>∃a o kvs,x=.ref a∧H1 a=some (.frz o (.dT kvs))∧Vt (Itd a o kvs) ix tc te σ Q H1):Zv8 (cz td) ix tc te σ H Q:=h
theorem ZoF {a:Aa} {o:Obj} {kvs:List (List Key×V)} (Pv:Nat→List V→Hp→Prop) (hf:H a=some (.frz o (.dT kvs))) (hz:kvs.length≤1000000) (h0:∀H',Pv 0 [] H')
  (hm:∀i ys (H' H'':Hp),(∀b xs,H' b=some (.tup xs)→H'' b=some (.tup xs))→Pv i ys H'→Pv i ys H'')
  (hs:∀(i:Nat) (k:List Key) (v:V) (b:Aa) (ys:List V) (acc:Aa) (H':Hp),kvs[i]?=some (k,v)→Same H H'→H acc=none→H' acc=some (.lst ys)→H' b=some (.tup (k.map kV))→Pv i ys H'→ys.length≤i→
   ∀R:Bool→Hp→Prop,(∀t H2,Same H' H2→(t=false→Pv (i+1) ys H2)→(t=true→∀R2:V→Hp→Prop,(∀y H3,Same H2 H3→Pv (i+1) (ys++[y]) H3→R2 y H3)→te (some (.ref b)::some v::subS σ ix) H2 R2)→R t H2)→tc (some (.ref b)::some v::subS σ ix) H' R)
  (hd:∀(acc:Aa) (ys:List V) (H':Hp),H acc=none→Same H H'→H' acc=some (.lst ys)→Pv kvs.length ys H'→Q (.ref acc) H'):Vt (Itd a o kvs) ix tc te σ Q H:=by
 intro acc hacc
 have sU:∀{H2:Hp} (u:HO),Same H H2→Same H (upd H2 acc u):=fun u s b w e=>by rw[Bo (Cj e hacc)]; exact s b w e
 refine⟨fun i m ys H'=>m=kvs.length - i∧i≤kvs.length∧Same H H'∧H' acc=some (.lst ys)∧Pv i ys H'∧ys.length≤i,⟨kvs.length,by simp,Cy _,GC hacc _,Cp,h0 _,Ax _⟩,?_⟩;rintro i m ys H' ⟨rfl,hi,sm,ea,pv,hy⟩
 by_cases hlt:i < kvs.length
 ·refine .inr ⟨⟨hlt,sm _ _ hf⟩,fun x H2 y=>?_⟩
  obtain⟨T,b,k,v,hv,hb,hT,rfl,rfl⟩:=y;have s2:Same H' (upd H' T (.tup [.ref b,v])):=GC hT _;refine⟨T,.ref b,v,rfl,Cp,?_⟩;refine hs i k v b ys acc _ hv (sm.trans s2) hacc (s2 _ _ ea) (s2 _ _ hb) (hm _ _ _ _ (fun c xs q=>s2 _ _ q) pv) hy _ fun t H3 s3 pf pt=>?_
  cases t with
  | false=>
   rw[if_neg Cg];exact⟨kvs.length - (i+1),by omega,rfl,hlt,sm.trans (s2.trans s3),s3 _ _ (s2 _ _ ea),pf rfl,xm hy⟩
  | true=>
   rw[if_pos rfl];refine pt rfl _ fun y H4 s4 py=>?_;have ea4:=s4 _ _ (s3 _ _ (s2 _ _ ea));refine⟨ea4,Vg (by omega),kvs.length - (i+1),by omega,rfl,hlt,sU _ (sm.trans (s2.trans (s3.trans s4))),Cp,hm _ _ _ _ (fun c xs q=>?_) py,?_⟩
   ·rw[Bo (fun z=>by rw[z,ea4]at q; cases q)]; exact q
   ·rw[Ca,Ei]
    omega
 ·have e:i=kvs.length:=by omega
  subst e;exact .inl ⟨⟨rfl,sm _ _ hf⟩,hd acc ys H' hacc sm ea pv⟩
end
def MeS1 (P:Ay) (w:Av) (K:Ao) (mg:Str→Option Ab) (base:Ar) (k:Nat) (C:Aa) (m:Str) (ps:List Str) (sp:Sp):Prop:=Cls K C∧∃f fd,FnOk P w K mg base (CX1 P w) k f fd ps sp∧Bs K fd ps []∧Meth K C m f
section
variable {X:Cx} {k k':Nat} {m:Str} {ps:List Str} {sp:Sp} {e o:Aw} {es:List Aw} {ta:TE} {t:TA} {pos apos:Pos}
theorem ZyS {pl:Sem Bool} {D:Aa→Prop} (hD:∀C,D C→MeS1 X.prog X.w X.K X.mg X.base k C m ps (spAt sp C)) (hr:Room k' X.A) (ho:PE X o ta) (ha:PA X (e::es) t) (hk:k≤k':=by omega)
  (hst:BW (e::es) X.env=(false,eval e X.env)::BW es X.env:=by rfl) (hpl:(backTo pos (BW es X.env)).any (·.1)=false:=by rfl)
  (ht:eval (.Call (.Attribute o m apos) (e::es) [] pos) X.env=(do
   let ov ←eval o X.env
   standAt apos.atName
   let (f,first) ←holding [ov] (getMethod ov m pl)
   callWith pos f first (backTo pos (BW (e::es) X.env)) (backToKw pos (keywordEach [] X.env))):=by rfl) :
  PE X (.Call (.Attribute o m apos) (e::es) [] pos) (tDy D m sp ta t):=by
 intro pins s σ H Q I h;refine xf (pl:=pl) (thn (ho pins s σ H _ I h) fun u s1 ⟨x,H1,I1,rx,a,C,dx,fs,ex,ea,hC,l,q⟩=>?_) ht;subst ex;obtain rfl:u=Be a:=rx;obtain⟨c,f,fd,F,hb,hm⟩:=hD C hC;refine Zx I1 ea c hm l ?_;refine X7 (first:=[.ref a]) (h₀:=X.base) I.ok.mod.kin hm.kp (thn (ha pos pins s1 σ H1 _ I1 q) fun us s2 ⟨vs,H2,I2,r,eb,q2⟩=>⟨I2.kIn,?_⟩) hst hpl;exact Va (us:=.ref a::us) (vs:=.ref a::vs) (dvs:=[]) (E:=E0) F (hr.mono hk) hb .nil ZvX I2 (.cons rfl r) (by rw[Ed]; exact⟨q2,a,dx,fs,vs,rfl,eb⟩)
end
end L2
namespace L2
open PySem PySem.Spec PyProof.Rows
section
variable {X:Cx}
end
theorem Inv.thaw {X:Cx} {pins:List (Aa×Obj)} {σ:St} {H:Hp} {s:Ae} {a:Aa} {o:Obj} {kvs:List (List Key×V)} (I:Inv X pins σ H s) (e:H a=some (.frz o (.dT kvs))) (n0:∀o u,X.H₀ a≠some (.frz o u)):Inv X pins σ (upd H a (.dT kvs)) s:=by
 have z:=I.hok a _ e;obtain⟨h1,zz⟩:=(show s.heap.get? a=some o∧Ck X.prog X.w H s.heap a (.dT kvs) from z)
 have ne:∀{b:Aa} {u:HO},H b=some u→(∀o k,u≠.frz o k)→b≠a:=fun q n z=>by rw[z,e]at q; cases q; exact n _ _ rfl
 have nn:∀{b:Aa},H b=none→b≠a:=fun q z=>by rw[z,e]at q; cases q
 refine⟨I.ok,I.os,I.bare,⟨I.base.keep,I.base.slot,fun b u q n hx=>?_,I.base.there,fun b xs q=>?_,fun b u v q=>?_,fun b ps q=>?_⟩,I.loc,I.cell,?_,fun x c q=>?_,fun p hp=>?_,fun b u q=>?_,I.len⟩
 ·have:=I.base.free b u q n hx
  rw[Bo (nn this)]; exact this
 ·have:=I.base.tups b xs q
  rw[Bo (ne this (by intro o k h; cases h))]; exact this
 ·have:=I.base.frzs b u v q
  have hb:b≠a:=fun z=>by rw[z]at q; exact n0 _ _ q
  rw[Bo hb]; exact this
 ·obtain⟨more,this⟩:=I.base.tbls b ps q
  exact⟨more,by rw[Bo (ne this (by intro o k h; cases h))]; exact this⟩
 ·rw[Bo (nn I.free)]; exact I.free
 ·rw[Bo (nn (I.freeC x c q))]; exact I.freeC x c q
 ·obtain⟨p1,p2,p3⟩:=I.pin p hp
  exact⟨p1,by rw[Bo (nn p2)]; exact p2,p3⟩
 ·have stay:∀{b:Aa} {u:HO},Ck X.prog X.w H s.heap b u→Ck X.prog X.w (upd H a (.dT kvs)) s.heap b u:=fun {b u} y=>
   y.stay (fun _ _ _ q=>q) (fun c q=>by rw[Bo (ne q (by intro o k h; cases h))]; exact q) fun c xs q=>by rw[Bo (ne q (by intro o k h; cases h))]; exact q
  by_cases hb:b=a
  ·subst hb
   rw[Cp]at q
   cases q
   exact stay zz
  ·rw[Bo hb]at q
   exact stay (I.hok b u q)
noncomputable def Zzn (td:TE):TE:=fun σ H Q=>td σ H fun x H1=>∃a kvs,x=.ref a∧H1 a=some (.dT kvs)∧∀o,Q x (upd H1 a (.frz o (.dT kvs)))
noncomputable def Zwb (H0:Hp) (t:TS):TS:=fun D σ H=>t { D with rt:=fun v H'=>∃a o kvs,H' a=some (.frz o (.dT kvs))∧(∀o u,H0 a≠some (.frz o u))∧D.rt v (upd H' a (.dT kvs)) } σ H
section
variable {X:Cx} {e:Aw} {td:TE} {st:Ba} {t:TS}
theorem dg (h:PE X e td):PE X e (Zzn td):=by
 intro pins s σ H Q I q;refine thn (h pins s σ H _ I q) fun u s1 q1=>?_;obtain⟨x,H1,I1,r,a,kvs,rfl,e1,q'⟩:=q1;obtain⟨o,_,J⟩:=I1.freeze e1;exact⟨_,_,J,r,q' o⟩
theorem Zpk (h:PS X st t):PS X st (Zwb X.H₀ t):=by
 intro pins s σ H D I q;refine thn (h pins s σ H _ I q) fun f s1 q1=>?_
 cases f with
 | next=>exact q1
 | brk=>exact q1
 | cont=>exact q1
 | ret u=>
  obtain⟨v,σ',H',I2,r,a,o,kvs,e1,n0,z⟩:=q1;exact⟨v,σ',_,I2.thaw e1 n0,r,z⟩
theorem Zvs {σ:St} {H:Hp} {Q:VK} (h:td σ H fun x H1=>∃a kvs,x=.ref a∧H1 a=some (.dT kvs)∧∀o,Q x (upd H1 a (.frz o (.dT kvs)))):Zzn td σ H Q:=h
theorem ZrC {H0:Hp} {D:Ends} {σ:St} {H:Hp} (h:t { D with rt:=fun v H'=>∃a o kvs,H' a=some (.frz o (.dT kvs))∧(∀o u,H0 a≠some (.frz o u))∧D.rt v (upd H' a (.dT kvs)) } σ H):Zwb H0 t D σ H:=h
end
end L2
namespace L2
open PySem PySem.Spec PyProof.Rows
section
variable {prog:Ay} {w:Av}
variable {A:Bp} {E:Ab→Ae→Prop} {s:Ae}
end
section
variable {prog:Ay} {w:Av} {A:Bp} {R:K5→Ae→Prop} {I:Aa} {fp wr:List Aa} {G:Array Ir→Array Ir→Prop} {n:Nat} {P:Nat→Ab→Prop} {St:Nat→Ae→Prop}
end
section
variable {prog:Ay} {w:Av} {A:Bp} {E:Ab→Ae→Prop} {s:Ae}
noncomputable def newS (w:Av):Obj:={ cls:=.type "set",dict:=none,data:=.set #[] 0 (.fresh 0 0 (!w.params.followText "set-order")) }
theorem Zug (x:Ab) {Q1:Ab→Ae→Prop} (h:Q1 (.ref s.heap.objs.size) { s with heap:=s.heap.push (newS w) }) :
  codeAny (model prog w) A (.call (.builtin "set.__new__") ⟨[.type "set",x],[]⟩) (wants Q1 E) s:=by
 have sub:=sub_set_self
 refine YbZ (by
  show Ai _ A.in1 (do checkBuiltinCall "set.__new__" ⟨[.type "set",x],[]⟩; again (.builtin "set.__new__" ⟨[.type "set",x],[]⟩)) _ _ s
  refine Af (Y5 (PySem.F.newCall_set_1 x) (Aq ⟨Uj Yb0 _,RN PySem.F.entry_set_new (by
   rw[Ut Yb0 _];unfold Fd.«set.__new__» Ydx;obtain⟨hp,g,d,tk,os⟩:=s
   dsimp only
   wp_walk
   refine Uu (Aq ?_)
   dsimp only
   simp only [newObj]
   exact Af (wpAny_alloc (Aq (Aq h))))⟩)))
end
end L2
namespace L2
open PySem PySem.Spec PyProof.Rows
theorem N8:Slot "set_iterator" "__next__" "set_iterator.__next__":=
 .of (owner:="set_iterator") (n:="__next__") (by rw[Uh,Ui]; kernel_rfl) (by decide +kernel) (by decide +kernel) (by decide +kernel) (by first | exact .inl (by decide +kernel) | exact .inr (by decide +kernel)) (by rw[yx]; kernel_rfl)
theorem ZoM:entryFor table "set_iterator.__next__" = some Fd.«set_iterator.__next__»:=entryFor_of_tree (by kernel_rfl)
theorem ZqT (a:Ab):argsOk "set_iterator.__next__" ⟨[a],[]⟩:=by unfold argsOk; kernel_rfl
theorem Zrf:entryFor table "set.__iter__" = some Fd.«frozenset.__iter__»:=z6 (id':="frozenset.__iter__") (by kernel_rfl) rfl (by decide +kernel) (by kernel_rfl)
theorem Znp {α:Type} (next:Nat→Nat):∀(fuel k:Nat) (left:List α) (out:Array α),left.length=fuel→(z7 next fuel k left out).toList.Perm (out.toList++left)
 | 0,k,left,out,h=>by
  obtain rfl:=Ud.mp h;unfold z7;rw[Ed]
 | fuel+1,k,left,out,h=>by
  have hi:next k % left.length < left.length:=Nt _ (by omega);unfold z7;rw[CJ hi]
  dsimp only
  refine(Znp next fuel (k+1) (left.eraseIdx (next k % left.length)) (out.push left[next k % left.length]) (by rw[List.length_eraseIdx]; simp[hi]; omega)).trans ?_;rw[Array.toList_push,Du];refine Rw _ ?_;rw[List.eraseIdx_eq_take_drop_succ]
  have e:left=left.take (next k % left.length)++left[next k % left.length]::left.drop (next k % left.length+1):=by
   rw[←yp hi,Ht]
  conv=>rhs; rw[e]
  rw[Ybf];exact Yb1.symm
theorem ZuA {α:Type} (next:Nat→Nat) (xs:Array α):(pickOrder next xs).toList.Perm xs.toList:=by
 unfold pickOrder;have:=Znp next xs.size 0 xs.toList #[] (by simp)
 simpa using this
section
variable {prog:Ay} {w:Av} {A:Bp} {E:Ab→Ae→Prop} {s:Ae}
noncomputable def ordS (w:Av) (a ep:Nat) (es:Array (Int×Ab)):Array (Int×Ab):=if w.params.followText "set-order" = true then pickOrder (w.params.setOrder a ep) es else es
theorem Vu (a ep:Nat) (es:Array (Int×Ab)):(ordS w a ep es).toList.Perm es.toList:=by
 unfold ordS
 split
 ·exact ZuA _ _
 ·exact RB _
end
end L2
namespace L2
open PySem PySem.Spec PyProof.Rows
section
variable {prog:Ay} {w:Av} {A:Bp} {E:Ab→Ae→Prop} {s:Ae}
theorem Zre:entryFor table "set_iterator.__iter__" = some Fd.«dict_keyiterator.__iter__»:=z6 (id':="dict_keyiterator.__iter__") (by kernel_rfl) rfl (by decide +kernel) (by kernel_rfl)
theorem Zpq:Slot "set_iterator" "__iter__" "set_iterator.__iter__":=
 .of (owner:="set_iterator") (n:="__iter__") (by rw[Uh,Ui]; kernel_rfl) (by decide +kernel) (by decide +kernel) (by decide +kernel) (by first | exact .inl (by decide +kernel) | exact .inr (by decide +kernel)) (by rw[yx]; kernel_rfl)
theorem ZtF (a:Ab):argsOk "set_iterator.__iter__" ⟨[a],[]⟩:=by unfold argsOk; kernel_rfl
theorem ZwS:typeLookup (.type "set") "__len__" = pure (some (.builtin "set.__len__")):=by rw[Uh,Ui]; kernel_rfl
end
end L2
namespace L2
open PySem PySem.Spec PyProof.Rows
noncomputable def lcgN:Nat→Nat→Nat
 | 0,i=>i
 | n+1,i=>lcgN n (5 * i+1)
theorem ZoZ:∀n i,4 * lcgN n i+1=5 ^ n * (4 * i+1)
 | 0,i=>by show 4 * i+1=1 * (4 * i+1); omega
 | n+1,i=>by
  show 4 * lcgN n (5 * i+1)+1=_;rw[ZoZ n (5 * i+1),K9,show 4 * (5 * i+1)+1=5 * (4 * i+1) by omega,Km]
theorem dh:∀a b i,lcgN (a+b) i=lcgN b (lcgN a i)
 | 0,b,i=>by rw[Ry]; rfl
 | a+1,b,i=>by
  rw[show a+1+b=(a+b)+1 by omega];show lcgN (a+b) (5 * i+1)=lcgN b (lcgN a (5 * i+1));exact dh a b _
theorem pow5:∀k,∃q,5 ^ 2 ^ k=1+2 ^ (k+2) * (2 * q+1)
 | 0=>⟨0,rfl⟩
 | k+1=>by
  obtain⟨q,hq⟩:=pow5 k;refine⟨q+2 ^ k * ((2 * q+1) * (2 * q+1)),?_⟩;rw[K9 2 k,Nat.pow_mul,hq,show(1+2 ^ (k+2) * (2 * q+1)) ^ 2=(1+2 ^ (k+2) * (2 * q+1)) * (1+2 ^ (k+2) * (2 * q+1)) from Nat.pow_two _];rw[show 2 ^ (k+2)=4 * 2 ^ k by rw[Zc]; omega,show 2 ^ (k+1+2)=8 * 2 ^ k by rw[show k+1+2=k+3 by omega,Zc]; omega];generalize 2 ^ k=z;obtain⟨o,ho⟩ : ∃o,o=2 * q+1:=⟨_,rfl⟩;rw[←ho]
  have e1:(1+4 * z * o) * (1+4 * z * o)=1+8 * (z * o)+16 * ((z * o) * (z * o)):=by
   rw[Km 4 z o];generalize z * o=u;rw[z8,Uv,Uv];rw[show 4 * u * (4 * u)=16 * (u * u) by rw[z9]];omega
  have e2:8 * z * (2 * (q+z * (o * o))+1)=8 * (z * (2 * q+1))+16 * ((z * o) * (z * o)):=by
   rw[show 2 * (q+z * (o * o))+1=(2 * q+1)+2 * (z * (o * o)) by omega,Uv,Km 8 z (2 * q+1)];rw[show 8 * z * (2 * (z * (o * o)))=16 * (z * (z * (o * o))) by rw[z9],show z * o * (z * o)=z * (z * (o * o)) by rw[z9,Km]]
  rw[e1,e2,←ho];omega
theorem Zo0:∀k i j,∃n,n < 2 ^ k∧lcgN n i % 2 ^ k=j % 2 ^ k
 | 0,i,j=>⟨0,by decide,by rw[Yb2,Yb3,Yb3]⟩
 | k+1,i,j=>by
  obtain⟨n,h1,h2⟩:=Zo0 k i j;have hp:0 < 2 ^ k:=Ef k
  have hs:2 ^ (k+1)=2 * 2 ^ k:=by rw[K9]; omega
  by_cases e:lcgN n i % 2 ^ (k+1)=j % 2 ^ (k+1)
  ·exact⟨n,by omega,e⟩
  ·refine⟨n+2 ^ k,by omega,?_⟩
   rw[dh];generalize lcgN n i=y at *;obtain⟨q,hq⟩:=pow5 k;have f:=ZoZ (2 ^ k) y;rw[hq]at f
   have f2:lcgN (2 ^ k) y=y+2 ^ k * ((2 * q+1) * (4 * y+1)):=by
    have g:(1+2 ^ (k+2) * (2 * q+1)) * (4 * y+1)=(4 * y+1)+4 * (2 ^ k * ((2 * q+1) * (4 * y+1))):=by
     rw[z8,Nat.one_mul,show 2 ^ (k+2)=4 * 2 ^ k by rw[Zc]; omega,Km,Km]
    omega
   rw[f2];obtain⟨r,hr⟩ : ∃r,(2 * q+1) * (4 * y+1)=2 * r+1:=⟨q * (4 * y+1)+2 * y,by rw[z8,Km]; omega⟩;rw[hr,Uv,ww,show 2 ^ k * (2 * r)=2 ^ (k+1) * r by rw[hs,←Km,Yaa (2 ^ k) 2]];rw[show y+(2 ^ (k+1) * r+2 ^ k)=(y+2 ^ k)+2 ^ (k+1) * r by omega,Nat.add_mul_mod_self_left];rw[hs]at e ⊢;have m1:=Yb4 y (2 ^ k);have m2:=Yb4 j (2 ^ k)
   have ay:y % (2 * 2 ^ k)=y % 2 ^ k∨y % (2 * 2 ^ k)=y % 2 ^ k+2 ^ k:=by
    rw[show 2 * 2 ^ k=2 ^ k * 2 by omega,Yb5]
    rcases Yl (y / 2 ^ k) with z | z <;> rw[z] <;> omega
   have aj:j % (2 * 2 ^ k)=j % 2 ^ k∨j % (2 * 2 ^ k)=j % 2 ^ k+2 ^ k:=by
    rw[show 2 * 2 ^ k=2 ^ k * 2 by omega,Yb5]
    rcases Yl (j / 2 ^ k) with z | z <;> rw[z] <;> omega
   have ly:=Nt y hp;have lj:=Nt j hp;rw[Yab,Nu (show 2 ^ k < 2 * 2 ^ k by omega)]
   rcases ay with ay | ay <;> rcases aj with aj | aj
   ·omega
   ·rw[ay,Nu (by omega)]; omega
   ·rw[ay,show y % 2 ^ k+2 ^ k+2 ^ k=y % 2 ^ k+2 * 2 ^ k by omega,Nat.add_mod_right,Nu (by omega)]; omega
   ·omega
noncomputable def lpN (mask:Nat) (h:Int):Nat→Nat×Nat
 | 0=>(FZ h % (mask+1),FZ h)
 | n+1=>Hu mask (lpN mask h n).1 (lpN mask h n).2
theorem JD (h:Int):FZ h < 2 ^ 64:=by
 unfold FZ;have h1:=Yb6 h (show(2 ^ 64:Int)≠0 by decide);have h2:=Yb7 h (show(0:Int) < 2 ^ 64 by decide);omega
theorem Zr0 (mask:Nat) (h:Int):∀n,(lpN mask h n).2=FZ h / 32 ^ n
 | 0=>by show FZ h=_; rw[Yb2,Nat.div_one]
 | n+1=>by
  show(lpN mask h n).2 / 32=_;rw[Zr0 mask h n,Yb8,K9]
theorem ZrZ (mask:Nat) (h:Int):∀n,(lpN mask h (13+n)).1 % (mask+1)=lcgN n (lpN mask h 13).1 % (mask+1)
 | 0=>rfl
 | n+1=>by
  have ih:=ZrZ mask h n
  have pz:(lpN mask h (13+n)).2 / 32=0:=by
   rw[Zr0,Yb8];apply Yb9;have:=JD h;have p1:1≤32 ^ n:=Nat.one_le_pow _ _ (by decide)
   have p2:32 ^ (13+n) * 32=2 ^ 70 * 32 ^ n:=by rw[Zc]; rw[show(32:Nat) ^ 13=2 ^ 65 by decide]; rw[Nat.mul_right_comm]
   rw[p2];have:2 ^ 70 * 1≤2 ^ 70 * 32 ^ n:=Nat.mul_le_mul_left _ p1;omega
  have e:(lpN mask h (13+(n+1))).1=((lpN mask h (13+n)).1 * 5+1) % (mask+1):=by
   show((lpN mask h (13+n)).1 * 5+1+(lpN mask h (13+n)).2 / 32) % (mask+1)=_;rw[pz,TJ]
  have f:∀a i,lcgN (a+1) i=5 * lcgN a i+1:=fun a i=>by rw[dh]; rfl
  rw[e,f,Nat.mod_mod,Yab,Yca,ih,←Yca,←Yab,Yaa]
theorem ZyA (mask:Nat) (h:Int):∀n,(lpN mask h n).1 < mask+1
 | 0=>Nt _ (by omega)
 | n+1=>Nt _ (by omega)
theorem ZvT {mask k:Nat} (hk:mask+1=2 ^ k) (h:Int) {j:Nat} (hj:j≤mask):∃n,n≤mask+13∧(lpN mask h n).1=j:=by
 obtain⟨n,h1,h2⟩:=Zo0 k (lpN mask h 13).1 j;refine⟨13+n,by omega,?_⟩;have l1:=ZrZ mask h n;rw[hk,h2,Nu (show j < 2 ^ k by omega)]at l1;rw[Nu (by have:=ZyA mask h (13+n); omega)]at l1;exact l1
noncomputable def advM (mask:Nat) (p:RP):RP:=
 if p.more > 0 then { p with j:=p.j+1,more:=p.more - 1 } else { p with j:=(Hu mask p.i p.perturb).1,more:=Eu mask (Hu mask p.i p.perturb).1 - (Hu mask p.i p.perturb).1,i:=(Hu mask p.i p.perturb).1,perturb:=(Hu mask p.i p.perturb).2 }
theorem Zu5 (t:Di) (p:RP):t.advance p=advM t.mask p:=rfl
noncomputable def chS (mask i p:Nat):RP:={ j:=i,more:=Eu mask i - i,i:=i,perturb:=p,dummy:=none }
noncomputable def wkP (mask:Nat) (h:Int):Nat→RP
 | 0=>chS mask (FZ h % (mask+1)) (FZ h)
 | n+1=>advM mask (wkP mask h n)
theorem di {mask:Nat} {h:Int} {n i p:Nat} (e:wkP mask h n=chS mask i p):∀c,c≤Eu mask i - i→wkP mask h (n+c) = { chS mask i p with j:=i+c,more:=Eu mask i - i - c }
 | 0,_=>by rw[TJ,e]; rfl
 | c+1,hc=>by
  show advM mask (wkP mask h (n+c))=_;rw[di e c (by omega)];unfold advM;rw[if_pos (by show Eu mask i - i - c > 0; omega)];rfl
theorem Zy5 (mask i:Nat):Eu mask i - i≤9:=by
 unfold Eu
 split <;> omega
theorem dj {mask i:Nat} (h:i≤mask):Eu mask i≤mask∧i≤Eu mask i:=by
 unfold Eu
 split <;> omega
theorem Ztr {mask:Nat} {h:Int} {n i p:Nat} (e:wkP mask h n=chS mask i p):wkP mask h (n+(Eu mask i - i)+1)=chS mask (Hu mask i p).1 (Hu mask i p).2:=by
 show advM mask (wkP mask h (n+(Eu mask i - i)))=_;rw[di e _ (Ax _)];unfold advM;rw[if_neg (by show ¬Eu mask i - i - (Eu mask i - i) > 0; omega)];rfl
theorem ZpG (mask:Nat) (h:Int):∀n,∃x,x≤10 * n∧wkP mask h x=chS mask (lpN mask h n).1 (lpN mask h n).2
 | 0=>⟨0,Ax _,rfl⟩
 | n+1=>by
  obtain⟨x,h1,h2⟩:=ZpG mask h n;have:=Zy5 mask (lpN mask h n).1;exact⟨_,by omega,Ztr h2⟩
theorem dq (mask:Nat) (h:Int):∀n,(wkP mask h n).j+(wkP mask h n).more≤mask∧(wkP mask h n).dummy=none
 | 0=>by
  have h1:FZ h % (mask+1)≤mask:=by have:=Nt (FZ h) (show 0 < mask+1 by omega); omega
  have:=dj h1;exact⟨by show FZ h % (mask+1)+(Eu mask (FZ h % (mask+1)) - FZ h % (mask+1))≤mask; omega,rfl⟩
 | n+1=>by
  obtain⟨h1,h2⟩:=dq mask h n;show(advM mask (wkP mask h n)).j+(advM mask (wkP mask h n)).more≤mask∧(advM mask (wkP mask h n)).dummy=none;generalize wkP mask h n=p at h1 h2;unfold advM
  split
  ·exact⟨by show p.j+1+(p.more - 1)≤mask; omega,h2⟩
  ·have h3:(Hu mask p.i p.perturb).1≤mask:=by
    have:=Nt (p.i * 5+1+p.perturb / 32) (show 0 < mask+1 by omega);show(p.i * 5+1+p.perturb / 32) % (mask+1)≤mask;omega
   have:=dj h3;exact⟨by show(Hu mask p.i p.perturb).1+(Eu mask (Hu mask p.i p.perturb).1 - (Hu mask p.i p.perturb).1)≤mask; omega,h2⟩
theorem Zzx {mask k:Nat} (hk:mask+1=2 ^ k) (h:Int) {j:Nat} (hj:j≤mask):∃x,x < 10 * Hv mask∧(wkP mask h x).j=j:=by
 obtain⟨n,h1,h2⟩:=ZvT hk h hj;obtain⟨x,h3,h4⟩:=ZpG mask h n;exact⟨x,by unfold Hv; omega,by rw[h4]; exact h2⟩
end L2
namespace L2
open PySem PySem.Spec PyProof.Rows
def Up (xs:Array Nat):Prop:=∀i j x y:Nat,i < j→xs[i]?=some x→xs[j]?=some y→x < y
theorem du {xs:Array Nat} (u:Up xs) (j:Nat):∀(fuel lo hi:Nat),hi - lo≤fuel→lo≤hi→hi≤xs.size→(∀i x:Nat,i < lo→xs[i]?=some x→x < j)→(∀i x:Nat,hi≤i→xs[i]?=some x→j≤x)→
  ∃r,Yac xs j fuel lo hi=r∧r≤xs.size∧(∀i x:Nat,i < r→xs[i]?=some x→x < j)∧(∀i x:Nat,r≤i→xs[i]?=some x→j≤x)
 | 0,lo,hi,hf,h1,h2,h3,h4=>by
  have e:lo=hi:=by omega
  subst e;exact⟨lo,rfl,h2,h3,h4⟩
 | fuel+1,lo,hi,hf,h1,h2,h3,h4=>by
  unfold Yac
  by_cases hlt:lo < hi
  ·rw[if_pos hlt]
   dsimp only
   have hm:(lo+hi) / 2 < hi:=by omega
   have hx:xs[(lo+hi) / 2]?=some xs[(lo+hi) / 2]:=Gm (by omega)
   have hg:xs.getD ((lo+hi) / 2) j=xs[(lo+hi) / 2]:=by simp[Lh,show(lo+hi) / 2 < xs.size by omega]
   rw[hg]
   split
   ·rename_i hc
    refine du u j fuel _ hi (by omega) (by omega) h2 (fun i x hi' hxi=>?_) h4
    by_cases e:i=(lo+hi) / 2
    ·subst e; rw[hx]at hxi; cases hxi; exact hc
    ·exact wg (u i _ x _ (by omega) hxi hx) hc
   ·rename_i hc
    refine du u j fuel lo _ (by omega) (by omega) (by omega) h3 (fun i x hi' hxi=>?_)
    by_cases e:i=(lo+hi) / 2
    ·subst e; rw[hx]at hxi; cases hxi; omega
    ·have:=u _ i _ x (by omega) hx hxi; omega
  ·rw[if_neg hlt]
   have e:lo=hi:=by omega
   subst e;exact⟨lo,rfl,h2,h3,h4⟩
theorem Oa {xs:Array Nat} (u:Up xs) (j:Nat):Dt xs j≤xs.size∧(∀i x:Nat,i < Dt xs j→xs[i]?=some x→x < j)∧(∀i x:Nat,Dt xs j≤i→xs[i]?=some x→j≤x):=by
 obtain⟨r,e,h⟩:=du u j xs.size 0 xs.size (by omega) (Cy _) (Ax _) (fun i x hi=>by omega) (fun i x hi hx=>by rw[Np hi]at hx; cases hx);rw[show Dt xs j=r from e];exact h
theorem Sg {xs:Array Nat} (u:Up xs) {i j:Nat} (h:xs[i]?=some j):Dt xs j=i:=by
 obtain⟨h1,h2,h3⟩:=Oa u j
 rcases Nb (Dt xs j) i with z | z | z
 ·have hi:i < xs.size:=(Nq.mp h).1
  have hx:xs[Dt xs j]?=some xs[Dt xs j]:=Gm (by omega);have a:=h3 _ _ (Ax _) hx;have b:=u _ _ _ _ z hx h;omega
 ·exact z
 ·have:=h2 i j z h
  omega
theorem Zro (j:Nat):Ycb #[] j=false:=by
 unfold Ycb Dt;simp[Yac]
theorem dw {t:Di} (u:Up t.place) {i j:Nat} (h:t.place[i]?=some j):t.slot j=.live i:=by
 unfold Ycc
 dsimp only
 rw[Sg u h,h];simp
theorem Zxn {t:Di} (u:Up t.place) (hd:t.dummies = #[]) {j:Nat} (h:∀i:Nat,t.place[i]?≠some j):t.slot j=.empty:=by
 unfold Ycc
 dsimp only
 rw[hd,Zro];have:=h (Dt t.place j);simp[this]
def Occ (t:Di) (j:Nat):Prop:=∃i:Nat,t.place[i]?=some j
structure Tb (t:Di) (hs:List Int):Prop where
 msk:t.mask=7∨t.mask=31∨t.mask=127∨t.mask=511∨t.mask=2047∨t.mask=8191
 dm:t.dummies = #[]
 pl:t.plain=true
 up:Up t.place
 le:∀i j:Nat,t.place[i]?=some j→j≤t.mask
 ln:t.place.size=hs.length
 lm:t.place.size≤t.mask
 re:∀(i j:Nat) (h:Int),t.place[i]?=some j→hs[i]?=some h→∃n,(wkP t.mask h n).j=j∧∀n',n' < n→Occ t (wkP t.mask h n').j
theorem Tb.pow {t:Di} {hs:List Int} (T:Tb t hs):∃k,t.mask+1=2 ^ k:=by
 rcases T.msk with h | h | h | h | h | h <;> rw[h]
 ·exact⟨3,rfl⟩
 ·exact⟨5,rfl⟩
 ·exact⟨7,rfl⟩
 ·exact⟨9,rfl⟩
 ·exact⟨11,rfl⟩
 ·exact⟨13,rfl⟩
theorem Tb.m8 {t:Di} {hs:List Int} (T:Tb t hs):t.mask≤8191:=by
 rcases T.msk with h | h | h | h | h | h <;> omega
theorem Zww:∀(n:Nat) (xs:Array Nat),Up xs→xs.size≤n→∃j,j≤n∧∀i:Nat,xs[i]?≠some j:=fun n xs u hz=>by
 refine Zd fun hc=>?_;have all:∀j,j≤n→∃i:Nat,xs[i]?=some j:=fun j hj=>Zd fun z=>hc ⟨j,hj,fun i e=>z ⟨i,e⟩⟩
 have key:∀j,j≤n→∃i:Nat,xs[i]?=some j∧j≤i:=by
  intro j
  induction j with
  | zero=>intro hj; obtain⟨i,e⟩:=all 0 hj; exact⟨i,e,Cy _⟩
  | succ j ih=>
   intro hj;obtain⟨i,e,hi⟩:=ih (by omega);obtain⟨i',e'⟩:=all (j+1) hj
   rcases Nb i i' with z | z | z
   ·exact⟨i',e',by omega⟩
   ·subst z; rw[e]at e'; have:=De e'; omega
   ·have:=u _ _ _ _ z e' e; omega
 obtain⟨i,e,hi⟩:=key n (Ax _);have:=(Nq.mp e).1;omega
theorem Zub {p:Nat→Prop}:∀n,p n→∃m,m≤n∧p m∧∀k,k < m→¬p k:=fun n=>by
 induction n using Ycd with
 | _ n ih=>
  intro hp
  by_cases h:∃k,k < n∧p k
  ·obtain⟨k,hk,pk⟩:=h
   obtain⟨m,h1,h2,h3⟩:=ih k hk pk;exact⟨m,by omega,h2,h3⟩
  ·exact⟨n,Ax _,hp,fun k hk pk=>h ⟨k,hk,pk⟩⟩
theorem Tb.first {t:Di} {hs:List Int} (T:Tb t hs) (h:Int):∃n,n < 10 * Hv t.mask∧¬Occ t (wkP t.mask h n).j∧∀n',n' < n→Occ t (wkP t.mask h n').j:=by
 obtain⟨k,hk⟩:=T.pow;obtain⟨j,hj,hn⟩:=Zww t.mask t.place T.up T.lm;obtain⟨x,h1,h2⟩:=Zzx hk h hj;obtain⟨m,h3,h4,h5⟩:=Zub (p:=fun n=>¬Occ t (wkP t.mask h n).j) x (by rw[h2]; rintro⟨i,e⟩; exact hn i e);exact⟨m,by omega,h4,fun n' hn'=>Zd fun z=>h5 n' hn' z⟩
theorem d7 {t:Di} {hs:List Int} (T:Tb t hs) {f:Nat→Int} {h:Int} {e:Nat} (he : ¬Occ t (wkP t.mask h e).j) (hb:∀n',n' < e→Occ t (wkP t.mask h n').j) :
  ∀(fuel n:Nat),e - n < fuel→n≤e→
   (Ze t f h fuel (wkP t.mask h n)=some (.empty (wkP t.mask h e).j none)∧∀n' i:Nat,n≤n'→n' < e→t.place[i]?=some (wkP t.mask h n').j→f i≠h)∨
   ∃m i:Nat,n≤m∧m < e∧t.place[i]?=some (wkP t.mask h m).j∧f i=h∧Ze t f h fuel (wkP t.mask h n)=some (.candidate (wkP t.mask h m).j i (wkP t.mask h (m+1)))∧∀n' i':Nat,n≤n'→n' < m→t.place[i']?=some (wkP t.mask h n').j→f i'≠h
 | 0,n,hf,hn=>by omega
 | fuel+1,n,hf,hn=>by
  unfold Ze
  by_cases en:n=e
  ·subst en
   refine .inl ⟨?_,fun n' i h1 h2=>by omega⟩;rw[Zxn T.up T.dm fun i z=>he ⟨i,z⟩]
   dsimp only
   rw[(dq t.mask h n).2]
  ·obtain⟨i,hi⟩:=hb n (by omega)
   rw[dw T.up hi]
   dsimp only
   by_cases hc:f i=h
   ·refine .inr ⟨n,i,Ax _,by omega,hi,hc,?_,fun n' i' h1 h2=>by omega⟩
    rw[if_pos (by rw[hc]; simp),Zu5];rfl
   ·rw[if_neg (by simpa using hc),Zu5]
    show(Ze t f h fuel (wkP t.mask h (n+1))=_∧_)∨_
    have uniq:∀i':Nat,t.place[i']?=some (wkP t.mask h n).j→i'=i:=fun i' hi'=>by
     rw[←Sg T.up hi',←Sg T.up hi]
    rcases d7 T he hb fuel (n+1) (by omega) (by omega) with⟨a,b⟩ | ⟨m,i2,a1,a2,a3,a4,a5,a6⟩
    ·refine .inl ⟨a,fun n' i' h1 h2 hp=>?_⟩
     by_cases z:n'=n
     ·subst z; rw[uniq i' hp]; exact hc
     ·exact b n' i' (by omega) h2 hp
    ·refine .inr ⟨m,i2,by omega,a2,a3,a4,a5,fun n' i' h1 h2 hp=>?_⟩
     by_cases z:n'=n
     ·subst z; rw[uniq i' hp]; exact hc
     ·exact a6 n' i' (by omega) h2 hp
noncomputable def insL {α:Type} (xs:List α) (p:Nat) (x:α):List α:=xs.take p++x::xs.drop p
theorem ZoV {α:Type} {xs:List α} {p:Nat} {x:α} (hp:p≤xs.length) (i:Nat):(insL xs p x)[i]?=if i < p then xs[i]? else if i=p then some x else xs[i - 1]?:=by
 unfold insL
 have lt:(xs.take p).length=p:=by rw[Fb]; omega
 by_cases h1:i < p
 ·rw[if_pos h1,Hm (by omega),Yce,if_pos h1]
 ·rw[if_neg h1,Gk (by omega),lt]
  by_cases h2:i=p
  ·subst h2; rw[if_pos rfl,Gv]; rfl
  ·rw[if_neg h2,show i - p=(i - p - 1)+1 by omega,Zf,Yy,show p+(i - p - 1)=i - 1 by omega]
theorem Ob {xs:Array Nat} {p x:Nat} (hp:p≤xs.size) (i:Nat):(Gw xs p x)[i]?=if i < p then xs[i]? else if i=p then some x else xs[i - 1]?:=by
 rw[←IK,Yad];have:=ZoV (xs:=xs.toList) (x:=x) (by rw[FJ]; exact hp) i;unfold insL at this;rw[this];simp[IK]
theorem d8 {α:Type} (xs:Array α) (p:Nat) (x:α):(Gw xs p x).size=xs.size+1:=by
 have:=(Di.insertAt_perm xs p x).length_eq;rw[FJ,FJ,Array.size_push]at this;exact this
noncomputable def putT (t:Di) (j:Nat):Di:={ t with place:=Gw t.place (Dt t.place j) j }
theorem Zxg {t:Di} (hd:t.dummies = #[]) (j:Nat):t.put j=(putT t j,Dt t.place j):=by
 unfold Di.put putT;rw[hd,Zro];simp[hd]
theorem ZwK {xs:Array Nat} (u:Up xs) {j:Nat} (h:∀i:Nat,xs[i]?≠some j):Up (Gw xs (Dt xs j) j):=by
 obtain⟨b1,b2,b3⟩:=Oa u j;intro a b x y hab ha hb;rw[Ob b1]at ha hb
 have gt:∀i z:Nat,Dt xs j≤i→xs[i]?=some z→j < z:=fun i z hi hz=>by
  have h1:=b3 i z hi hz
  rcases Uw h1 with h2 | h2
  ·exact h2
  ·subst h2; exact absurd hz (h i)
 split at ha
 ·rename_i h1
  split at hb
  ·exact u a b x y hab ha hb
  ·split at hb
   ·cases hb; exact b2 a x h1 ha
   ·exact wg (b2 a x h1 ha) (gt _ _ (by omega) hb)
 ·split at ha
  ·cases ha
   rw[if_neg (by omega),if_neg (by omega)]at hb;exact gt _ _ (by omega) hb
  ·rw[if_neg (by omega),if_neg (by omega)]at hb
   exact u (a - 1) (b - 1) x y (by omega) ha hb
theorem d9 {t:Di} (u:Up t.place) {j k:Nat}:Occ (putT t j) k ↔ k=j∨Occ t k:=by
 obtain⟨b1,_,_⟩:=Oa u j
 constructor
 ·rintro⟨i,hi⟩
  have hi:(Gw t.place (Dt t.place j) j)[i]?=some k:=hi;rw[Ob b1]at hi
  split at hi
  ·exact .inr ⟨_,hi⟩
  ·split at hi
   ·exact .inl (De hi).symm
   ·exact .inr ⟨_,hi⟩
 ·rintro(rfl | ⟨i,hi⟩)
  ·refine⟨Dt t.place k,?_⟩
   show(Gw t.place (Dt t.place k) k)[_]?=_;rw[Ob b1,if_neg (Hi _),if_pos rfl]
  ·by_cases h:i < Dt t.place j
   ·refine⟨i,?_⟩
    show(Gw t.place (Dt t.place j) j)[_]?=_;rw[Ob b1,if_pos h];exact hi
   ·refine⟨i+1,?_⟩
    show(Gw t.place (Dt t.place j) j)[_]?=_;rw[Ob b1,if_neg (by omega),if_neg (by omega)];exact hi
theorem Tb.put {t:Di} {hs:List Int} (T:Tb t hs) {h:Int} {e:Nat} (he : ¬Occ t (wkP t.mask h e).j) (hb:∀n',n' < e→Occ t (wkP t.mask h n').j) (hl:t.place.size+1≤t.mask) :
  Tb (putT t (wkP t.mask h e).j) (insL hs (Dt t.place (wkP t.mask h e).j) h):=by
 have hno:∀i:Nat,t.place[i]?≠some (wkP t.mask h e).j:=fun i z=>he ⟨i,z⟩
 have hjm:(wkP t.mask h e).j≤t.mask:=by have:=(dq t.mask h e).1; omega
 generalize hj:(wkP t.mask h e).j=j at *;obtain⟨b1,_,_⟩:=Oa T.up j
 have bh:Dt t.place j≤hs.length:=by rw[←T.ln]; exact b1
 refine⟨T.msk,T.dm,T.pl,ZwK T.up hno,fun i k hk=>?_,?_,?_,fun i k h' hk hh=>?_⟩
 ·have:Occ (putT t j) k:=⟨i,hk⟩
  rcases(d9 T.up).mp this with rfl | ⟨i',z⟩
  ·exact hjm
  ·exact T.le i' k z
 ·show(Gw _ _ _).size=_
  rw[d8];unfold insL;rw[Ca,Ds,Fb,G4,T.ln];omega
 ·show(Gw _ _ _).size≤_
  rw[d8];exact hl
 ·have hk:(Gw t.place (Dt t.place j) j)[i]?=some k:=hk
  rw[Ob b1]at hk;rw[ZoV bh]at hh
  have old:∀i:Nat,t.place[i]?=some k→hs[i]?=some h'→∃n,(wkP t.mask h' n).j=k∧∀n',n' < n→Occ (putT t j) (wkP t.mask h' n').j:=fun i h1 h2=>by
   obtain⟨n,a,b⟩:=T.re i k h' h1 h2;exact⟨n,a,fun n' hn'=>(d9 T.up).mpr (.inr (b n' hn'))⟩
  split at hk
  ·rename_i z
   rw[if_pos z]at hh;exact old _ hk hh
  ·rename_i z
   rw[if_neg z]at hh
   split at hk
   ·rename_i z2
    rw[if_pos z2]at hh
    cases hk
    cases hh
    exact⟨e,hj,fun n' hn'=>(d9 T.up).mpr (.inr (hb n' hn'))⟩
   ·rename_i z2
    rw[if_neg z2]at hh;exact old _ hk hh
end L2
namespace L2
open PySem PySem.Spec PyProof.Rows
structure Ow (mask:Nat) (hs:List Int) (ow:Array (Option Nat)) (k:Nat):Prop where
 sz:ow.size=mask+1
 has:∀i,i < k→∃j:Nat,ow[j]?=some (some i)
 val:∀j v:Nat,ow[j]?=some (some v)→v < k
 inj:∀j j' v:Nat,ow[j]?=some (some v)→ow[j']?=some (some v)→j=j'
 re:∀(j v:Nat) (h:Int),ow[j]?=some (some v)→hs[v]?=some h→∃n,(wkP mask h n).j=j∧∀n',n' < n→∃u,ow[(wkP mask h n').j]?=some (some u)
theorem fc:∀(n:Nat) (l:List Nat),l.Nodup→(∀x∈l,x < n)→l.length≤n
 | 0,l,_,h=>by
  cases l with
  | nil=>exact Ax _
  | cons x r=>exact absurd (h x (by simp)) (IW _)
 | n+1,l,nd,h=>by
  by_cases e:n∈l
  ·have:=fc n (l.erase n) (nd.erase n) fun x hx=>by
    have hx2:=(Ycf nd).mp hx;have:=h x hx2.2;have:=hx2.1;omega
   rw[Ycg e]at this;omega
  ·have:=fc n l nd fun x hx=>by
    have h1:=h x hx;have h2:x≠n:=fun z=>e (z ▸ hx);omega
   omega
theorem Ow.free {mask:Nat} {hs:List Int} {ow:Array (Option Nat)} {k:Nat} (O:Ow mask hs ow k) (hk:k≤mask):∃j,j≤mask∧ow[j]?=some none:=by
 refine Zd fun hc=>?_
 have all:∀j,j≤mask→∃v,ow[j]?=some (some v):=fun j hj=>by
  have hlt:j < ow.size:=by rw[O.sz]; omega
  have hx:ow[j]?=some (ow[j]'hlt):=Gm hlt
  cases e:(ow[j]'hlt) with
  | none=>rw[e]at hx; exact absurd ⟨j,hj,hx⟩ hc
  | some v=>rw[e]at hx; exact⟨v,hx⟩
 let f:Nat→Nat:=fun j=>((ow[j]?).getD none).getD 0
 have fv:∀j,j≤mask→ow[j]?=some (some (f j)):=fun j hj=>by
  obtain⟨v,hv⟩:=all j hj;show _=some (some (((ow[j]?).getD none).getD 0));rw[hv]; rfl
 have nd:((Cd (mask+1)).map f).Nodup:=by
  refine Li.mpr (Ych (fun {a b} ha hb hab e=>?_) (Yci (n:=mask+1)));rw[Es]at ha hb;exact hab (O.inj a b (f a) (fv a (by omega)) (by rw[e]; exact fv b (by omega)))
 have:=fc k _ nd fun x hx=>by
  obtain⟨j,hj,rfl⟩:=DY.mp hx;rw[Es]at hj;exact O.val j _ (fv j (by omega))
 rw[Az,G5]at this;omega
theorem Zrj {mask:Nat} {h:Int} {ow:Array (Option Nat)} (sz:ow.size=mask+1):∀(fuel x m:Nat),wkP mask h x=chS mask (lpN mask h m).1 (lpN mask h m).2→(∃n,m≤n∧n < m+fuel∧ow[(lpN mask h n).1]?=some none)→
  ∃j n,Zg mask ow fuel (lpN mask h m).1 (lpN mask h m).2=some j∧x≤n∧(wkP mask h n).j=j∧ow[j]?=some none∧∀n',x≤n'→n' < n→∃u,ow[(wkP mask h n').j]?=some (some u)
 | 0,x,m,e,⟨n,h1,h2,_⟩=>by omega
 | fuel+1,x,m,e,⟨n,h1,h2,h3⟩=>by
  have hi:(lpN mask h m).1≤mask:=by have:=ZyA mask h m; omega
  have nx:lpN mask h (m+1)=Hu mask (lpN mask h m).1 (lpN mask h m).2:=rfl;have e0:ow[(lpN mask h m).1]?=some none→n=m∨True:=fun _=>.inr trivial;unfold Zg;have hn:=Ztr e;rw[←nx]at hn;generalize hq:lpN mask h m=q at *;obtain⟨i,p⟩:=q
  dsimp only at *
  have rin:=dj hi
  have slot:∀c,c≤Eu mask i - i→(wkP mask h (x+c)).j=i+c:=fun c hc=>by rw[di e c hc]
  have gd:∀c,c≤Eu mask i - i→∃o,ow[i+c]?=some o∧ow.getD (i+c) (some 0)=o:=fun c hc=>by
   have hlt:i+c < ow.size:=by omega
   exact⟨ow[i+c],Gm hlt,by simp[Lh,hlt]⟩
  cases hf:(Cd (Eu mask i+1 - i)).find? fun k=>(ow.getD (i+k) (some 0)).isNone with
  | some c=>
   rw[List.find?_range_eq_some]at hf;obtain⟨f1,f2,f3⟩:=hf;rw[Es]at f2
   dsimp only
   obtain⟨o,g1,g2⟩:=gd c (by omega);rw[g2]at f1;have:o=none:=Option.isNone_iff_eq_none.mp f1;rw[this]at g1;refine⟨i+c,x+c,rfl,by omega,slot c (by omega),g1,fun n' a b=>?_⟩;obtain⟨o',g1',g2'⟩:=gd (n' - x) (by omega);have:=f3 (n' - x) (by omega);rw[g2']at this;rw[show n'=x+(n' - x) by omega,slot _ (by omega)]
   cases o' with
   | none=>simp at this
   | some u=>exact⟨u,g1'⟩
  | none=>
   rw[List.find?_range_eq_none]at hf
   dsimp only
   have occ:∀c,c≤Eu mask i - i→∃u,ow[i+c]?=some (some u):=fun c hc=>by
    obtain⟨o',g1',g2'⟩:=gd c hc;have:=hf c (by omega);rw[g2']at this
    cases o' with
    | none=>simp at this
    | some u=>exact⟨u,g1'⟩
   have nm:n≠m:=fun z=>by
    obtain⟨u,hu⟩:=occ 0 (Cy _);rw[z,hq]at h3;rw[TJ]at hu;have h3:ow[i]?=some none:=h3;rw[hu]at h3
    cases h3
   obtain⟨j,n2,a1,a2,a3,a4,a5⟩:=Zrj sz fuel _ (m+1) hn ⟨n,by omega,by omega,h3⟩;rw[nx]at a1;refine⟨j,n2,a1,by omega,a3,a4,fun n' b1 b2=>?_⟩
   by_cases z:n' < x+(Eu mask i - i)+1
   ·rw[show n'=x+(n' - x) by omega,slot _ (by omega)]
    exact occ _ (by omega)
   ·exact a5 n' (by omega) b2
theorem fj {ow:Array (Option Nat)} {j:Nat} {v:Option Nat} (hj:j < ow.size) (i:Nat):(ow.setIfInBounds j v)[i]?=if i=j then some v else ow[i]?:=by
 rw[Array.getElem?_setIfInBounds]
 by_cases e:j=i
 ·subst e; simp[hj]
 ·rw[if_neg e,if_neg (fun z=>e z.symm)]
theorem Ow.lay {mask:Nat} {hs:List Int} {ow:Array (Option Nat)} {k j n:Nat} {h:Int} (O:Ow mask hs ow k) (hk:hs[k]?=some h) (h1:(wkP mask h n).j=j) (h2:ow[j]?=some none) (h3:∀n',n' < n→∃u,ow[(wkP mask h n').j]?=some (some u)):Ow mask hs (ow.setIfInBounds j (some k)) (k+1):=by
 have hj:j < ow.size:=(Nq.mp h2).1
 have old:∀{i v:Nat},ow[i]?=some (some v)→(ow.setIfInBounds j (some k))[i]?=some (some v):=fun {i v} e=>by
  rw[fj hj,if_neg (fun z=>by rw[z,h2]at e; cases e)];exact e
 have inv:∀{i v:Nat},(ow.setIfInBounds j (some k))[i]?=some (some v)→(i=j∧v=k)∨ow[i]?=some (some v):=fun {i v} e=>by
  rw[fj hj]at e
  split at e
  ·rename_i z; exact .inl ⟨z,(De (De e)).symm⟩
  ·exact .inr e
 refine⟨by rw[Array.size_setIfInBounds]; exact O.sz,fun i hi=>?_,fun i v e=>?_,fun a b v ea eb=>?_,fun i v h' e hv=>?_⟩
 ·by_cases z:i=k
  ·subst z; exact⟨j,by rw[fj hj,if_pos rfl]⟩
  ·obtain⟨a,ea⟩:=O.has i (by omega)
   exact⟨a,old ea⟩
 ·rcases inv e with⟨_,z⟩ | z
  ·omega
  ·have:=O.val i v z; omega
 ·rcases inv ea with⟨z1,z2⟩ | z1 <;> rcases inv eb with⟨y1,y2⟩ | y1
  ·omega
  ·have:=O.val b v y1; omega
  ·have:=O.val a v z1; omega
  ·exact O.inj a b v z1 y1
 ·rcases inv e with⟨z1,z2⟩ | z
  ·subst z2
   rw[hk]at hv
   cases hv
   refine⟨n,by rw[h1,z1],fun n' hn'=>?_⟩;obtain⟨u,hu⟩:=h3 n' hn';exact⟨u,old hu⟩
  ·obtain⟨n1,a,b⟩:=O.re i v h' z hv
   refine⟨n1,a,fun n' hn'=>?_⟩;obtain⟨u,hu⟩:=b n' hn';exact⟨u,old hu⟩
noncomputable def stL (mask:Nat) (acc:Option (Array (Option Nat)×Nat)) (h:Int):Option (Array (Option Nat)×Nat):=do
 let (owner,k) ←acc
 let j ←Zg mask owner (Hv mask) (FZ h % (mask+1)) (FZ h)
 pure (owner.setIfInBounds j (some k),k+1)
theorem ZoN {mask kk:Nat} (hm:mask+1=2 ^ kk) {hs:List Int} (hl:hs.length≤mask):∀(l pre:List Int) (ow:Array (Option Nat)),hs=pre++l→Ow mask hs ow pre.length→∃ow',l.foldl (stL mask) (some (ow,pre.length))=some (ow',hs.length)∧Ow mask hs ow' hs.length
 | [],pre,ow,e,O=>⟨ow,by rw[e,Ed]; rfl,by rw[e,Ed]at *; exact O⟩
 | h::l,pre,ow,e,O=>by
  have hk:hs[pre.length]?=some h:=by rw[e,Gk (Ax _),Gv]; rfl
  have hpl:pre.length < hs.length:=(Cr.mp hk).1;obtain⟨j0,a1,a2⟩:=O.free (by omega);obtain⟨n0,b1,b2⟩:=ZvT hm h a1;obtain⟨j,n,c1,c2,c3,c4,c5⟩:=Zrj (h:=h) O.sz (Hv mask) 0 0 rfl ⟨n0,Cy _,by unfold Hv; omega,by rw[b2]; exact a2⟩;have c1:Zg mask ow (Hv mask) (FZ h % (mask+1)) (FZ h)=some j:=c1;have O2:=O.lay hk c3 c4 fun n' hn'=>c5 n' (Cy _) hn'
  have st:stL mask (some (ow,pre.length)) h=some (ow.setIfInBounds j (some pre.length),(pre++[h]).length):=by
   unfold stL;rw[Ca];simp only [Option.bind_eq_bind,Option.bind_some,c1];rfl
  rw[Ybh,st];exact ZoN hm hl l (pre++[h]) _ (by rw[e,Du]; rfl) (by rw[Ca]; exact O2)
theorem Zyx {mask kk:Nat} (hm:mask+1=2 ^ kk) {hs:List Int} (hl:hs.length≤mask):∃ow,Ycj mask hs.toArray=some ow∧Ow mask hs ow hs.length:=by
 have O0:Ow mask hs (Yae (mask+1) none) ([]:List Int).length:=by
  have nn:∀(j v:Nat),(Yae (mask+1) (none:Option Nat))[j]?≠some (some v):=fun j v e=>by
   rw[Array.getElem?_replicate]at e
   split at e <;> cases e
  exact⟨Array.size_replicate ..,fun i hi=>by exact absurd hi (IW _),fun j v e=>absurd e (nn j v),fun j j' v e=>absurd e (nn j v),fun j v h e=>absurd e (nn j v)⟩
 obtain⟨ow,h1,h2⟩:=ZoN hm hl hs [] _ rfl O0;refine⟨ow,?_,h2⟩;unfold Ycj;rw[List.foldl_toArray];have h1:hs.foldl (stL mask) (some (Yae (mask+1) none,0))=some (ow,hs.length):=h1;show Yaf _ (hs.foldl (stL mask) _)=_;rw[h1];rfl
noncomputable def Mf (mask:Nat) (ow:Array (Option Nat)):List (Nat×Nat):=(Cd (mask+1)).filterMap fun j=>(ow.getD j none).map (j,·)
theorem Zue {mask:Nat} {ow:Array (Option Nat)} (sz:ow.size=mask+1) {j v:Nat}:(j,v)∈Mf mask ow ↔ ow[j]?=some (some v):=by
 unfold Mf;rw[uq]
 constructor
 ·rintro⟨a,ha,e⟩
  rw[Es]at ha
  have hlt:a < ow.size:=by omega
  have hg:ow.getD a none=ow[a]:=by simp[Lh,hlt]
  rw[hg]at e;obtain⟨v',hv,e⟩:=Ux.mp e
  cases e
  rw[Gm hlt,hv]
 ·intro e
  have hlt:=(Nq.mp e).1;refine⟨j,Es.mpr (by omega),?_⟩
  have hg:ow.getD j none=ow[j]:=by simp[Lh,hlt]
  rw[Gm hlt]at e;rw[hg,De e];rfl
theorem ZwW {mask:Nat} {ow:Array (Option Nat)}:(Mf mask ow).Pairwise fun a b=>a.1 < b.1:=by
 unfold Mf;rw[List.pairwise_filterMap];refine Ydy (fun {a b} hab x hx y hy=>?_) (List.pairwise_lt_range (n:=mask+1));obtain⟨v,_,e1⟩:=Ux.mp hx;obtain⟨v',_,e2⟩:=Ux.mp hy;rw[←e1,←e2];exact hab
theorem ZwQ {mask kk:Nat} (hm:mask+1=2 ^ kk) (hmk:mask=7∨mask=31∨mask=127∨mask=511∨mask=2047∨mask=8191) {hs:List Int} (hl:hs.length≤mask) (fi mv:Nat) (ld:Bool):∃t order,Yag mask fi mv ld true hs.toArray=some (t,order)∧t.mask=mask∧t.led=ld∧order.toList.Perm (Cd hs.length)∧Tb t (order.toList.map fun i=>hs.getD i 0):=by
 obtain⟨ow,h1,O⟩:=Zyx hm hl;have mem:=fun {j v:Nat}=>Zue (j:=j) (v:=v) O.sz;have up:=ZwW (mask:=mask) (ow:=ow)
 have e:Yag mask fi mv ld true hs.toArray=some ({ mask:=mask,place:=((Mf mask ow).map (·.1)).toArray,dummies:=#[],finger:=fi,led:=ld,moves:=mv,plain:=true },((Mf mask ow).map (·.2)).toArray):=by
  unfold Yag;rw[h1];rfl
 generalize Mf mask ow=LV at e mem up
 have nd:(LV.map (·.2)).Nodup:=by
  refine Li.mpr (Ych (fun {a b} ha hb hab e=>?_) up);have:=O.inj a.1 b.1 a.2 (mem.mp ha) (by rw[e]; exact mem.mp hb);omega
 have pm:(LV.map (·.2)).Perm (Cd hs.length):=by
  refine(List.perm_ext_iff_of_nodup nd Yci).mpr fun v=>?_;rw[Es,DY]
  constructor
  ·rintro⟨q,hq,rfl⟩
   exact O.val q.1 q.2 (mem.mp hq)
  ·intro hv
   obtain⟨j,hj⟩:=O.has v hv;exact⟨(j,v),mem.mpr hj,rfl⟩
 have ln:LV.length=hs.length:=by
  have:=pm.length_eq
  rwa [Az,G5]at this
 have gp:∀i j:Nat,((LV.map (·.1)).toArray)[i]?=some j→∃v,LV[i]?=some (j,v):=fun i j hj=>by
  rw[Nm,CQ]at hj;obtain⟨q,hq,rfl⟩:=Ux.mp hj;exact⟨q.2,hq⟩
 have pg:∀{j v:Nat},ow[j]?=some (some v)→∃i:Nat,((LV.map (·.1)).toArray)[i]?=some j:=fun {j v} hv=>by
  obtain⟨i,hi⟩:=Ig.mp (mem.mpr hv);exact⟨i,by rw[Nm,CQ,hi]; rfl⟩
 refine⟨_,_,e,rfl,rfl,by rw[Uy]; exact pm,?_⟩;refine⟨hmk,rfl,rfl,fun a b x y hab ha hb=>?_,fun i j hj=>?_,?_,?_,fun i j h hj hh=>?_⟩
 ·obtain⟨v,hv⟩:=gp a x ha
  obtain⟨u,hu⟩:=gp b y hb;have l1:=(Cr.mp hv).1;have l2:=(Cr.mp hu).1;have:=Yx.mp up a b l1 l2 hab;rw[(Cr.mp hv).2,(Cr.mp hu).2]at this;exact this
 ·obtain⟨v,hv⟩:=gp i j hj
  have:=(Nq.mp (mem.mp (Df hv))).1;show j≤mask;have:=O.sz;omega
 ·show((LV.map (·.1)).toArray).size=_
  rw[Cu,Az,Uy,Az,Az]
 ·show((LV.map (·.1)).toArray).size≤mask
  rw[Cu,Az,ln];exact hl
 ·obtain⟨v,hv⟩:=gp i j hj
  have hm':=mem.mp (Df hv);rw[Uy,CQ,CQ,hv]at hh;have hvk:=O.val j v hm';have hh:hs.getD v 0=h:=De hh;obtain⟨n,a,b⟩:=O.re j v h hm' (by rw[←hh,Cz,CJ hvk]; rfl);refine⟨n,a,fun n' hn'=>?_⟩;obtain⟨u,hu⟩:=b n' hn';exact pg hu
theorem ZnR {n:Nat} (h:n≤50000):Lq n=n * 4:=by
 unfold Lq;rw[if_neg (by omega)]
theorem Tb.relay {t:Di} {hs:List Int} (T:Tb t hs) (hn:t.place.size≤4900) (hf:t.tooFull=true) (hp:(t.place.size - 1) * 5 < t.mask * 3) (h0:0 < t.place.size) :
  ∃t' order,t.relaid hs.toArray (Lq hs.length)=some (t',order)∧Zh (Lq hs.length)≤8192∧t'.led=t.led∧order.toList.Perm (Cd hs.length)∧Tb t' (order.toList.map fun i=>hs.getD i 0)∧t'.tooFull=false:=by
 have ff:t.place.size * 5 ≥ t.mask * 3:=by
  have:decide (t.fill * 5 ≥ t.mask * 3)=true:=hf;have:=of_decide_eq_true this;unfold Zi at this;rw[T.dm]at this
  simpa using this
 have ln:=T.ln
 have go:∀m n:Nat,Zh (n * 4)=m+1→(m=31∨m=127∨m=511∨m=2047∨m=8191)→hs.length=n→n * 5 < m * 3→n≤m→∃t' order,t.relaid hs.toArray (Lq hs.length)=some (t',order)∧Zh (Lq hs.length)≤8192∧t'.led=t.led∧order.toList.Perm (Cd hs.length)∧Tb t' (order.toList.map fun i=>hs.getD i 0)∧t'.tooFull=false:=by
  intro m n e hm el h5 hle
  have gs:Lq hs.length=n * 4:=by rw[ZnR (by omega),el]
  have pw:∃k,m+1=2 ^ k:=by
   rcases hm with h | h | h | h | h <;> rw[h]
   ·exact⟨5,rfl⟩
   ·exact⟨7,rfl⟩
   ·exact⟨9,rfl⟩
   ·exact⟨11,rfl⟩
   ·exact⟨13,rfl⟩
  obtain⟨k,hk⟩:=pw;obtain⟨t',order,a1,a2,a3,a4,a5⟩:=ZwQ hk (.inr hm) (hs:=hs) (by omega) t.finger (t.movedTo m) t.led;refine⟨t',order,?_,by rw[gs,e]; omega,a3,a4,a5,?_⟩
  ·unfold Di.relaid
   rw[gs,e,Ni,T.pl];exact a1
  ·show decide (t'.fill * 5 ≥ t'.mask * 3)=false
   have z:t'.place.size=n:=by
    rw[a5.ln,Az,a4.length_eq,G5,el]
   refine decide_eq_false ?_;unfold Zi;rw[a5.dm,a2,z];simp;omega
 rcases T.msk with h | h | h | h | h | h
 ·refine go 31 5 (by decide +kernel) (.inl rfl) (by omega) (by omega) (by omega)
 ·refine go 127 19 (by decide +kernel) (.inr (.inl rfl)) (by omega) (by omega) (by omega)
 ·refine go 511 77 (by decide +kernel) (.inr (.inr (.inl rfl))) (by omega) (by omega) (by omega)
 ·refine go 2047 307 (by decide +kernel) (.inr (.inr (.inr (.inl rfl)))) (by omega) (by omega) (by omega)
 ·refine go 8191 1229 (by decide +kernel) (.inr (.inr (.inr (.inr rfl)))) (by omega) (by omega) (by omega)
 ·omega
end L2
namespace L2
open PySem PySem.Spec PyProof.Rows
def Tup2 (hp:Ar) (b:Aa) (k:Int×Int):Prop:=∃o n t u,hp.get? b=some o∧o.cls=.type "tuple"∧o.data=.seq #[.int k.1 t,.int k.2 u] n
section
variable {prog:Ay} {w:Av} {A:Bp} {E:Ab→Ae→Prop} {s:Ae}
theorem Tup2.key {hp:Ar} {b:Aa} {k:Int×Int} (h:Tup2 hp b k):IsTupleKey (intKind prog w) hp [k.1,k.2] b:=by
 obtain⟨o,n,t,u,h1,h2,h3⟩:=h;exact⟨o,_,n,h1,h2,h3,.cons (intKind_is _ _ _ _) (.cons (intKind_is _ _ _ _) .nil)⟩
theorem Tup2.ty {b:Aa} {k:Int×Int} (h:Tup2 s.heap b k):s.TypeIs (.ref b) "tuple":=by
 obtain⟨o,n,t,u,h1,h2,h3⟩:=h;exact⟨o,h1,h2⟩
theorem Tup2.keep {hp hp':Ar} {b:Aa} {k:Int×Int} (h:Tup2 hp b k) (e:∀o,hp.get? b=some o→hp'.get? b=some o):Tup2 hp' b k:=by
 obtain⟨o,n,t,u,h1,h2,h3⟩:=h;exact⟨o,n,t,u,e o h1,h2,h3⟩
theorem ZxB {b:Aa} {k:Int×Int} {Q:Bool→Ae→Prop} (h:Tup2 s.heap b k) (q:Q true s):Ai (model prog w) A (hashByValue 8 (.ref b)) Q E s:=by
 have hT:=h.ty;obtain⟨o,n,t,u,h1,h2,h3⟩:=h;unfold hashByValue;refine Af (YT hT F.slot_tuple_hash.lookup ?_);refine Af (Uk h1 h3 ?_);refine Af ?_;show Ai _ _ (forIn (#[GR k.1 t,GR k.2 u]:Array Ab) _ _) _ _ s;rw[←Yck]
 refine Yc _ (fun rest r s'=>r.1=none∧s'=s∧∀v∈rest,∃x y,v=GR x y) _ ?_ ?_ _ _ ⟨rfl,rfl,fun v hv=>by
  rcases CZ.mp hv with rfl | hv
  ·exact⟨_,_,rfl⟩
  ·rw[Dr.mp hv]; exact⟨_,_,rfl⟩⟩
 ·rintro v rest r s' ⟨hr,rfl,hall⟩
  obtain⟨x,y,rfl⟩:=hall v Ec;refine Af ?_;unfold hashByValue;refine Aq ?_;simp only [G7,Dg,if_false];exact Aq ⟨rfl,rfl,fun u hu'=>hall u (Et _ hu')⟩
 ·rintro⟨r1,r2⟩ s' ⟨hr,rfl,_⟩
  simp only at hr;subst hr;exact Aq q
theorem ZpC {b:Aa} {k:Int×Int} {Q:Bool→Ae→Prop} (h:Tup2 s.heap b k) (q:Q false s):Ai (model prog w) A (ofAClassStatement 8 (.ref b)) Q E s:=by
 have hT:=h.ty;obtain⟨o,n,t,u,h1,h2,h3⟩:=h;unfold ofAClassStatement;refine Af (Tv hT ?_)
 dsimp only
 refine Af (Aq ?_);simp only [G7,Dg,if_false];refine Af (Uk h1 h3 ?_);refine Af ?_;show Ai _ _ (forIn (#[GR k.1 t,GR k.2 u]:Array Ab) _ _) _ _ s;rw[←Yck]
 refine Yc _ (fun rest r s'=>r.1=none∧s'=s∧∀v∈rest,∃x y,v=GR x y) _ ?_ ?_ _ _ ⟨rfl,rfl,fun v hv=>by
  rcases CZ.mp hv with rfl | hv
  ·exact⟨_,_,rfl⟩
  ·rw[Dr.mp hv]; exact⟨_,_,rfl⟩⟩
 ·rintro v rest r s' ⟨hr,rfl,hall⟩
  obtain⟨x,y,rfl⟩:=hall v Ec;refine Af ?_;unfold ofAClassStatement;refine Aq ?_;simp only [Dg,if_false];exact Aq ⟨rfl,rfl,fun u hu'=>hall u (Et _ hu')⟩
 ·rintro⟨r1,r2⟩ s' ⟨hr,rfl,_⟩
  simp only at hr;subst hr;exact Aq q
theorem Zti {b:Aa} {k:Int×Int} {ys:List Ab} {Q:Bool→Ae→Prop} (h:Tup2 s.heap b k) (hy:∀y∈ys,∃c j,y=.ref c∧Tup2 s.heap c j) (q:Q false s):Ai (model prog w) A (searchCouldBeSeen (.ref b) ys) Q E s:=by
 unfold searchCouldBeSeen;refine Af ?_;refine Yc _ (fun rest r s'=>r.1=none∧s'=s∧∀v∈rest,∃c j,v=Be c∧Tup2 s.heap c j) _ ?_ ?_ _ _ ⟨rfl,rfl,hy⟩
 ·rintro v rest r s' ⟨hr,rfl,hall⟩
  obtain⟨c,j,rfl,hc⟩:=hall v Ec;have nx:∀u∈rest,∃c j,u=Be c∧Tup2 s'.heap c j:=fun u hu'=>hall u (Et _ hu')
  dsimp only
  split
  ·exact Aq ⟨rfl,rfl,nx⟩
  ·refine Af (Ycl (h.key (prog:=prog) (w:=w)) ?_)
   simp only [G7,Dg,if_false];refine Af (Ycl (hc.key (prog:=prog) (w:=w)) ?_);simp only [G7,Dg,if_false];refine Af (ZpC h ?_);simp only [Dg,if_false];refine Af (ZpC hc ?_);simp only [Dg,if_false];exact Aq ⟨rfl,rfl,nx⟩
 ·rintro⟨r1,r2⟩ s' ⟨hr,rfl,_⟩
  simp only at hr;subst hr;exact Aq q
variable {hf:Int×Int→Int}
noncomputable def en2 (hf:Int×Int→Int) (x:(Int×Int)×Aa):Int×Ab:=(hf x.1,.ref x.2)
theorem Zuo {t:Di} {hs:List Int} (T:Tb t hs):t.gaveWay=false:=by
 unfold Di.gaveWay
 rcases T.msk with h | h | h | h | h | h <;> rw[h] <;> rfl
theorem Vv {t:Di} {es:Array (Int×Ab)} (T:Tb t (es.toList.map (·.1))):t.fits es.size=true:=by
 unfold Di.fits Zi;have h1:=T.ln;have h2:=T.lm;rw[Az,FJ]at h1;rw[T.dm];simp[h1];omega
theorem Zve {es:Array (Int×Ab)} {xs:List ((Int×Int)×Aa)} (hes:es.toList=xs.map (en2 hf)) {i:Nat} {x:(Int×Int)×Aa} (h:xs[i]?=some x):es[i]?=some (hf x.1,.ref x.2):=by
 rw[←IK,hes,CQ,h];rfl
theorem Zqp {t:Di} {hs:List Int} (T:Tb t hs) {h:Int} {e n:Nat} (he : ¬Occ t (wkP t.mask h e).j) (hb:∀n',n' < e→Occ t (wkP t.mask h n').j) (h10:e < 10 * Hv t.mask) (hn:n≤e) (f:Nat→Int):∃met,t.probe f h (wkP t.mask h n)=some met:=by
 unfold Ycm
 rcases d7 T (f:=f) he hb (10 * Hv t.mask) n (by omega) hn with⟨k1,_⟩ | ⟨m,i,_,_,_,_,m5,_⟩
 ·exact⟨_,k1⟩
 ·exact⟨_,m5⟩
theorem Zof {t:Di} {hs:List Int} (T:Tb t hs) {h:Int} {e n:Nat} (he : ¬Occ t (wkP t.mask h e).j) (hb:∀n',n' < e→Occ t (wkP t.mask h n').j) (h10:e < 10 * Hv t.mask) (hn:n≤e) {f:Nat→Int} {met:Di.Met} (hm:t.probe f h (wkP t.mask h n)=some met) :
  (met=.empty (wkP t.mask h e).j none∧∀n' i:Nat,n≤n'→n' < e→t.place[i]?=some (wkP t.mask h n').j→f i≠h)∨
   ∃m i:Nat,n≤m∧m < e∧t.place[i]?=some (wkP t.mask h m).j∧f i=h∧met=.candidate (wkP t.mask h m).j i (wkP t.mask h (m+1))∧∀n' i':Nat,n≤n'→n' < m→t.place[i']?=some (wkP t.mask h n').j→f i'≠h:=by
 unfold Ycm at hm
 rcases d7 T (f:=f) he hb (10 * Hv t.mask) n (by omega) hn with⟨k1,k2⟩ | ⟨m,i,a1,a2,a3,a4,a5,a6⟩
 ·rw[k1]at hm
  exact .inl ⟨(De hm).symm,k2⟩
 ·rw[a5]at hm
  exact .inr ⟨m,i,a1,a2,a3,a4,(De hm).symm,a6⟩
theorem Zlk {a b:Aa} {o:Obj} {es:Array (Int×Ab)} {ep e:Nat} {t:Di} {xs:List ((Int×Int)×Aa)} {k:Int×Int} {Q:SetFound→Ae→Prop} (hu:A.units < cLine) (ho:s.heap.get? a=some o) (hd:o.data=.set es ep t)
  (T:Tb t (es.toList.map (·.1))) (hes:es.toList=xs.map (en2 hf)) (his:∀x∈xs,Tup2 s.heap x.2 x.1) (hk:Tup2 s.heap b k) (he : ¬Occ t (wkP t.mask (hf k) e).j) (hb:∀n',n' < e→Occ t (wkP t.mask (hf k) n').j) (h10:e < 10 * Hv t.mask)
  (q1:(∃x∈xs,x.1=k)→Q (.there none) s) :
  ∀(fuel n:Nat) (st:Option RP),e - n < fuel→n≤e→st.getD (t.probeStart (hf k))=wkP t.mask (hf k) n→
   ((∀(n' i:Nat) x,n≤n'→n' < e→t.place[i]?=some (wkP t.mask (hf k) n').j→xs[i]?=some x→x.1≠k)→Q (.free (wkP t.mask (hf k) e).j false) s)→
   Ai (model prog w) A (setSearchFrom a (.ref b) (hf k) true fuel st) Q E s
 | 0,n,st,hfl,hn,hst,q2=>by omega
 | fuel+1,n,st,hfl,hn,hst,q2=>by
  have fit:=Vv T;unfold setSearchFrom;refine Af (Ko ho hd fit ?_)
  dsimp only
  rw[Zuo T];simp only [Dg,if_false];rw[hst]
  have un:∀(i:Nat) (x:(Int×Int)×Aa),xs[i]?=some x→((es[i]?).map (·.1)).getD 0=hf x.1:=fun i x h=>by rw[Zve hes h]; rfl
  have at_:∀{i:Nat} {j:Nat},t.place[i]?=some j→∃x,xs[i]?=some x:=fun {i j} h=>by
   have h1:=(Nq.mp h).1;have h2:=T.ln;rw[hes,Az,Az]at h2;exact⟨xs[i]'(by omega),CJ (by omega)⟩
  split
  ·rename_i met hmet
   rcases Zof T he hb h10 hn hmet with⟨rfl,k2⟩ | ⟨m,i,m1,m2,m3,m4,rfl,m6⟩
   ·dsimp only
    refine Aq (q2 fun n' i x h1 h2 h3 h4 z=>k2 n' i h1 h2 h3 ?_);show((es[i]?).map (·.1)).getD 0=hf k;rw[un i x h4,z]
   ·obtain⟨x,hx⟩:=at_ m3
    have hxm:=Df hx;have hxs:=his x hxm
    dsimp only
    have ei:=Zve hes hx
    have hys:∀y∈((es.filter (fun x=>x.1 == hf k)).toList.map (·.2)),∃c j,y=Be c∧Tup2 s.heap c j:=fun y hy=>by
     obtain⟨q,hq,rfl⟩:=DY.mp hy;rw[Array.toList_filter]at hq;have hq:=(Fj.mp hq).1;rw[hes]at hq;obtain⟨z,hz,rfl⟩:=DY.mp hq;exact⟨z.2,z.1,rfl,his z hz⟩
    have nx : ¬x.1=k→Ai (model prog w) A (setSearchFrom a (.ref b) (hf k) true fuel (some (wkP t.mask (hf k) (m+1)))) Q E s:=fun hkk=>by
     refine Zlk hu ho hd T hes his hk he hb h10 q1 fuel (m+1) _ (by omega) (by omega) rfl fun hq=>q2 fun n' i' x' h1 h2 h3 h4=>?_
     rcases Nb n' m with z | z | z
     ·intro e'
      refine m6 n' i' h1 z h3 ?_;show((es[i']?).map (·.1)).getD 0=hf k;rw[un i' x' h4,e']
     ·subst z
      have:i'=i:=by rw[←Sg T.up h3,←Sg T.up m3]
      subst this;rw[hx]at h4
      cases h4
      exact hkk
     ·exact hq n' i' x' (by omega) h2 h3 h4
    by_cases hld:t.led=true
    ·rw[hld]
     simp only [G7,Dg,if_false]
     ·skip
      rw[ei]
      dsimp only
      refine Af (Fq (Ycn (knd:=intKind prog w) hu hxs.key hk.key ?_));refine Af (Ko ho hd fit ?_)
      dsimp only
      by_cases hkk:x.1=k
      ·rw[hkk,decide_eq_true rfl]
       exact Aq (q1 ⟨x,hxm,hkk⟩)
      ·rw[decide_eq_false (show ¬ [x.1.1,x.1.2]=[k.1,k.2] from fun z=>hkk (by
        have z1:=(Ju z).1;have z2:=(Ju (Ju z).2).1
        exact Iz z1 z2))]
       simp only [Fw,Dg,if_false]
       have sm:t.sameMemory t.moves t.mask=some true:=by unfold Yco; simp
       rw[sm];simp only [if_true];rw[dw T.up m3]
       dsimp only
       rw[ei]
       dsimp only
       refine Af (Ycp (Af (Aq ?_)));simp only [if_true];exact nx hkk
    ·have hld:t.led=false:=by simpa using hld
     rw[hld];simp only [Uz,if_true];refine Af (Zti hk hys ?_);simp only [Dg,if_false]
     ·skip
      rw[ei]
      dsimp only
      refine Af (Fq (Ycn (knd:=intKind prog w) hu hxs.key hk.key ?_));refine Af (Ko ho hd fit ?_)
      dsimp only
      by_cases hkk:x.1=k
      ·rw[hkk,decide_eq_true rfl]
       exact Aq (q1 ⟨x,hxm,hkk⟩)
      ·rw[decide_eq_false (show ¬ [x.1.1,x.1.2]=[k.1,k.2] from fun z=>hkk (by
        have z1:=(Ju z).1;have z2:=(Ju (Ju z).2).1
        exact Iz z1 z2))]
       simp only [Fw,Dg,if_false]
       have sm:t.sameMemory t.moves t.mask=some true:=by unfold Yco; simp
       rw[sm];simp only [if_true];rw[dw T.up m3]
       dsimp only
       rw[ei]
       dsimp only
       refine Af (Ycp (Af (Aq ?_)));simp only [if_true];exact nx hkk
  ·rename_i hno
   exact(hno _ (Classical.choose_spec (Zqp T he hb h10 hn _))).elim
def SetT (w:Av) (hf:Int×Int→Int) (hp:Ar) (a:Aa) (xs:List ((Int×Int)×Aa)):Prop:=∃o es ep t,hp.get? a=some o∧o.ExactSet∧o.data=.set es ep t∧t.led = !(w.params.followText "set-order")∧Tb t (es.toList.map (·.1))∧t.tooFull=false∧es.toList=xs.map (en2 hf)∧(xs.map (·.1)).Nodup
theorem SetT.same {hp hp':Ar} {a:Aa} {xs:List ((Int×Int)×Aa)} (h:SetT w hf hp a xs) (k:∀o,hp.get? a=some o→hp'.get? a=some o):SetT w hf hp' a xs:=by
 obtain⟨o,es,ep,t,e,r⟩:=h;exact⟨o,es,ep,t,k _ e,r⟩
theorem ZsG {α:Type} (xs:List α):(Cd xs.length).filterMap (fun i=>xs[i]?)=xs:=by
 have:=filterMap_getElem?_range xs.toArray
 simpa using this
theorem fu {es:Array (Int×Ab)} {xs:List ((Int×Int)×Aa)} (hes:es.toList=xs.map (en2 hf)):∀l:List Nat,l.filterMap (fun i=>es[i]?)=(l.filterMap fun i=>xs[i]?).map (en2 hf)
 | []=>rfl
 | i::l=>by
  have e:es[i]?=(xs[i]?).map (en2 hf):=by rw[←IK,hes,CQ]
  rw[Rj,Rj,e]
  cases xs[i]? with
  | none=>exact fu hes l
  | some x=>rw[Kf]; dsimp only; rw[Cv,fu hes l]
theorem Zlh {xs:List ((Int×Int)×Aa)}:∀l:List Nat,(∀i∈l,i < xs.length)→((l.filterMap fun i=>xs[i]?).map (en2 hf)).map (·.1)=l.map fun i=>((xs.map (en2 hf)).map (·.1)).getD i 0
 | [],_=>rfl
 | i::l,h=>by
  have hi:=h i Ec;rw[Rj,CJ hi]
  dsimp only
  rw[Cv,Cv,Cv,Zlh l fun j hj=>h j (Et _ hj)]
  congr 1
  rw[Cz,CQ,CQ,CJ hi];rfl
theorem ZuQ {a b:Aa} {xs:List ((Int×Int)×Aa)} {k:Int×Int} {Q:Bool→Ae→Prop} (hu:A.units < cLine) (hS:SetT w hf s.heap a xs) (his:∀x∈xs,Tup2 s.heap x.2 x.1) (hk:Tup2 s.heap b k) (hz:xs.length < 4900)
  (q:∀r hp' xs',HX a s.heap hp'→SetT w hf hp' a xs'→(∀x∈xs',x∈xs∨x=(k,b))→(∀j,j∈xs'.map (·.1) ↔ (j=k∨j∈xs.map (·.1)))→xs'.length≤xs.length+1→Q r { s with heap:=hp' }) :
  Ai (model prog w) A (setAddHashed a (.ref b) (hf k)) Q E s:=by
 obtain⟨o,es,ep,t,ho,hx,hd,hld,T,hnf,hes,hnd⟩:=hS;have fit:=Vv T
 obtain⟨e,h10,he,hb⟩:=T.first (hf k)
 have m8:=T.m8
 have lnx:es.size=xs.length:=by rw[←FJ,hes,Az]
 unfold setAddHashed setAddHashedIn;refine Fq (Af (Ko ho hd fit ?_))
 dsimp only
 have bs:byScan (.ref b) es=false:=rfl;rw[bs];simp only [Dg,if_false];unfold setSearch;refine Af (Zlk hu ho hd T hes his hk he hb h10 ?_ 100000 0 none (by unfold Hv at h10; omega) (Cy _) rfl ?_)
 ·rintro⟨x,hxm,hxk⟩
  dsimp only
  refine Aq (q false s.heap xs (Ydz a s.heap) ⟨o,es,ep,t,ho,hx,hd,hld,T,hnf,hes,hnd⟩ (fun x h=>.inl h) (fun j=>⟨.inr,fun h=>h.elim (fun z=>?_) id⟩) (Ia _));rw[z,←hxk];exact Ycq hxm
 ·intro hno
  dsimp only
  have hkn:k∉xs.map (·.1):=fun hm=>by
   obtain⟨x,hxm,hxk⟩:=DY.mp hm;obtain⟨i,hi⟩:=Ig.mp hxm;have hil:=(Cr.mp hi).1;have lp:=T.ln;rw[Az,FJ]at lp;have hpl:t.place[i]?=some (t.place[i]'(by omega)):=Gm (by omega)
   have hh:(es.toList.map (·.1))[i]?=some (hf k):=by rw[hes,CQ,CQ,hi,←hxk]; rfl
   obtain⟨n,a1,a2⟩:=T.re i _ _ hpl hh
   rcases RQ n e with z | z
   ·exact hno n i x (Cy _) z (by rw[a1]; exact hpl) hi hxk
   ·rcases Uw z with y | y
    ·exact he (a2 e y)
    ·rw[y,a1]at he
     exact he ⟨i,hpl⟩
  refine Af (Ko ho hd fit ?_)
  dsimp only
  rw[Zxg T.dm]
  dsimp only
  generalize hj:(wkP t.mask (hf k) e).j=j;have pl:(putT t j).plain=true:=T.pl;rw[pl];simp only [if_true];refine Af (ZxB hk ?_);simp only [if_true]
  have lsz:t.place.size=es.size:=by have:=T.ln; rw[Az,FJ]at this; exact this
  have nf5:t.place.size * 5 < t.mask * 3:=by
   have:decide (t.fill * 5 ≥ t.mask * 3)=false:=hnf;have:=of_decide_eq_false this;unfold Zi at this;rw[T.dm]at this;simp at this;omega
  have T2:Tb (putT t j) (insL (es.toList.map (·.1)) (Dt t.place j) (hf k)):=by
   rw[←hj];exact T.put he hb (by omega)
  obtain⟨bb,_,_⟩:=Oa T.up j;generalize Dt t.place j=p at T2 bb
  have hes2:(Gw es p (hf k,Be b)).toList=(insL xs p (k,b)).map (en2 hf):=by
   rw[Yad,hes];unfold insL;rw[Dh,Cv,TV,TX];rfl
  have hh2:insL (es.toList.map (·.1)) p (hf k)=(Gw es p (hf k,Be b)).toList.map (·.1):=by
   rw[Yad];unfold insL;rw[Dh,Cv,TV,TX]
  rw[hh2]at T2;have z1:(Gw es p (hf k,Be b)).size=es.size+1:=d8 _ _ _
  have pmi:(insL xs p (k,b)).Perm ((k,b)::xs):=by
   unfold insL;refine Yb1.trans ?_;rw[Ht]
  have li:(insL xs p (k,b)).length=xs.length+1:=pmi.length_eq;have fit2:=Vv T2;generalize Gw es p (hf k,Be b)=es2 at hes2 T2 z1 fit2;generalize insL xs p (k,b)=xs2 at hes2 pmi li;have nd2:(xs2.map (·.1)).Nodup:=(pmi.map (·.1)).nodup_iff.mpr (K6.mpr ⟨hkn,hnd⟩);have me2:∀x∈xs2,x∈xs∨x=(k,b):=fun x hx=>(CZ.mp (pmi.mem_iff.mp hx)).symm
  have ke2:∀j,j∈xs2.map (·.1) ↔ (j=k∨j∈xs.map (·.1)):=fun j=>by
   rw[(pmi.map (·.1)).mem_iff,Cv,CZ]
  refine Af (Ycr ho hd ?_ (by rw[z1]; exact Ii (by omega)));have at1:=Ka (Zj es2 (putT t j)) ho (by rw[putSet_of _ _ hd]; rfl);rw[putSet_of _ _ hd]at at1;have sb1:=RK s.heap a (Zj es2 (putT t j))
  cases hfu:(putT t j).tooFull with
  | false=>
   simp only [Uz,Fw,Dg,if_false];exact Aq (q true _ xs2 sb1 ⟨_,es2,ep+1,_,at1,hx,rfl,hld,T2,hfu,hes2,nd2⟩ me2 ke2 (by omega))
  | true=>
   simp only [Uz,Bool.and_self,if_true]
   have psz:(putT t j).place.size=es.size+1:=by
    have:=T2.ln;rw[Az,FJ,z1]at this;exact this
   have hl2:(es2.toList.map (·.1)).length=es.size+1:=by rw[Az,FJ,z1]
   obtain⟨t',order,r1,r2,r3,r4,r5,r6⟩:=T2.relay (by rw[psz,lnx]; omega) hfu (by rw[psz]; show(es.size+1 - 1) * 5 < t.mask * 3; omega) (by rw[psz]; omega);unfold setRelay;refine Af (Af (Ko (s:={ s with heap:=s.heap.update a (Zj es2 (putT t j)) }) at1 rfl fit2 ?_))
   dsimp only
   rw[hl2]at r1 r2
   have sl : ¬Zh (Lq (es.size+1)) > Bk:=by
    have:=Ii (n:=8192) (by omega);omega
   rw[if_neg sl]
   have em:es2.map (·.1)=(es2.toList.map (·.1)).toArray:=by
    apply Array.toList_inj.mp;rw[Ya6]
   rw[em,r1]
   have om:∀i∈order.toList,i < xs2.length:=fun i hi=>by
    have:=r4.mem_iff.mp hi;rw[Es,hl2]at this;omega
   have hes3:(order.filterMap (fun i=>es2[i]?)).toList=(order.toList.filterMap fun i=>xs2[i]?).map (en2 hf):=by
    rw[Array.toList_filterMap];exact fu hes2 _
   have pm3:(order.toList.filterMap fun i=>xs2[i]?).Perm xs2:=by
    have:=r4.filterMap (fun i=>xs2[i]?);rw[show(es2.toList.map (·.1)).length=xs2.length by rw[hl2]; omega,ZsG]at this;exact this
   have sz3:(order.filterMap (fun i=>es2[i]?)).size=es2.size:=by
    rw[←FJ,hes3,Az,pm3.length_eq];omega
   refine Af ?_;show Ai _ _ (if ((order.filterMap (fun i=>es2[i]?)).size != es2.size)=true then _ else pure (order.filterMap (fun i=>es2[i]?),t')) _ _ _;rw[if_neg (by rw[sz3]; simp)];refine Aq ?_
   have T3:Tb t' ((order.filterMap (fun i=>es2[i]?)).toList.map (·.1)):=by
    rw[hes3,Zlh _ om,←hes2];exact r5
   generalize order.filterMap (fun i=>es2[i]?)=es3 at hes3 sz3 T3;generalize (order.toList.filterMap fun i=>xs2[i]?)=xs3 at hes3 pm3;refine Ycr at1 rfl ?_ (by show es3.size≤_; rw[sz3,z1]; exact Ii (by omega));have at2:=Ka (Zj es3 t') at1 rfl;refine Aq (q true _ xs3 (sb1.trans (RK _ a _)) ⟨_,es3,_,t',at2,hx,rfl,by rw[r3]; exact hld,T3,r6,hes3,(pm3.map (·.1)).nodup_iff.mpr nd2⟩ (fun x h=>me2 x (pm3.mem_iff.mp h)) (fun j=>((pm3.map (·.1)).mem_iff).trans (ke2 j)) (by rw[pm3.length_eq]; omega))
end
end L2
namespace L2
open PySem PySem.Spec PyProof.Rows
section
variable {prog:Ay} {w:Av} {A:Bp} {R:K5→Ae→Prop} {I:Aa} {fp wr:List Aa} {G:Array Ir→Array Ir→Prop} {n:Nat} {P:Nat→Ab→Prop} {St:Nat→Ae→Prop} {hf:Int×Int→Int}
theorem ZsR (W:YM prog w A.in1 I fp wr G n P St) (S:Aa) (hSf:S∉fp) (hu:A.in1.units < cLine) (hfe:∀k:Int×Int,tupleKeyHash (intKind prog w) [k.1,k.2]=hf k) (val:Nat→(Int×Int)×Aa) (hv:∀i v,P i v→v=.ref (val i).2) (hn:n≤4900) (hw:∀i,i < n→(val i).2∉S::wr) :
  ∀(k i:Nat) (s:Ae) (xs:List ((Int×Int)×Aa)),n - i=k→i≤n→St i s→SetT w hf s.heap S xs→(∀j,j < n→Tup2 s.heap (val j).2 (val j).1)→(∀x∈xs,∃j,j < n∧x=val j)→(∀j,j∈xs.map (·.1) ↔ ∃i',i' < i∧(val i').1=j)→xs.length≤i→
   (∀s' xs',Moved (S::wr) G s s'→SetT w hf s'.heap S xs'→(∀j,j < n→Tup2 s'.heap (val j).2 (val j).1)→(∀x∈xs',∃j,j < n∧x=val j)→(∀j,j∈xs'.map (·.1) ↔ ∃i',i' < n∧(val i').1=j)→xs'.length≤n→R (.ok (.ret .none)) s')→
   codeAny (model prog w) A (.builtin "set.update.loop" ⟨[.ref S,.ref I],[]⟩) R s:=by
 have nw:S∉wr:=fun h=>hSf (W.sub _ h);have up:∀b∈wr,b∈S::wr:=fun b hb=>Et _ hb;intro k
 induction k with
 | zero=>
  intro i s xs hk hi hst hS hT hx hm hl hR
  obtain rfl:i=n:=by omega
  refine RN Ycs (by
   rw[Ut Yah _];show Ai _ A.in1 (pyNext (.ref I) >>= _) _ _ s;refine Af (W.done s _ _ hst fun s' mv=>?_);show Ai _ A.in1 (ret Dd) _ _ s'
   exact Aq (hR s' xs (mv.mono up) (hS.same fun o e=>mv.heap S _ nw e) (fun j hj=>(hT j hj).keep fun o e=>mv.heap _ _ (fun z=>hw j hj (up _ z)) e) hx hm hl))
 | succ k ih=>
  intro i s xs hk hi hst hS hT hx hm hl hR
  have lt:i < n:=by omega
  refine RN Ycs (by
   rw[Ut Yah _];show Ai _ A.in1 (pyNext (.ref I) >>= _) _ _ s;refine Af (W.item i s _ _ lt hst fun v s' pv st' mv=>?_);obtain rfl:=hv i v pv;have S':SetT w hf s'.heap S xs:=hS.same fun o e=>mv.heap S _ nw e;have T':∀j,j < n→Tup2 s'.heap (val j).2 (val j).1:=fun j hj=>(hT j hj).keep fun o e=>mv.heap _ _ (fun z=>hw j hj (up _ z)) e;show Ai _ A.in1 (holding [Be (val i).2] (setAdd S (.ref (val i).2)) >>= _) _ _ s';refine Af (Fq ?_);unfold setAdd;refine Fq (Af (wpAny_pyHash_tuple (knd:=intKind prog w) hu (T' i lt).key ?_));rw[hfe];have T2:∀(tk:Nat) (j:Nat),j < n→Tup2 (YbK { s' with toks:=tk }) (val j).2 (val j).1:=fun tk j hj=>T' j hj;refine ZuQ (s:={ s' with toks:=s'.toks+([(val i).1.1,(val i).1.2].length+1) }) hu S' (fun x hxm=>?_) (T' i lt) (by omega) fun r hp' xs' sb S2 hmem hkey hlen=>?_
   ·obtain⟨j,hj,e⟩:=hx x hxm
    rw[e];exact T' j hj
   have ne:∀j,j < n→(val j).2≠S:=fun j hj z=>hw j hj (by rw[z]; exact Ec);refine Aq ⟨Uj Yah _,ih (i+1) _ xs' (by omega) lt (W.frame _ s' _ _ st' (Yai _ _) fun b hb o e=>?_) S2 (fun j hj=>(T' j hj).keep fun o e=>?_) (fun x hx'=>?_) (fun j=>?_) (by omega) fun s2 xs2 m2 S3 T3 h3 k3 l3=>?_⟩
   ·rw[sb.2 b (fun z:b=S=>hSf (by rw[←z]; exact hb))]
    exact e
   ·rw[sb.2 _ (ne j hj)]
    exact e
   ·rcases hmem x hx' with z | z
    ·exact hx x z
    ·exact⟨i,lt,z⟩
   ·rw[hkey,hm]
    constructor
    ·rintro(z | ⟨i',h1,h2⟩)
     ·exact⟨i,by omega,z.symm⟩
     ·exact⟨i',by omega,h2⟩
    ·rintro⟨i',h1,h2⟩
     rcases(show i' < i∨i'=i by omega) with z | rfl
     ·exact .inr ⟨i',z,h2⟩
     ·exact .inl h2.symm
   ·refine hR s2 xs2 (YbH W.gtrans ((mv.mono up).then_heap (Yai _ _) fun b o hb e=>?_) m2) S3 T3 h3 k3 l3
    rw[sb.2 b (fun z:b=S=>hb (by rw[z]; exact Ec))]
    exact e)
end
section
variable {prog:Ay} {w:Av} {A:Bp} {E:Ab→Ae→Prop} {s:Ae} {hf:Int×Int→Int}
theorem Zw0 {hp:Ar} {a:Aa} (h:hp.get? a=some (newS w)):SetT w hf hp a []:=by
 refine⟨_,#[],0,_,h,⟨rfl,rfl,rfl⟩,rfl,rfl,?_,rfl,rfl,YaU⟩
 have nn:∀(i j:Nat),(#[]:Array Nat)[i]?≠some j:=fun i j e=>by simp at e
 exact⟨.inl rfl,rfl,rfl,fun i j x y _ e=>absurd e (nn i x),fun i j e=>absurd e (nn i j),rfl,Cy _,fun i j h e=>absurd e (nn i j)⟩
theorem Zq2 {l:Aa} {items:Array Ab} {val:Nat→(Int×Int)×Aa} {Q:Ab→Ae→Prop} (hh:A.handled=none) (hu:A.units+20 < cLine) (hfe:∀k:Int×Int,tupleKeyHash (intKind prog w) [k.1,k.2]=hf k) (hl:s.heap.IsList l items) (hi:∀(i:Nat) (v:Ab),items[i]?=some v→v=.ref (val i).2) (hn:items.size≤4900) (hT0:∀j,j < items.size→Tup2 s.heap (val j).2 (val j).1)
  (h:∀(hp':Ar) (tk:Nat) (xs:List ((Int×Int)×Aa)),(SetT w hf hp' s.heap.objs.size xs∧(∀j,j < items.size→Tup2 hp' (val j).2 (val j).1)∧(∀x∈xs,∃j,j < items.size∧x=val j)∧(∀j,j∈xs.map (·.1) ↔ ∃i',i' < items.size∧(val i').1=j)∧xs.length≤items.size)→(∀b o,b < s.heap.objs.size→s.heap.get? b=some o→hp'.get? b=some o)→Q (.ref s.heap.objs.size) { s with heap:=hp',toks:=tk }) :
  Ai (model prog w) A (call (.type "set") [.ref l]) Q E s:=by
 obtain⟨c,tl,hmro⟩:=Lr.mro;have m1:=Lr.made;have m2:=Lr.sub;have m3:=Lr.notType;have m4:=Lr.canCreate;have m5:=PySem.F.typeCall_set_1 (.ref l)
 refine u9 (YbZ (by
  show Ai _ _ (callAny (.type "set") _) _ _ _;refine Aq ⟨Code.quiet_builtin _ (by decide +kernel),RN PySem.F.entry_type_call ?_⟩;rw[Bp.under_plain (weight_type_call_type "set" [.ref l] []) rfl]
  repeat (any_goals (first | assumption | wp_step))
  refine Ro (Zug (.ref l) (E:=E) (Q1:=fun obj s1=>obj=.ref s.heap.objs.size∧s1 = { s with heap:=s.heap.push (newS w) }) ⟨rfl,rfl⟩) fun r s1 hr=>?_
  cases r with
  | error e=>exact hr
  | ok fl=>
   cases fl with
   | ret obj=>
    obtain⟨rfl,rfl⟩:=hr;have hS:(s.heap.push (newS w)).get? s.heap.objs.size=some (newS w):=CT _ rfl;have hT:Ur { s with heap:=s.heap.push (newS w) } (.ref s.heap.objs.size) "set":=⟨_,hS,rfl⟩;have i1:=Lr.init.lookup;have i2:=Lr.init.bind (.ref s.heap.objs.size)
    repeat (any_goals (first | assumption | wp_step))
    refine Ro (codeAny_call_builtin (R:=wants (fun r s2=>r=.none∧∃hp' tk xs,s2 = { s with heap:=hp',toks:=tk }∧(SetT w hf hp' s.heap.objs.size xs∧(∀j,j < items.size→Tup2 hp' (val j).2 (val j).1)∧(∀x∈xs,∃j,j < items.size∧x=val j)∧(∀j,j∈xs.map (·.1) ↔ ∃i',i' < items.size∧(val i').1=j)∧xs.length≤items.size)∧(∀b o,b < s.heap.objs.size→s.heap.get? b=some o→hp'.get? b=some o)) E) Lr.init.plain PySem.F.entry_set_init (check_set_init_1 hT ?_)) fun r2 s2 hr2=>?_
    ·obtain⟨ol,e0,c0,n0,d0⟩:=hl
     obtain⟨oc,od,oda,osl⟩:=ol
     dsimp only at c0 d0
     subst c0 d0;have e1:(s.heap.push (newS w)).get? l=some { cls:=.type "list",dict:=od,data:=.seq items n0,slots:=osl }:=BK _ e0;have q1:=PySem.F.sub_list_set;have q2:=PySem.F.sub_list_frozenset
     have q3:(Fi "list" == Fi "dict")=false:=by decide
     have hl1:(s.heap.push (newS w)).IsList l items:=⟨_,e1,rfl,n0,rfl⟩;unfold Fd.«set.__init__» noKeywords YdA;generalize ePI:pyIter=PI
     wp_walk
     subst ePI;have lS:l < s.heap.objs.size:=BR e0;have sz1:(s.heap.push (newS w)).objs.size=s.heap.objs.size+1:=J5 _ _;refine Ym hl1 (Af (wpAny_runValue ?_));refine ZsR (hf:=hf) ((zm (by simp[hh]) _ l (by rw[sz1]; exact Ce (Js lS)) items).toS) s.heap.objs.size (by rw[sz1]; simp only [CZ,UG,or_false,not_or]; exact⟨Ce (Tj _),Hk lS⟩) (by simp; omega) hfe val hi hn (fun i hi'=>?_) (items.size - 0) 0 _ [] (by omega) (Cy _) ⟨⟨_,CT _ rfl,rfl,rfl⟩,hl1.push _⟩ ?_ (fun j hj=>(hT0 j hj).keep fun o e=>BK _ (BK _ e)) (fun x hx=>by cases hx) (fun j=>⟨fun z=>(by cases z),fun⟨i',z,_⟩=>(by omega)⟩) (Cy _) ?_
     ·obtain⟨o',_,_,_,eo,_⟩:=hT0 i hi'
      have bl:=BR eo;rw[sz1];simp only [CZ,UG,or_false,not_or];exact⟨Ce bl,Ce (Js bl)⟩
     ·exact(Zw0 (BK _ hS))
     ·intro s' xs mv S' T3 h3 k3 l3
      obtain⟨hp',g',d',tk',os'⟩:=s';obtain rfl:g'=s.gens:=mv.gens;obtain rfl:d'=s.drawn:=mv.drawn;obtain rfl:os'=s.os:=mv.os;show Ai _ _ _ _ _ _;refine Aq ?_;show Ai _ _ (ret Dd) _ _ _;refine Aq ⟨rfl,hp',tk',xs,rfl,⟨S',T3,h3,k3,l3⟩,fun b o hb e=>?_⟩;refine mv.heap b o ?_ (BK _ (BK _ e));rw[sz1];simp only [CZ,UG,or_false,not_or];exact⟨Ce hb,Ce (Js hb)⟩
    ·cases r2 with
     | error e=>exact hr2
     | ok fl2=>
      cases fl2 with
      | ret r=>
       obtain⟨rfl,hp',tk,xs,rfl,S',kp⟩:=hr2
       repeat (any_goals (first | assumption | wp_step))
       exact h _ _ xs S' kp
      | _=>exact hr2.elim
   | _=>exact hr.elim))
end
end L2
namespace L2
open PySem PySem.Spec PyProof.Rows
section
variable {prog:Ay} {w:Av} {A:Bp} {E:Ab→Ae→Prop} {s:Ae}
noncomputable def HF (t:Di) (i:Nat):Nat:=if i=0 then 0 else t.place.getD (i - 1) 0+1
theorem ZnL {t:Di} (u:Up t.place) {i:Nat} (hi:i≤t.place.size):Dt t.place (HF t i)=i:=by
 obtain⟨b1,b2,b3⟩:=Oa u (HF t i);have hx:∀j,(hj:j < t.place.size)→t.place[j]?=some t.place[j]:=fun j hj=>Gm hj
 rcases Nb (Dt t.place (HF t i)) i with z | z | z
 ·have hs:HF t i=t.place[i - 1]'(by omega)+1:=by
   unfold HF;rw[if_neg (by omega)]
   have:i - 1 < t.place.size:=by omega
   simp[Lh,this]
  have a:=b3 (i - 1) _ (by omega) (hx (i - 1) (by omega));rw[hs]at a;omega
 ·exact z
 ·have a:=b2 i _ z (hx i (by omega))
  unfold HF at a
  by_cases h0:i=0
  ·rw[if_pos h0]at a; omega
  ·rw[if_neg h0]at a
   have hp:i - 1 < t.place.size:=by omega
   have hg:t.place.getD (i - 1) 0=t.place[i - 1]:=by simp[Lh,hp]
   rw[hg]at a;have:=u (i - 1) i _ _ (by omega) (hx (i - 1) hp) (hx i (by omega));omega
noncomputable def itG (w:Av) (t:Di) (a i ep:Nat) (n:Nat):Obj:={ cls:=.type "set_iterator",data:=.fields #[.int ((if w.params.followText "set-order" = true then 0 else HF t i:Nat):Int) 0,.int (i:Int) 0,.ref a,.int (n:Int) 0,.int (ep:Int) 0] }
structure WkT (w:Av) (t:Di) (es:Array (Int×Ab)):Prop where
 up:Up t.place
 sz:t.place.size=es.size
 fit:t.fits es.size=true
 pl:t.plain=true
 ld:t.led = !(w.params.followText "set-order")
theorem ZsQ {a ep:Nat} {t:Di} {o:Obj} {es:Array (Int×Ab)} {Q:Ab→Ae→Prop} (ho:s.heap.get? a=some o) (hx:o.ExactSet) (hd:o.data=.set es ep t) (hT:WkT w t es)
  (h:Q (.ref s.heap.objs.size) { s with heap:=s.heap.push (itG w t a 0 ep es.size) }):Ai (model prog w) A (pyIter (.ref a)) Q E s:=by
 have ty:s.TypeIs (.ref a) "set":=⟨o,ho,hx.1⟩;have fit:=hT.fit;have pl:=hT.pl;refine Y8 ty Yct (Gu Yct ty Zrf ?_ (PySem.F.args_set_iter_1 _));unfold Fd.«frozenset.__iter__» YdB slotArgs;simp only [Yaj,G7,Dg,↓reduceIte,Yak,G3,bne_self_eq_false];unfold YdC YdD;refine Af (Aq ?_)
 try dsimp only
 refine Af (Aq (Af (Af (Yal ho hd fit (Aq ?_)))));unfold setDrawn setsByText;refine Af (Af (Ko ho hd fit ?_));refine Af (Af (Uu (Aq (Aq ?_))));show Ai _ _ (if (!w.params.followText "set-order" && (!t.plain && decide (es.size > 1)))=true then _ else _) _ _ _;rw[pl];simp only [G7,M5,Fw,Dg,↓reduceIte];refine Af (Aq (Af (wpAny_setEpoch_of ho hd fit ?_)));refine Af (FQ (Aq ⟨_,rfl,"set_iterator",_,⟨_,CT _ rfl,rfl⟩,N8.lookup,?_⟩) (by simp[sizeOk]; exact Ii (by decide)))
 have e:itG w t a 0 ep es.size = { cls:=.type "set_iterator",data:=.fields #[.int 0 0,.int 0 0,.ref a,.int (es.size:Int) 0,.int (ep:Int) 0] }:=by
  unfold itG HF;simp
 rw[e]at h;exact h
theorem Znv {a i ep:Nat} {t:Di} {o:Obj} {es:Array (Int×Ab)} {R:Option (Ab×Nat)→Ae→Prop} (ho:s.heap.get? a=some o) (hd:o.data=.set es ep t) (hT:WkT w t es) (hi:i≤es.size)
  (h:R ((ordS w a ep es)[i]?.map fun e=>(e.2,if w.params.followText "set-order" = true then 0 else HF t (i+1))) s):Ai (model prog w) A (setNext a (if w.params.followText "set-order" = true then 0 else HF t i) i ep) R E s:=by
 have fit:=hT.fit;have pl:=hT.pl;have ld:=hT.ld;have pc:=hT.sz;unfold setNext setsByText;refine Af (Ko ho hd fit (Af (Af (Uu (Aq ?_)))));show Ai _ _ (if w.params.followText "set-order" = true then _ else _) _ _ _;unfold ordS at h
 cases eb:w.params.followText "set-order" with
 | true=>
  rw[eb]at h;simp only [↓reduceIte,bne_self_eq_false,Dg]at h ⊢;unfold setWalk setsByText;refine Af (Af (Ko ho hd fit (Af (Af (Uu (Aq ?_))))));show Ai _ _ (if w.params.followText "set-order" = true then _ else _) _ _ _;rw[eb];simp only [↓reduceIte];refine Af (Uu (Aq (Aq ?_)));exact h
 | false=>
  rw[eb]at h;simp only [↓reduceIte,Dg]at h ⊢;rw[eb]at ld;show Ai _ _ (if (!t.plain && decide (es.size > 1))=true then _ else _) _ _ _;rw[pl];simp only [G7,M5,Dg,↓reduceIte];show Ai _ _ ((if (!t.led && !es.isEmpty)=true then _ else _) >>= _) _ _ _;rw[ld];simp only [Uz,G7,M5,Dg,↓reduceIte];refine Af (Aq (Aq ?_));rw[ZnL hT.up (by rw[pc]; exact hi)]
  by_cases hl:i < es.size
  ·have e1:es[i]?=some es[i]:=Gm (by omega)
   have hip:i < t.place.size:=by omega
   have e2:t.place[i]?=some t.place[i]:=Gm hip;rw[e1]at h ⊢;rw[e2]
   have e3:HF t (i+1)=t.place[i]+1:=by
    unfold HF;rw[if_neg (by omega),Ni];simp[Lh,hip]
   rw[e3]at h;exact h
  ·have e1:es[i]?=none:=Np (by omega)
   rw[e1]at h ⊢;exact h
theorem ZsS {a i ep it:Nat} {t:Di} {o:Obj} {es:Array (Int×Ab)} {Q:Option Ab→Ae→Prop} (hit:s.heap.get? it=some (itG w t a i ep es.size)) (ho:s.heap.get? a=some o) (hd:o.data=.set es ep t) (hT:WkT w t es) (hi:i < es.size)
  (h:∀e hp',(ordS w a ep es)[i]?=some e→hp'.get? it=some (itG w t a (i+1) ep es.size)→HX it s.heap hp'→Q (some e.2) { s with heap:=hp' }):Ai (model prog w) A (pyNext (.ref it)) Q E s:=by
 have ty:s.TypeIs (.ref it) "set_iterator":=⟨_,hit,rfl⟩;have fit:=hT.fit;have pl:=hT.pl;have ld:=hT.ld;have pc:=hT.sz
 have zo:(ordS w a ep es).size=es.size:=by
  have:=(Vu (w:=w) a ep es).length_eq
  simpa using this
 obtain⟨e,ee⟩ : ∃e,(ordS w a ep es)[i]?=some e:=⟨_,Gm (by omega)⟩;unfold pyNext;refine Af (T9 (M9 (name:=K7 "__next__") ty N8 (Gu N8 ty ZoM ?_ (ZqT _))));unfold Fd.«set_iterator.__next__» slotArgs;simp only [Yaj,G7,Dg,↓reduceIte,Yak,G3,bne_self_eq_false];refine Af (Aq ?_)
 try dsimp only
 refine Af (Zb hit rfl ?_)
 dsimp only [Uy]
 refine Af (Yal ho hd fit ?_);simp only [bne_self_eq_false,Dg,↓reduceIte];have cs:∀x:Nat,((x:Int)).toNat=x:=fun x=>Ft x;rw[cs,cs,cs];refine Af (Znv ho hd hT (K4 hi) ?_);rw[ee]
 dsimp only [Yaf]
 refine Af (Nr hit (by simp) fun a1 e1 s1=>?_);refine Af (Nr e1 (by simp) fun a2 e2 s2=>?_);refine Aq ⟨_,rfl,Aq (h e a2 ee ?_ (YdE s1 s2))⟩;rw[e2];unfold itG;simp[rawInt]
theorem ZuR {a ep it:Nat} {t:Di} {o:Obj} {es:Array (Int×Ab)} {Q:Option Ab→Ae→Prop} (hh:A.handled=none) (hit:s.heap.get? it=some (itG w t a es.size ep es.size)) (ho:s.heap.get? a=some o) (hd:o.data=.set es ep t) (hT:WkT w t es)
  (h:∀hp',zc it s.heap hp'→Q none { s with heap:=hp' }):Ai (model prog w) A (pyNext (.ref it)) Q E s:=by
 have ty:s.TypeIs (.ref it) "set_iterator":=⟨_,hit,rfl⟩;have fit:=hT.fit
 have zo:(ordS w a ep es).size=es.size:=by
  have:=(Vu (w:=w) a ep es).length_eq
  simpa using this
 have ee:(ordS w a ep es)[es.size]?=none:=Np (by omega);unfold pyNext;refine Af (T9 (M9 (name:=K7 "__next__") ty N8 (Gu N8 ty ZoM ?_ (ZqT _))));unfold Fd.«set_iterator.__next__» slotArgs;simp only [Yaj,G7,Dg,↓reduceIte,Yak,G3,bne_self_eq_false];refine Af (Aq ?_)
 try dsimp only
 refine Af (Zb hit rfl ?_)
 dsimp only [Uy]
 refine Af (Yal ho hd fit ?_);simp only [bne_self_eq_false,Dg,↓reduceIte];have cs:∀x:Nat,((x:Int)).toNat=x:=fun x=>Ft x;rw[cs,cs,cs];refine Af (Znv ho hd hT (Ax _) ?_);rw[ee]
 dsimp only [Yaf]
 refine Af (RJ hit rfl (by simp) ?_);refine Af ?_;simp only [newExc,newTuple];refine Af (FQ ?_ (by size_fits));refine Af (m:=firstArgMember _ _) (Y5 (a:=Dd) (by first | rfl | (simp only [firstArgMember]; rfl)) (FQ ?_ (by size_fits)));simp only [raiseNew];refine Af (zf ?_);rw[show A.in1.handled=none from hh];refine Af (Aq (zg ?_));refine Af (YW (T:="StopIteration") (b:=true) ⟨_,CT _ rfl,rfl⟩ isSubtype_stop (Aq (h _ ?_)));exact((RK ..).extBut.push _).push _
theorem ZuO {a i ep it nn:Nat} {t:Di} {Q:Ab→Ae→Prop} (hit:s.heap.get? it=some (itG w t a i ep nn)) (q:Q (.ref it) s):Ai (model prog w) A (pyIter (.ref it)) Q E s:=by
 have ty:s.TypeIs (.ref it) "set_iterator":=⟨_,hit,rfl⟩;refine Y8 ty Zpq (Gu Zpq ty Zre ?_ (ZtF _));show Ai _ _ (ret (.ref it)) _ _ s;exact Aq ⟨_,rfl,"set_iterator",_,ty,N8.lookup,q⟩
theorem Ztp (hh:A.handled=none) {a ep it:Nat} {t:Di} {o:Obj} {es:Array (Int×Ab)} (ne:a≠it) (hd:o.data=.set es ep t) (hT:WkT w t es) :
  Walks prog w A it [it,a] [it] es.size (fun i v=>∃e,(ordS w a ep es)[i]?=some e∧v=e.2) (fun i h=>h.get? it=some (itG w t a i ep es.size)∧h.get? a=some o) where
 sub:=fun b hb=>by rw[Dr.mp hb]; exact Ec
 frame:=fun _ _ _ st k=>⟨k it Ec _ st.1,k a (by simp) _ st.2⟩
 item:=fun i s Q E hi st k=>ZsS st.1 st.2 hd hT hi fun e hp' ee h1 sb=>k e.2 hp' s.toks ⟨e,ee,rfl⟩ ⟨h1,sb.extBut _ _ ne st.2⟩ fun b o hb z=>sb.extBut b o (fun y=>hb (by rw[y]; exact Ec)) z
 done:=fun s Q E st k=>ZuR hh st.1 st.2 hd hT fun hp' eb=>k hp' s.toks fun b o hb z=>eb b o (fun y=>hb (by rw[y]; exact Ec)) z
 self:=fun _ _ _ _ st k=>ZuO st.1 k
theorem ZmQ (hh:A.handled=none) {a ep:Nat} {o:Obj} {es:Array (Int×Ab)} {t:Di} {Q:List Ab→Ae→Prop} (ho:s.heap.get? a=some o) (hx:o.ExactSet) (hd:o.data=.set es ep t) (hT:WkT w t es) (hz:es.size≤1000000)
  (h:∀(hp':Ar) (tk:Nat),s.heap.objs.size < hp'.objs.size→(∀b o,s.heap.get? b=some o→hp'.get? b=some o)→Q ((ordS w a ep es).toList.map (·.2)) { s with heap:=hp',toks:=tk }):Ai (model prog w) A (collect (.ref a)) Q E s:=by
 have al:a < s.heap.objs.size:=BR ho;unfold collect;refine Af (wpAny_runValue (RN PySem.F.entry_proto_collect ?_));rw[Ut PySem.F.plain_proto_collect _];show Ai _ A.in1 (newList [] >>= fun l=>again (.builtin "list.__iadd__" ⟨[l,.ref a],[]⟩)) _ _ s;refine Af (FQ (Aq ⟨Uj Ycu _,RN PySem.F.entry_list_iadd ?_⟩));rw[Ut Ycu _];have g1:(s.heap.push { cls:=.type "list",data:=.seq ([]:List Ab).toArray }).get? s.heap.objs.size=some { cls:=.type "list",data:=.seq ([]:List Ab).toArray }:=CT _ rfl;have ho1:(s.heap.push { cls:=.type "list",data:=.seq ([]:List Ab).toArray }).get? a=some o:=BK _ ho;have z1:(s.heap.push { cls:=.type "list",data:=.seq ([]:List Ab).toArray }).objs.size=s.heap.objs.size+1:=J5 _ _;show Ai _ A.in1 (RD (.ref s.heap.objs.size) (.ref a) (.ref s.heap.objs.size)) _ _ _;have k1:∀b o,s.heap.get? b=some o→(s.heap.push { cls:=.type "list",data:=.seq ([]:List Ab).toArray }).get? b=some o:=fun b o e=>BK _ e;generalize s.heap.push { cls:=.type "list",data:=.seq ([]:List Ab).toArray } = h1 at g1 ho1 z1 k1;have ty:Ur { s with heap:=h1 } (.ref a) "set":=⟨o,ho1,hx.1⟩;unfold RD;refine Af (Tv ty ?_)
 have q1:YS (.ref s.heap.objs.size) (.ref a)=false:=by simp[YS]; exact Hk al
 have q2:(Fi "set" == Fi "list")=false:=by decide
 have q3:(Fi "set" == Fi "tuple")=false:=by decide
 simp only [q1,q2,q3,Rr,Dg,if_false];refine Af (ZsQ (s:={ s with heap:=h1 }) ho1 hx hd hT ?_);have it1:(h1.push (itG w t a 0 ep es.size)).get? h1.objs.size=some (itG w t a 0 ep es.size):=CT _ rfl;have g2:(h1.push (itG w t a 0 ep es.size)).get? s.heap.objs.size=some { cls:=.type "list",data:=.seq ([]:List Ab).toArray }:=BK _ g1;have ho2:(h1.push (itG w t a 0 ep es.size)).get? a=some o:=BK _ ho1;have k2:∀b o,s.heap.get? b=some o→(h1.push (itG w t a 0 ep es.size)).get? b=some o:=fun b o e=>BK _ (k1 b o e)
 dsimp only
 generalize h1.push (itG w t a 0 ep es.size)=h2 at it1 g2 ho2 k2;have ty2:Ur { s with heap:=h2 } (.ref a) "set":=⟨o,ho2,hx.1⟩;refine Af (Fq ?_);unfold YbC;refine Af (YT ty2 ZwS ?_)
 have sp:splitId "set.__len__" = some ("set","__len__"):=by kernel_rfl
 dsimp only
 rw[sp]
 dsimp only
 refine Af (YW ty2 sub_set_self ?_);simp only [G7,Dg,↓reduceIte];rw[if_pos (by decide +kernel)];refine Af (Tv ty2 (Aq ?_));rw[if_pos (by decide +kernel)];refine Af (yf (Af ?_));show Ai _ A.in1 (updateSeq s.heap.objs.size (·.push .none) >>= fun _=>updateSeq s.heap.objs.size (·.pop)) _ _ _;refine Af (yz g2 rfl ?_);have g3:=Ka (DP (·.push Dd)) g2 rfl;refine yz g3 rfl ?_;have g4:=Ka (DP (·.pop)) g3 rfl
 have k4:∀b o,b≠s.heap.objs.size→h2.get? b=some o→((h2.update s.heap.objs.size (DP (·.push Dd))).update s.heap.objs.size (DP (·.pop))).get? b=some o:=
  fun b o hb e=>(Kc _ _ (DX hb)).trans ((Kc _ _ (DX hb)).trans e)
 have W:=(Ztp (prog:=prog) (A:=A.in1) (it:=h1.objs.size) (o:=o) (by simpa using hh) (show a≠h1.objs.size by rw[z1]; exact Ce (Js al)) hd hT).toS
 have nS:s.heap.objs.size∉[h1.objs.size,a]:=by
  rw[z1];simp only [CZ,UG,or_false,not_or];exact⟨Ce (Tj _),Hk al⟩
 have ni:h1.objs.size≠s.heap.objs.size:=by rw[z1]; exact Uo _
 refine Aq ⟨Uj YbD _,YbE W (Ii (by omega)) _ nS _ es.size 0 _ _ _ rfl (Cy _) ⟨k4 _ _ ni it1,k4 _ _ (Ce al) ho2⟩ g4 (YbF _) fun s' acc c mv gS ha=>?_⟩;obtain⟨hp',g',d',tk',os'⟩:=s';obtain rfl:g'=s.gens:=mv.gens;obtain rfl:d'=s.drawn:=mv.drawn;obtain rfl:os'=s.os:=mv.os;show Ai _ A (load s.heap.objs.size >>= _) _ _ _;refine Af (wpAny_load gS (Aq ?_))
 have zo:(ordS w a ep es).size=es.size:=by
  have:=(Vu (w:=w) a ep es).length_eq
  simpa using this
 have ea:acc.toList=(ordS w a ep es).toList.map (·.2):=by
  obtain⟨a1,a2⟩:=ha;apply YbI;intro i;rw[IK,CQ,IK]
  by_cases hi:i < acc.size
  ·obtain⟨e,e1,e2⟩:=a2 i _ (Gm hi)
   rw[Gm hi,e1,e2];rfl
  ·rw[Np (by omega),Np (by omega)]
   rfl
 show Q acc.toList _;rw[ea];refine h hp' tk' (BR gS) (fun b o e=>?_);have bl:=BR e;refine mv.heap b o ?_ (k4 b o (Ce bl) (k2 b o e));rw[z1];simp only [CZ,UG,or_false,not_or];exact⟨Ce bl,Ce (Js bl)⟩
end
end L2
namespace L2
open PySem PySem.Spec PyProof.Rows
theorem Zsl {α β:Type} (f:α→β):∀{l m:List β},l.Perm m→∀xs:List α,m=xs.map f→∃xs1:List α,xs1.Perm xs∧l=xs1.map f:=by
 intro l m h
 induction h with
 | nil=>
  intro xs e;have:xs=[]:=List.map_eq_nil_iff.mp e.symm;exact⟨[],by rw[this],rfl⟩
 | cons x h ih=>
  intro xs e
  cases xs with
  | nil=>cases e
  | cons y ys=>
   obtain⟨e1,e2⟩:=Ju e;obtain⟨z,h1,h2⟩:=ih ys e2;exact⟨y::z,h1.cons y,by rw[Cv,←h2,e1]⟩
 | swap x y r=>
  intro xs e
  match xs,e with
  | [],e=>cases e
  | [_],e=>cases e
  | a::b::c,e=>
   obtain⟨e1,e2⟩:=Ju e;obtain⟨e3,e4⟩:=Ju e2;exact⟨b::a::c,List.Perm.swap a b c,by rw[e1,e3,e4]; rfl⟩
 | trans h1 h2 ih1 ih2=>
  intro xs e;obtain⟨z,a1,a2⟩:=ih2 xs e;obtain⟨y,b1,b2⟩:=ih1 z a2;exact⟨y,b1.trans a1,b2⟩
section
variable {prog:Ay} {w:Av} {A:Bp} {E:Ab→Ae→Prop} {s:Ae} {hf:Int×Int→Int}
theorem Zot (hh:A.handled=none) {a:Aa} {xs:List ((Int×Int)×Aa)} {Q:Ab→Ae→Prop} (hS:SetT w hf s.heap a xs) (hT:∀x∈xs,Tup2 s.heap x.2 x.1) (hz:xs.length≤4900)
  (h:∀(hp':Ar) (tk l c:Nat) (xs':List ((Int×Int)×Aa)),(∀b o,s.heap.get? b=some o→hp'.get? b=some o)→s.heap.objs.size≤l→hp'.get? l=some (seqObj "list" (xs'.map fun x=>Be x.2).toArray c)→xs'.Perm xs→(xs'.map (·.1)).Pairwise ple→Q (.ref l) { s with heap:=hp',toks:=tk }) :
  Ai (model prog w) A (call (.builtin "sorted") [.ref a]) Q E s:=by
 obtain⟨o,es,ep,t,ho,hx,hd,hld,T,hnf,hes,hnd⟩:=hS
 have lnx:es.size=xs.length:=by rw[←FJ,hes,Az]
 have wk:WkT w t es:=⟨T.up,by have:=T.ln; rw[Az,FJ]at this; exact this,Vv T,T.pl,hld⟩;refine xq xr xu xx (yc _) ?_;unfold Fd.«sorted»;refine Af (m:=checkCount "sorted" 1 1 _) (Aq (Af (ZmQ (A:=A.in1) (by simpa using hh) ho hx hd wk (by omega) fun hp' tk zz kp=>?_)));obtain⟨x1,pm1,e1⟩:=Zsl (en2 hf) (Vu (w:=w) a ep es) xs hes
 have ev:(ordS w a ep es).toList.map (·.2)=x1.map fun x=>Be x.2:=by rw[e1,Ie]; rfl
 rw[ev];have l1:x1.length=xs.length:=pm1.length_eq;have T1:∀x∈x1,Tup2 hp' x.2 x.1:=fun x hx=>(hT x (pm1.mem_iff.mp hx)).keep fun o e=>kp _ o e;generalize hvs:(x1.map fun x=>Be x.2)=vs
 have hvl:vs.length=x1.length:=by rw[←hvs,Az]
 have fz:vs.length≤Bk:=Ii (by omega);have sz:s.heap.objs.size≤hp'.objs.size:=K4 zz;refine Af (T8 ?_ fz);have g1:(hp'.push (seqObj "list" vs.toArray 0)).get? hp'.objs.size=some (seqObj "list" vs.toArray 0):=CT _ rfl;show Ai _ _ _ _ _ { s with heap:=hp'.push (seqObj "list" vs.toArray 0),toks:=tk }
 have fin:∀(hp2:Ar) (c:Nat) (x2:List ((Int×Int)×Aa)),hp2.get? hp'.objs.size=some (seqObj "list" (x2.map fun x=>Be x.2).toArray c)→(∀b o,b≠hp'.objs.size→(hp'.push (seqObj "list" vs.toArray 0)).get? b=some o→hp2.get? b=some o)→x2.Perm x1→(x2.map (·.1)).Pairwise ple→Q (.ref hp'.objs.size) { s with heap:=hp2,toks:=tk }:=fun hp2 c x2 g k pm pw=>
  h hp2 tk hp'.objs.size c x2 (fun b o e=>k b o (Ce (BR (kp b o e))) (BK _ (kp b o e))) sz g (pm.trans pm1) pw
 have old:∀(out:Array Ab) (b:Aa) (o:Obj),b≠hp'.objs.size→(hp'.push (seqObj "list" vs.toArray 0)).get? b=some o→(sortedHeap (hp'.push (seqObj "list" vs.toArray 0)) hp'.objs.size vs out).get? b=some o:=fun out b o hb e=>by
  rw[sortedHeap_old hb (BR e)];exact e
 by_cases few:vs.length < 2
 ·refine Af (Fq (Gu Yt ⟨_,g1,rfl⟩ Yu (Zps g1 few ⟨_,rfl,?_⟩) (Yv _)))
  refine Aq ⟨_,rfl,?_⟩;obtain⟨c,ec⟩:=sortedHeap_at (out:=vs.toArray) g1;refine fin _ c x1 (by rw[hvs]; exact ec) (old _) (RB _) ?_
  match x1,hvl with
  | [],_=>exact .nil
  | [x],_=>exact yj _ _
  | x::y::r,e=>rw[e]at few; simp at few; omega
 ·have hxl:x1.length=vs.length:=hvl.symm
  have tup1:∀x∈x1,Tup2 (Ey (hp'.push (seqObj "list" vs.toArray 0)) hp'.objs.size vs) x.2 x.1:=fun x hx=>(T1 x hx).keep fun o e=>Zr7 (Ce (BR e)) (BK _ e)
  have tups:∀(x0:List ((Int×Int)×Aa)),(∀x∈x0,Tup2 (Ey (hp'.push (seqObj "list" vs.toArray 0)) hp'.objs.size vs) x.2 x.1)→∃fs,Ybq (Ey (hp'.push (seqObj "list" vs.toArray 0)) hp'.objs.size vs) (x0.map fun x=>Be x.2) fs∧fs.length=x0.length∧∀v∈fs,∃i t,v=GR i t:=by
   intro x0
   induction x0 with
   | nil=>intro _; exact⟨[],.nil,rfl,fun v z=>nomatch z⟩
   | cons x r ih=>
    intro hx;obtain⟨fs,a1,a2,a3⟩:=ih fun y hy=>hx y (Et _ hy);obtain⟨o,c,t,u,e,hc,hd⟩:=hx x Ec;refine⟨_::fs,.cons e hc hd rfl a1,by simp[a2],fun v hv=>?_⟩
    rcases CZ.mp hv with rfl | hv
    ·exact⟨_,_,rfl⟩
    ·exact a3 v hv
  obtain⟨fs,ft,fl,fi⟩:=tups x1 tup1;rw[hvs]at ft
  have at_:∀i,(hi:i < x1.length)→vs.getD i Dd=Be (x1[i]).2:=fun i hi=>by
   rw[←hvs];simp[Cz,hi]
  let kk:Nat→Int×Int:=fun i=>(x1.getD i ((0,0),0)).1
  have kka:∀i,(hi:i < x1.length)→kk i=(x1[i]).1:=fun i hi=>by
   show(x1.getD i ((0,0),0)).1=_;rw[Cz,CJ hi];rfl
  have M:EM.CmN prog w A.in1.in1 (tuples' (Fi "int" != Fi "tuple")) (vs.toArray.zip vs.toArray) (fun s'=>s' = { s with heap:=Ey (hp'.push (seqObj "list" vs.toArray 0)) hp'.objs.size vs,toks:=tk }) vs.length (fun i j=>pltB (kk i) (kk j)) (fun i j=>ple (kk i) (kk j)):={
   ask:=fun i j hi hj C s' hs hC=>by
    subst hs;have hC:=hC _ rfl;rw[hvl]at hi hj;rw[←Ybr rfl];unfold Ybs;rw[at_ i hi,at_ j hj];obtain⟨o1,c1,t1,u1,g1,_,d1⟩:=tup1 _ (Rx hi);obtain⟨o2,c2,t2,u2,g2,_,d2⟩:=tup1 _ (Rx hj);rw[kka i hi,kka j hj]at hC;refine Ybt g1 d1 g2 d2 ?_;refine YF (Tf ?_);unfold pltB at hC;refine YG (fun e=>YH ?_) (fun e=>YJ ?_)
    ·have e:=Rq e
     rw[if_pos e]at hC;refine YF (Tf (YG (fun e'=>YH (Ybu ?_)) (fun e'=>YJ ?_)))
     ·have e':=Rq e'
      rw[e',decide_eq_false (Ybv _)]at hC;exact hC
     ·exact Ybw _ _ (X3 hC)
    ·rw[if_neg (fun z=>by rw[z,beq_self_eq_true]at e; cases e)]at hC
     exact oneLt_int hC
   yes:=fun i j h=>Zpi h
   no:=fun i j h=>Zsp h
   tr:=fun i j k a b=>Z9 a b }
  refine Af (Fq (Gu Yt ⟨_,g1,rfl⟩ Yu (Zny (s:={ s with heap:=hp'.push (seqObj "list" vs.toArray 0),toks:=tk }) g1 (by omega) (by omega) (fun Q hQ=>?_) M fun ix pm pw=>⟨_,rfl,?_⟩) (Yv _)))
  ·refine Ybx (T:=.type "int") (s:={ s with heap:=Ey (hp'.push (seqObj "list" vs.toArray 0)) hp'.objs.size vs,toks:=tk }) ft (by omega) (fun v hv=>?_) (by decide) hQ
   obtain⟨i,t,rfl⟩:=fi v hv;exact Yby rfl
  ·refine Aq ⟨_,rfl,?_⟩
   rw[hvl]at pm
   have hix:∀i∈ix,i < x1.length:=fun i hi=>by simpa using pm.mem_iff.mp hi
   have eo:(ix.map fun i=>vs.getD i Dd)=(ix.map fun i=>x1.getD i ((0,0),0)).map fun x=>Be x.2:=by
    rw[Ie];refine RC fun i hi=>?_;rw[at_ i (hix i hi)];show _=Be (x1.getD i ((0,0),0)).2;rw[Cz,CJ (hix i hi)];rfl
   obtain⟨c,ec⟩:=sortedHeap_at (out:=(ix.map fun i=>vs.getD i Dd).toArray) g1;refine fin _ c (ix.map fun i=>x1.getD i ((0,0),0)) (by rw[←eo]; exact ec) (old _) (aa _ x1 pm) ?_;rw[Ie,Li];exact pw
end
section
variable {X:Cx}
def Sh (K:Ao) (x:V) (H:Hp) (Q:VK):Prop:=∃(p:Aa) (ps:List Aa) (ks:List (Int×Int)),x=.ref p∧SqL K H p (ps.map V.ref)∧Bd (Ex H) ps ks∧ps.length≤4900∧
 ∀(l':Aa) (ps':List Aa) (ks':List (Int×Int)),H l'=none→Bd (Ex H) ps' ks'→(∀j,j∈ks' ↔ j∈ks)→ks'.Nodup→ks'.Pairwise ple→ps'.length≤ps.length→Q (.ref l') (upd H l' (.lst (ps'.map V.ref)))
noncomputable def Ztg (K:Ao) (te:TE):TE:=fun σ H Q=>te σ H fun x H1=>Sh K x H1 Q
theorem Znl {α β γ:Type} {F:α→β→Prop} {f:γ→α} {g:γ→β}:∀xs:List γ,(∀x∈xs,F (f x) (g x))→Bd F (xs.map f) (xs.map g)
 | [],_=>.nil
 | x::xs,h=>.cons (h x Ec) (Znl xs fun y hy=>h y (Et _ hy))
theorem ZjV {e:Aw} {te:TE} {p p2 pos pos2:Pos} (hu:X.A.units+64 < cLine) (hc:X.calm=true) (hg:Gl X "sorted") (hm:X.mg "sorted" = none) (hg2:Gl X "set") (hm2:X.mg "set" = none) (ha:PE X e te)
  (he:BW [e] X.env=(false,eval e X.env)::BW [] X.env:=by rfl) :
  PE X (.Call (.Name "sorted" p) [.Call (.Name "set" p2) [e] [] pos2] [] pos) (Ztg X.K te):=by
 intro pins s σ H Q I h;refine J7 (Jc I hg hm ZV (YaI ?_ rfl rfl));show Ai _ _ (spliced ((false,eval (.Call (.Name "set" p2) [e] [] pos2) X.env)::backTo pos (BW [] X.env))) _ _ s;refine u6 (J7 (Jc I hg2 hm2 ZxU ?_))
 let R:List V→Hp→Prop:=fun vs H1=>match vs with | [x]=>Sh X.K x H1 Q | _=>False
 have h':Jz te tNil σ H R:=h;refine M6 (thn (Ac ha Ag he pos2 pins s σ H R I h') fun us s1 ⟨vs,H1,I1,r1,q1⟩=>?_) he rfl
 match vs,r1,q1 with
 | [x],r1,q1=>
  obtain⟨l,ps,ks,rfl,hq,hp,hz0,q⟩:=q1;obtain⟨u,rfl,rx⟩:=Jy r1
  cases rx
  obtain⟨its,rv,pl,hz⟩:=I1.list hq;obtain rfl:=Z8 rv;have hkl:ps.length=ks.length:=K1 hp
  have isz:(ps.map Be).toArray.size=ps.length:=by rw[Cu,Az]
  have pa:∀j,j < ps.length→Ex H1 (ps.getD j 0) (ks.getD j (0,0)):=fun j hj=>Vm hp 0 (0,0) hj
  have vi:∀(i:Nat) (v:Ab),(ps.map Be).toArray[i]?=some v→v=.ref ((fun i=>((ks.getD i (0,0),ps.getD i 0):(Int×Int)×Aa)) i).2:=fun i v z=>by
   rw[Nm,CQ]at z;obtain⟨b,hb,rfl⟩:=Ux.mp z;show _=Be (ps.getD i 0);rw[Cz,hb];rfl
  have tT:∀j,j < (ps.map Be).toArray.size→Tup2 s1.heap ((fun i=>((ks.getD i (0,0),ps.getD i 0):(Int×Int)×Aa)) j).2 ((fun i=>((ks.getD i (0,0),ps.getD i 0):(Int×Int)×Aa)) j).1:=fun j hj=>by
   rw[isz]at hj;obtain⟨o,t,u,c,e,hc,hd⟩:=I1.tup_at (pa j hj);exact⟨o,c,t,u,e,hc,hd⟩
  refine Zq2 (hf:=fun k=>tupleKeyHash (intKind X.prog X.w) [k.1,k.2]) (val:=fun i=>(ks.getD i (0,0),ps.getD i 0)) (I.ok.hd hc) (by omega) (fun k=>rfl) pl.isList vi (by rw[isz]; exact hz0) tT fun hp' tk xs S' kp=>?_;obtain⟨S1,T1,x1,k1,l1⟩:=S';refine u5 ?_;rw[isz]at T1 x1 k1 l1;refine Zot (s:={ s1 with heap:=hp',toks:=tk }) (I.ok.hd hc) S1 (fun x hx=>by obtain⟨j,hj,e⟩:=x1 x hx; rw[e]; exact T1 j hj) (by omega) fun hp2 tk2 l2 c x2 kp2 z2 ec pm pw=>?_
  have nd:(xs.map (·.1)).Nodup:=by obtain⟨_,_,_,_,_,_,_,_,_,_,_,nd⟩:=S1; exact nd
  have ol:s1.heap.objs.size≤l2:=by
   obtain⟨o,_,_,_,ho,_⟩:=S1;exact Eb (K4 (BR ho)) z2
  have hf:H1 l2=none:=I1.hok.fresh ol
  have zl:((x2.map (·.2)).map V.ref).length≤Bk:=by
   rw[Az,Az,pm.length_eq];exact Ii (by omega)
  have ev:(x2.map fun x=>Be x.2)=(x2.map (·.2)).map Be:=by rw[Ie]; rfl
  rw[ev]at ec;refine⟨.ref l2,upd H1 l2 (.lst ((x2.map (·.2)).map V.ref)),I1.laid (t':=tk2) (fun b o z=>kp2 b o (kp b o (BR z) z)) ol (show Ck X.prog X.w _ hp2 l2 (.lst _) from⟨zl,_,c,Vl _,ec⟩),rfl,q l2 (x2.map (·.2)) (x2.map (·.1)) hf (Znl x2 fun x hx=>?_) (fun j=>?_) ((pm.map (·.1)).nodup_iff.mpr nd) pw (by rw[Az,pm.length_eq]; omega)⟩
  ·obtain⟨j,hj,e⟩:=x1 x (pm.mem_iff.mp hx)
   rw[e];exact pa j hj
  ·rw[(pm.map (·.1)).mem_iff,k1]
   constructor
   ·rintro⟨i,hi,e⟩
    rw[←e];show ks.getD i (0,0)∈ks;rw[Cz,CJ (by omega)];exact Rx _
   ·intro hj
    obtain⟨i,hi,e⟩:=yh hj;exact⟨i,by omega,by show ks.getD i (0,0)=j; rw[Cz,CJ hi]; exact e⟩
theorem ZoU {te:TE} {σ:St} {H:Hp} {Q:VK} {K:Ao} (h:te σ H fun x H1=>Sh K x H1 Q):Ztg K te σ H Q:=h
theorem Zt1 {K:Ao} {H:Hp} {Q:VK} {p:Aa} {ps:List Aa} {ks:List (Int×Int)} (e:H p=some (.lst (ps.map V.ref))) (hp:Bd (Ex H) ps ks) (hz:ps.length≤4900) (k:∀(l:Aa) (ps':List Aa) (ks':List (Int×Int)) (H':Hp),Same H H'→H l=none→H' l=some (.lst (ps'.map V.ref))→Bd (Ex H) ps' ks'→(∀j,j∈ks' ↔ j∈ks)→ks'.Nodup→ks'.Pairwise ple→ps'.length≤ps.length→Q (.ref l) H'):Sh K (.ref p) H Q:=
 ⟨p,ps,ks,rfl,SqL.of e,hp,hz,fun l' ps' ks' hl hp' hm nd pw ln=>k l' ps' ks' _ (GC hl _) hl Cp hp' hm nd pw ln⟩
end
end L2
open PySem L2
local macro_rules | `(tactic| walk_at "side") => `(tactic| first | omega | (show (_ : Int) < _; omega) | exact ⟨by omega, by omega⟩ | exact ⟨by omega, by omega, by decide⟩)
local macro_rules | `(tactic| walk_at "rd1") => `(tactic| first | (with_reducible first | refine Kv ?_) | walk_at "rs1")
local macro_rules | `(tactic| walk_at "rs1") => do
  let f:=fun (s:String)=>((s.splitOn " ").toArray.map fun x=>Lean.mkIdent x.toName)
  let a←(f "Zx8 i_op i_c Zvl Zyg Zyd Zyj i_fn i_cb ZvH Zya Zyb ZvI i_dy i_mk Zyc ZvG Zvm ZvB ZvF i_un Zx7 i_or Zyh Zvk ZvD Zyk Zye i_bm Zx9 i_sl ZvE Zrw Zrx ZmX Zvr Zvq Zvp Zru Zvs ZrC ZoP Zrs ZvJ ZoQ ZoR Zrv ZvC Zyi Zvi i_rU Zvn Zvo Zvy Zvz Zvt ZL ZM ZP ZQ").mapM fun i=>`(tactic|refine $i ?_)
  let k←(f "ZiK").mapM fun i=>`(tactic|exact $i _)
  `(tactic| first
 | (with_reducible first $[| $a:tactic]*)
 | ((with_reducible refine Zvx ?_); (try dsimp only [Ycv,yq]))
 | ((with_reducible refine' Zym ?hv ?_); (case hv=>exact rfl))
 | ((with_reducible refine i_rI ?hc ?_); (case hc=>walk_at "side"))
 | ((with_reducible refine' ZX ?hc ?_); (case hc=>assumption))
 | ((with_reducible refine' Zvv ?hc ?_); (case hc=>assumption))
 | ((with_reducible refine' Zvw ?hc ?_); (case hc=>assumption))
 | ((with_reducible refine' Zvu ?ht ?he ?_); (case ht=>first | exact TyOf.bl _ | exact TyOf.int _ | exact TyOf.str _ | exact TyOf.non | exact TyOf.lst (by assumption) | exact TyOf.tup (by assumption)); (case he=>first | exact ZoX _ _ $[| $k:tactic]*)))
local macro_rules | `(tactic| walk_at "rs") => `(tactic| repeat walk_at "rs1")
local macro_rules | `(tactic| walk_at "hp") => `(tactic| first | assumption | solve_by_elim (maxDepth := 16) only [*, Cj])
local macro_rules | `(tactic| walk_at "rd0") => `(tactic| ((try dsimp only [cxOf]); (try simp only [L2.start, Cv, Fe, Ds, G3, Ycw, Ycx, Ycy, Ed, YD, Lg, Ycz]); (repeat walk_at "rd1")))
local macro_rules | `(tactic| walk_at "rs0") => `(tactic| ((try dsimp only [cxOf]); (try simp only [L2.start, Cv, Fe, Ds, G3, Ycw, Ycx, Ycy, Ed, YD, Lg, Ycz]); (repeat walk_at "rs1")))
local macro_rules | `(tactic| walk_at "rd") => `(tactic| repeat walk_at "rd1")
local macro_rules | `(tactic| walk_at "tst") => `(tactic| repeat first | walk_at "rd1" | refine CN (decide_eq_true (by omega)) ?_ | refine Bv (decide_eq_false (by omega)) ?_ | refine Bv rfl ?_ | refine CN rfl ?_ | refine ⟨_, rfl, ?_⟩)
open PySem L2
local macro_rules | `(tactic| walk_at "") => `(tactic| walk_at "rd")
theorem lnZ0 {A:Type} {P:List A→Prop} (h:P []):∀u:List A,u.length=0→P u:=fun u e=>(List.eq_nil_of_length_eq_zero e).symm▸h
theorem lnC {A:Type} {P:List A→Prop} {n:Nat} (h:∀a u,u.length=n→P (a::u)):∀u:List A,u.length=n+1→P u:=by
 intro u e;cases u with
 | nil=>cases e
 | cons a u=>exact h a u (Nat.succ.inj e)
theorem lnZ1 {A:Type} {P:List A→Prop} (h:∀a,P [a]):∀u:List A,u.length=1→P u:=lnC fun a=>lnZ0 (P:=fun r=>P (a::r)) (h a)
theorem lnZ2 {A:Type} {P:List A→Prop} (h:∀a b,P [a,b]):∀u:List A,u.length=2→P u:=lnC fun a=>lnZ1 (P:=fun r=>P (a::r)) (h a)
theorem lnZ3 {A:Type} {P:List A→Prop} (h:∀a b c,P [a,b,c]):∀u:List A,u.length=3→P u:=lnC fun a=>lnZ2 (P:=fun r=>P (a::r)) (h a)
theorem lnZ4 {A:Type} {P:List A→Prop} (h:∀a b c d,P [a,b,c,d]):∀u:List A,u.length=4→P u:=lnC fun a=>lnZ3 (P:=fun r=>P (a::r)) (h a)
theorem lnZ5 {A:Type} {P:List A→Prop} (h:∀a b c d e,P [a,b,c,d,e]):∀u:List A,u.length=5→P u:=lnC fun a=>lnZ4 (P:=fun r=>P (a::r)) (h a)
theorem lnZ6 {A:Type} {P:List A→Prop} (h:∀a b c d e f,P [a,b,c,d,e,f]):∀u:List A,u.length=6→P u:=lnC fun a=>lnZ5 (P:=fun r=>P (a::r)) (h a)
theorem lnZ7 {A:Type} {P:List A→Prop} (h:∀a b c d e f g,P [a,b,c,d,e,f,g]):∀u:List A,u.length=7→P u:=lnC fun a=>lnZ6 (P:=fun r=>P (a::r)) (h a)
local macro_rules | `(tactic| walk_at "b") => `(tactic| (intro _ _ _ _ _ _; first | exact lnZ1 (fun _=>rfl) | exact lnZ2 (fun _ _=>rfl) | exact lnZ3 (fun _ _ _=>rfl) | exact lnZ4 (fun _ _ _ _=>rfl) | exact lnZ5 (fun _ _ _ _ _=>rfl) | exact lnZ6 (fun _ _ _ _ _ _=>rfl) | exact lnZ7 (fun _ _ _ _ _ _ _=>rfl)))
local macro_rules | `(tactic| walk_at "sc") => `(tactic| exact ⟨rfl, rfl, rfl, by decide +kernel, rfl, by decide +kernel, by decide +kernel⟩)
namespace LW
open PySem L2 EM
open List (any_map any_nil map_id map_set)
noncomputable def top (i:Nat):Ba:=YdF.main.body.getD i (.Pass ⟨0,0,0,0⟩)
noncomputable abbrev f9:Ba:=top 1
noncomputable abbrev gh:Ba:=top 2
noncomputable abbrev gj:Ba:=top 4
noncomputable abbrev gk:Ba:=top 5
noncomputable abbrev gm:Ba:=top 6
noncomputable abbrev Vw:Ba:=top 7
noncomputable abbrev gn:Ba:=top 8
noncomputable abbrev gq:Ba:=top 9
noncomputable abbrev g8:Ba:=top 17
noncomputable abbrev ie:Ba:=top 18
noncomputable abbrev ig:Ba:=top 19
noncomputable abbrev ik:Ba:=top 20
noncomputable abbrev ir:Ba:=top 21
noncomputable abbrev iu:Ba:=top 22
noncomputable abbrev Vx:Ba:=top 23
noncomputable abbrev iw:Ba:=top 24
noncomputable abbrev iy:Ba:=top 26
noncomputable abbrev jc:Ba:=top 27
noncomputable abbrev jd:Ba:=top 28
noncomputable abbrev je:Ba:=top 32
noncomputable abbrev jf:Ba:=top 33
noncomputable abbrev jg:Ba:=top 34
noncomputable abbrev jh:Ba:=top 35
noncomputable abbrev ji:Ba:=top 36
noncomputable abbrev jj:Ba:=top 38
noncomputable abbrev jk:Ba:=top 40
noncomputable abbrev jm:Ba:=top 41
noncomputable abbrev Vy:Ba:=top 42
noncomputable abbrev jn:Ba:=top 45
noncomputable abbrev jo:Ba:=top 46
noncomputable abbrev jq:Ba:=top 47
noncomputable abbrev jr:Ba:=top 48
noncomputable abbrev jt:Ba:=top 49
noncomputable abbrev ju:Ba:=top 50
noncomputable abbrev jw:Ba:=top 51
noncomputable abbrev jx:Ba:=top 52
noncomputable abbrev Vz:Ba:=top 53
noncomputable abbrev jy:Ba:=top 54
noncomputable abbrev VB:Ba:=top 55
noncomputable abbrev jz:Ba:=top 56
noncomputable abbrev Il:Ba:=top 57
noncomputable abbrev j4:Ba:=Gz (top 30) 0
noncomputable abbrev j5:Ba:=Gz (top 30) 1
noncomputable abbrev j6:Ba:=Gz (top 30) 2
noncomputable abbrev j7:Ba:=Gz (top 30) 3
noncomputable abbrev VD:Ba:=Gz (top 30) 4
noncomputable abbrev VF:Ba:=Gz (top 30) 5
noncomputable abbrev VG:Ba:=Gz (top 30) 6
noncomputable abbrev j8:Ba:=Gz (top 30) 7
noncomputable abbrev j9:Ba:=Gz (top 30) 8
noncomputable abbrev kh:Ba:=Gz (top 30) 9
noncomputable abbrev kj:Ba:=Gz (top 30) 10
noncomputable abbrev lg:Ba:=Gz (top 43) 0
noncomputable abbrev lq:Ba:=Gz (top 43) 1
noncomputable abbrev lr:Ba:=Gz (top 43) 2
theorem Zmn:FnScope ["many"] ["many"] (Bf f9):=by walk_at "sc"
theorem ZuN:FnScope ["crowd"] ["crowd"] (Bf gh):=by walk_at "sc"
theorem ZsM:FnScope ["many","stand"] ["many","stand"] (Bf gj):=by walk_at "sc"
theorem Oc:FnScope ["many","bar","crowd","lamp","lit"] ["many","bar"] (Bf gk):=by walk_at "sc"
theorem ZsN:FnScope ["one","other"] ["one","other"] (Bf gm):=by walk_at "sc"
theorem Zol:FnScope ["bar"] ["bar"] (Bf Vw):=by walk_at "sc"
theorem Zlj:FnScope ["bar","lamp","others"] ["bar","lamp"] (Bf gn):=by walk_at "sc"
theorem VH:FnScope ["many","bars","crowd","bar"] ["many","bars"] (Bf gq):=by walk_at "sc"
theorem lu:FnScope ["chart","inside","sources","stand"] ["chart","inside"] (Bf g8):=by walk_at "sc"
theorem lw:FnScope ["chart","inside","step","missed"] ["chart","inside"] (Bf ie):=by walk_at "sc"
theorem ZuM:FnScope ["chart","bars"] ["chart","bars"] (Bf ig):=by walk_at "sc"
theorem Zop:FnScope ["chart","bars"] ["chart","bars"] (Bf ik):=by walk_at "sc"
theorem Ss:FnScope ["chart","inside","bar","found","lamp","fewer"] ["chart","inside","bar"] (Bf ir):=by walk_at "sc"
theorem Od:FnScope ["chart","bars","inside","found","bar","fewer"] ["chart","bars"] (Bf iu):=by walk_at "sc"
theorem Su:FnScope ["chart","bars","found","bar","others"] ["chart","bars"] (Bf Vx):=by walk_at "sc"
theorem JP:FnScope ["chart","bars","found","fewer"] ["chart","bars"] (Bf iw):=by walk_at "sc"
theorem Zka:FnScope ["chart","held","bar","inside"] ["chart","held","bar"] (Bf iy):=by walk_at "sc"
theorem mj:FnScope ["chart","held","bar","lamp","fewer"] ["chart","held","bar"] (Bf jc):=by walk_at "sc"
theorem Sv:FnScope ["chart","held","bar","found","further"] ["chart","held","bar"] (Bf jd):=by walk_at "sc"
theorem ZhS:FnScope ["chart","frames","diary","k","stand","bar"] ["chart","frames","diary","k","stand"] (Bf je):=by walk_at "sc"
theorem Oe:FnScope ["chart","frames","diary","bad","asked","k","stand","itself","sources"] ["chart","frames","diary","bad"] (Bf jf):=by walk_at "sc"
theorem VJ:FnScope ["chart","frames","diary","found","way"] ["chart","frames","diary"] (Bf jg):=by walk_at "sc"
theorem mq:FnScope ["frames","diary","k","bar"] ["frames","diary"] (Bf jh):=by walk_at "sc"
theorem Mg:FnScope ["chart","diary","found","frames","way","k"] ["chart"] (Bf ji):=by walk_at "sc"
theorem Znt:FnScope ["chart","end"] ["chart"] (Bf jj):=by walk_at "sc"
theorem Zoq:FnScope ["thing"] ["thing"] (Bf jk):=by walk_at "sc"
theorem Zoo:FnScope ["thing","many"] ["thing","many"] (Bf jm):=by walk_at "sc"
theorem Zon:FnScope ["many","starts","bads","after"] ["many","starts","bads","after"] (Bf Vy):=by walk_at "sc"
theorem Zj8:FnScope ["_law_script","_law_k"] ["_law_script","_law_k"] (Bf jn):=by walk_at "sc"
theorem VL:FnScope ["_law_cell","_law_size","_law_rest","_law_crowd"] ["_law_cell","_law_size"] (Bf jo):=by walk_at "sc"
theorem VM:FnScope ["_law_cell","_law_s","_law_size","_law_rest","_law_crowd"] ["_law_cell","_law_s","_law_size"] (Bf jq):=by walk_at "sc"
theorem Jk:FnScope ["_law_script","_law_size","_law_way_here","_law_after","_law_s","_law_crowd","_law_there"] ["_law_script","_law_size"] (Bf jr):=by walk_at "sc"
theorem VN:FnScope ["_law_after","_law_crowd","_law_told","_law_s"] ["_law_after","_law_crowd"] (Bf jt):=by walk_at "sc"
theorem Zmm:FnScope ["_law_found"] ["_law_found"] (Bf ju):=by walk_at "sc"
theorem Zj9:FnScope ["_law_way_here","_law_starts","_law_bads","_law_after","_law_steps","_law_k"] ["_law_way_here","_law_starts","_law_bads","_law_after","_law_steps"] (Bf jw):=by walk_at "sc"
theorem ZfH:FnScope ["_law_bars","_law_size","_law_k"] ["_law_bars","_law_size"] (Bf jx):=by walk_at "sc"
theorem ZkL:FnScope ["_law_size","_law_asks","_law_lit"] ["_law_size","_law_asks","_law_lit"] (Bf Vz):=by walk_at "sc"
theorem ZgT:FnScope ["_law_shut","_law_starts","_law_bads","_law_after","_law_left"] ["_law_shut","_law_starts","_law_bads","_law_after"] (Bf jy):=by walk_at "sc"
theorem JQ:FnScope ["_law_bars","_law_starts","_law_bads","_law_after","_law_size","_law_insides","_law_k","_law_rest","_law_j","_law_lamp","_law_asks"] ["_law_bars","_law_starts","_law_bads","_law_after"] (Bf VB):=by walk_at "sc"
theorem JR:FnScope ["_law_found","_law_starts","_law_bads","_law_after","_law_size","_law_steps","_law_flood","_law_shut","_law_bar"] ["_law_found","_law_starts","_law_bads","_law_after"] (Bf jz):=by walk_at "sc"
theorem GF:FnScope ["_law_script","_law_first","_law_many","_law_size","_law_starts","_law_bads","_law_after","_law_handed","_law_chart","_law_second","_law_found","_law_s"] ["_law_script"] (Bf Il):=by walk_at "sc"
theorem ZkJ:FnScope ["self","chart"] ["self","chart"] (Bf j4):=by walk_at "sc"
theorem ZkK:FnScope ["self"] ["self"] (Bf j5):=by walk_at "sc"
theorem Zj6:FnScope ["self","k","first"] ["self","k","first"] (Bf j6):=by walk_at "sc"
theorem Zj7:FnScope ["self","k"] ["self","k"] (Bf j7):=by walk_at "sc"
theorem ZkI:FnScope ["self","k"] ["self","k"] (Bf VD):=by walk_at "sc"
theorem Zml:FnScope ["self","k"] ["self","k"] (Bf VF):=by walk_at "sc"
theorem Sw:FnScope ["self","k","bar","stay","other","level","number"] ["self","k","bar"] (Bf VG):=by walk_at "sc"
theorem ZhR:FnScope ["self","number","bar"] ["self","number","bar"] (Bf j8):=by walk_at "sc"
theorem Zg1:FnScope ["self"] ["self"] (Bf j9):=by walk_at "sc"
theorem VP:FnScope ["self","pushed","k","bar"] ["self"] (Bf kh):=by walk_at "sc"
theorem Zf8:FnScope ["self","k"] ["self"] (Bf kj):=by walk_at "sc"
theorem Zmk:FnScope ["self","many","starts","bads","after"] ["self","many","starts","bads","after"] (Bf lg):=by walk_at "sc"
theorem Sx:FnScope ["self","crowd","found","stand","onto"] ["self","crowd"] (Bf lq):=by walk_at "sc"
theorem Sy:FnScope ["self","crowd","found","stand","onto"] ["self","crowd"] (Bf lr):=by walk_at "sc"
def DF (K:Ao) (st:Ba) (nm q:Str) (f:Aa):Prop:=∃d,Fun K nm q st f d
theorem dmk {K:Ao} {st:Ba} {nm q:Str} {f:Aa} {od an:Option Aa} {sl:Array (Option Ab)} {oc kV dc pm cd ct:Ab} (l:K.lookup f=some ⟨oc,od,.func (J8 nm q (Ly st) (JC st) (Bf st) .none kV dc pm an cd ct),sl⟩) (c:Tq K cd q=true) (k:Iv K (.ref f)=true):DF K st nm q f:=⟨_,Zvh l c k⟩
set_option genInjectivity false in
structure Ad where
 Og:Aa
 VR:Bq
 Oh:Aa
 V0:Bq
 Oi:Aa
 V1:Bq
 Oj:Aa
 V4:Bq
 Ol:Aa
 V5:Bq
 Om:Aa
 V6:Bq
 Oo:Aa
 V7:Bq
 Oq:Aa
 V8:Bq
 Ot:Aa
 V9:Bq
 Ou:Aa
 Wa:Bq
 Ov:Aa
 Wb:Bq
 Ox:Aa
 Wc:Bq
 Oz:Aa
 Wd:Bq
 OD:Aa
 We:Bq
 OJ:Aa
 Wf:Bq
 O1:Aa
 Wg:Bq
 O3:Aa
 Wh:Bq
 O4:Aa
 Wi:Bq
 O5:Aa
 Wj:Bq
 O6:Aa
 Wl:Bq
 O7:Aa
 Wm:Bq
 O8:Aa
 Wn:Bq
 O9:Aa
 Wo:Bq
 Pa:Aa
 Wq:Bq
 Pb:Aa
 Wr:Bq
 Pg:Aa
 Ws:Bq
 Ph:Aa
 Wt:Bq
 Pj:Aa
 Wu:Bq
 Pk:Aa
 Wv:Bq
 Pr:Aa
 Ww:Bq
 Pu:Aa
 Wx:Bq
 Px:Aa
 Wy:Bq
 Py:Aa
 Wz:Bq
 Pz:Aa
 WD:Bq
 PB:Aa
 WF:Bq
 PJ:Aa
 WK:Bq
 PL:Aa
 WL:Bq
 PN:Aa
 WM:Bq
 PP:Aa
 WN:Bq
 PQ:Aa
 WP:Bq
 f_law:Aa
 d_law:Bq
 Mh:Aa
 WQ:Bq
 Mi:Aa
 WR:Bq
 Mj:Aa
 WT:Bq
 Ml:Aa
 WW:Bq
 Mm:Aa
 WX:Bq
 Mp:Aa
 WY:Bq
 Mq:Aa
 W0:Bq
 Mr:Aa
 W2:Bq
 Ms:Aa
 W4:Bq
 Mt:Aa
 W6:Bq
 Mu:Aa
 W7:Bq
 Mv:Aa
 W8:Bq
 Mw:Aa
 W9:Bq
 Mx:Aa
 Xa:Bq
 Bw:Aa
 CP:Aa
 GJ:Aa
 Hc:Aa
structure Txt (K:Ao) (mg:Str→Option Ab) (t:Ad):Prop where
 PX:Fun K "all_stands" "all_stands" f9 t.Og t.VR
 ZiF:Bs K t.VR ["many"] []
 ZiP:mg "all_stands" = some (.ref t.Og)
 P0:Fun K "least" "least" gh t.Oh t.V0
 ZqV:Bs K t.V0 ["crowd"] []
 Zr4:mg "least" = some (.ref t.Oh)
 Qa:Fun K "bar_of" "bar_of" gj t.Oi t.V1
 ZoA:Bs K t.V1 ["many","stand"] []
 Zo4:mg "bar_of" = some (.ref t.Oi)
 Qc:Fun K "crowd_of" "crowd_of" gk t.Oj t.V4
 ZkT:Bs K t.V4 ["many","bar"] []
 Zk8:mg "crowd_of" = some (.ref t.Oj)
 Qd:Fun K "within" "within" gm t.Ol t.V5
 ZoC:Bs K t.V5 ["one","other"] []
 Zo6:mg "within" = some (.ref t.Ol)
 Qe:Fun K "asked_by" "asked_by" Vw t.Om t.V6
 ZkS:Bs K t.V6 ["bar"] []
 Zk7:mg "asked_by" = some (.ref t.Om)
 Qf:Fun K "without" "without" gn t.Oo t.V7
 ZmI:Bs K t.V7 ["bar","lamp"] []
 Znd:mg "without" = some (.ref t.Oo)
 Qg:Fun K "shut_out" "shut_out" gq t.Oq t.V8
 ZkZ:Bs K t.V8 ["many","bars"] []
 Zle:mg "shut_out" = some (.ref t.Oq)
 Qh:Fun K "first_crossing" "first_crossing" g8 t.Ot t.V9
 ZfA:Bs K t.V9 ["chart","inside"] []
 ZfD:mg "first_crossing" = some (.ref t.Ot)
 Qi:Fun K "fault_of_crowd" "fault_of_crowd" ie t.Ou t.Wa
 Zfz:Bs K t.Wa ["chart","inside"] []
 ZfC:mg "fault_of_crowd" = some (.ref t.Ou)
 Qj:Fun K "fault" "fault" ig t.Ov t.Wb
 ZqU:Bs K t.Wb ["chart","bars"] []
 Zr3:mg "fault" = some (.ref t.Ov)
 Qk:Fun K "is_fence" "is_fence" ik t.Ox t.Wc
 ZkW:Bs K t.Wc ["chart","bars"] []
 Zlb:mg "is_fence" = some (.ref t.Ox)
 Ql:Fun K "wider_bar" "wider_bar" ir t.Oz t.Wd
 Zjn:Bs K t.Wd ["chart","inside","bar"] []
 ZjI:mg "wider_bar" = some (.ref t.Oz)
 Qm:Fun K "with_fewer_lamps" "with_fewer_lamps" iu t.OD t.We
 Zet:Bs K t.We ["chart","bars"] []
 ZeF:mg "with_fewer_lamps" = some (.ref t.OD)
 Qn:Fun K "with_fewer_bars" "with_fewer_bars" Vx t.OJ t.Wf
 Ze3:Bs K t.Wf ["chart","bars"] []
 Ze9:mg "with_fewer_bars" = some (.ref t.OJ)
 Qo:Fun K "tight" "tight" iw t.O1 t.Wg
 ZqW:Bs K t.Wg ["chart","bars"] []
 Zr5:mg "tight" = some (.ref t.O1)
 Qp:Fun K "may_shut" "may_shut" iy t.O3 t.Wh
 ZkY:Bs K t.Wh ["chart","held","bar"] []
 Zld:mg "may_shut" = some (.ref t.O3)
 Qq:Fun K "without_one_lamp" "without_one_lamp" jc t.O4 t.Wi
 Zeu:Bs K t.Wi ["chart","held","bar"] []
 ZeG:mg "without_one_lamp" = some (.ref t.O4)
 Qs:Fun K "widened" "widened" jd t.O5 t.Wj
 ZmH:Bs K t.Wj ["chart","held","bar"] []
 Znc:mg "widened" = some (.ref t.O5)
 Qt:Fun K "shut_stand" "shut_stand" je t.O6 t.Wl
 ZiG:Bs K t.Wl ["chart","frames","diary","k","stand"] []
 ZiQ:mg "shut_stand" = some (.ref t.O6)
 Qu:Fun K "way_to" "way_to" jf t.O7 t.Wm
 ZoB:Bs K t.Wm ["chart","frames","diary","bad"] []
 Zo5:mg "way_to" = some (.ref t.O7)
 Qv:Fun K "way_while_clearing" "way_while_clearing" jg t.O8 t.Wn
 ZdA:Bs K t.Wn ["chart","frames","diary"] []
 ZdB:mg "way_while_clearing" = some (.ref t.O8)
 Qw:Fun K "grow" "grow" jh t.O9 t.Wo
 Zu8:Bs K t.Wo ["frames","diary"] []
 ZvU:mg "grow" = some (.ref t.O9)
 Qx:Fun K "hunt" "hunt" ji t.Pa t.Wq
 Zu9:Bs K t.Wq ["chart"] []
 ZvV:mg "hunt" = some (.ref t.Pa)
 Qy:Fun K "answer" "answer" jj t.Pb t.Wr
 Zoz:Bs K t.Wr ["chart"] []
 Zo3:mg "answer" = some (.ref t.Pb)
 Qz:Fun K "is_whole" "is_whole" jk t.Pg t.Ws
 ZkX:Bs K t.Ws ["thing"] []
 Zlc:mg "is_whole" = some (.ref t.Pg)
 QB:Fun K "is_crowd" "is_crowd" jm t.Ph t.Wt
 ZkV:Bs K t.Wt ["thing","many"] []
 Zla:mg "is_crowd" = some (.ref t.Ph)
 QC:Fun K "is_chart" "is_chart" Vy t.Pj t.Wu
 ZkU:Bs K t.Wu ["many","starts","bads","after"] []
 Zk9:mg "is_chart" = some (.ref t.Pj)
 QD:Fun K "_law_cell_at" "_law_cell_at" jn t.Pk t.Wv
 ZgK:Bs K t.Wv ["_law_script","_law_k"] []
 ZgR:mg "_law_cell_at" = some (.ref t.Pk)
 QF:Fun K "_law_crowd_by" "_law_crowd_by" jo t.Pr t.Ww
 ZfN:Bs K t.Ww ["_law_cell","_law_size"] []
 ZfX:mg "_law_crowd_by" = some (.ref t.Pr)
 QG:Fun K "_law_steps_by" "_law_steps_by" jq t.Pu t.Wx
 ZfO:Bs K t.Wx ["_law_cell","_law_s","_law_size"] []
 ZfY:mg "_law_steps_by" = some (.ref t.Pu)
 QH:Fun K "_law_after_by" "_law_after_by" jr t.Px t.Wy
 ZfL:Bs K t.Wy ["_law_script","_law_size"] []
 ZfV:mg "_law_after_by" = some (.ref t.Px)
 QJ:Fun K "_law_ahead" "_law_ahead" jt t.Py t.Wz
 ZiB:Bs K t.Wz ["_law_after","_law_crowd"] []
 ZiL:mg "_law_ahead" = some (.ref t.Py)
 QK:Fun K "_law_whole" "_law_whole" ju t.Pz t.WD
 ZiE:Bs K t.WD ["_law_found"] []
 ZiO:mg "_law_whole" = some (.ref t.Pz)
 QL:Fun K "_law_way" "_law_way" jw t.PB t.WF
 ZkR:Bs K t.WF ["_law_way_here","_law_starts","_law_bads","_law_after","_law_steps"] []
 Zk6:mg "_law_way" = some (.ref t.PB)
 QM:Fun K "_law_are_bars" "_law_are_bars" jx t.PJ t.WK
 ZfM:Bs K t.WK ["_law_bars","_law_size"] []
 ZfW:mg "_law_are_bars" = some (.ref t.PJ)
 QQ:Fun K "_law_inside" "_law_inside" Vz t.PL t.WL
 Zhe:Bs K t.WL ["_law_size","_law_asks","_law_lit"] []
 ZhB:mg "_law_inside" = some (.ref t.PL)
 QR:Fun K "_law_fenced" "_law_fenced" jy t.PN t.WM
 Zhd:Bs K t.WM ["_law_shut","_law_starts","_law_bads","_law_after"] []
 ZhA:mg "_law_fenced" = some (.ref t.PN)
 QS:Fun K "_law_tight" "_law_tight" VB t.PP t.WN
 ZiD:Bs K t.WN ["_law_bars","_law_starts","_law_bads","_law_after"] []
 ZiN:mg "_law_tight" = some (.ref t.PP)
 QT:Fun K "_law_right" "_law_right" jz t.PQ t.WP
 ZiC:Bs K t.WP ["_law_found","_law_starts","_law_bads","_law_after"] []
 ZiM:mg "_law_right" = some (.ref t.PQ)
 F_law:Fun K "law" "law" Il t.f_law t.d_law
 m_law:mg "law" = some (.ref t.f_law)
 SJ:Fun K "__init__" "Frames.__init__" j4 t.Mh t.WQ
 Zg9:Bs K t.WQ ["self","chart"] []
 QV:Fun K "last" "Frames.last" j5 t.Mi t.WR
 Zha:Bs K t.WR ["self"] []
 QW:Fun K "check" "Frames.check" j6 t.Mj t.WT
 ZgH:Bs K t.WT ["self","k","first"] []
 QX:Fun K "crowd" "Frames.crowd" j7 t.Ml t.WW
 ZgI:Bs K t.WW ["self","k"] []
 QZ:Fun K "bars" "Frames.bars" VD t.Mm t.WX
 Zg8:Bs K t.WX ["self","k"] []
 Q0:Fun K "own" "Frames.own" VF t.Mp t.WY
 ZiA:Bs K t.WY ["self","k"] []
 Q3:Fun K "shut" "Frames.shut" VG t.Mq t.W0
 Zhc:Bs K t.W0 ["self","k","bar"] []
 Q4:Fun K "take_out" "Frames.take_out" j8 t.Mr t.W2
 Ze2:Bs K t.W2 ["self","number","bar"] []
 Q5:Fun K "add_frame" "Frames.add_frame" j9 t.Ms t.W4
 Zes:Bs K t.W4 ["self"] []
 Q6:Fun K "push" "Frames.push" kh t.Mt t.W6
 Zhb:Bs K t.W6 ["self"] []
 Q7:Fun K "still" "Frames.still" kj t.Mu t.W7
 ZgJ:Bs K t.W7 ["self"] []
 SM:Fun K "__init__" "Chart.__init__" lg t.Mv t.W8
 Ziz:Bs K t.W8 ["self","many","starts","bads","after"] []
 Q8:Fun K "ahead" "Chart.ahead" lq t.Mw t.W9
 Zg7:Bs K t.W9 ["self","crowd"] []
 Q9:Fun K "behind" "Chart.behind" lr t.Mx t.Xa
 ZgG:Bs K t.Xa ["self","crowd"] []
 Zo2:mg "Frames" = some (.ref t.Bw)
 CW:Cls K t.Bw
 ZoW:Mk K t.Bw t.Mh
 JS:Fy K t.Bw "base"
 JT:Fy K t.Bw "levels"
 Hd:Fy K t.Bw "crowds"
 Zhp:Meth K t.Bw "last" t.Mi
 ZgN:Meth K t.Bw "check" t.Mj
 ZgO:Meth K t.Bw "crowd" t.Ml
 Zho:Meth K t.Bw "bars" t.Mm
 ZiJ:Meth K t.Bw "own" t.Mp
 Zhr:Meth K t.Bw "shut" t.Mq
 Ze7:Meth K t.Bw "take_out" t.Mr
 ZeD:Meth K t.Bw "add_frame" t.Ms
 Zhq:Meth K t.Bw "push" t.Mt
 ZgP:Meth K t.Bw "still" t.Mu
 Zr2:mg "Chart" = some (.ref t.CP)
 Dq:Cls K t.CP
 ZrN:Mk K t.CP t.Mv
 GK:Fy K t.CP "many"
 JV:Fy K t.CP "starts"
 KJ:Fy K t.CP "bads"
 Ra:Fy K t.CP "after"
 Zhn:Meth K t.CP "ahead" t.Mw
 ZgM:Meth K t.CP "behind" t.Mx
 m7:mg "NotShut" = some (.ref t.GJ)
 Znb:mg "NoFence" = some (.ref t.Hc)
 m9:ExcK K t.GJ
 Znr:ExcK K t.Hc
 bl:∀(s:Ae) (u:Ab),Rn s t.d_law ⟨[u],[]⟩ [("_law_script",u)]
 B:Bt mg
theorem txt_mk {K:Ao} {h:Ar} {mg:Str→Option Ab} (X:K.In h) (G:h.Ns Bj mg)
 {Og Oh Oi Oj Ol Om Oo Oq Ot Ou Ov Ox Oz OD OJ O1 O3 O4 O5 O6 O7 O8 O9 Pa Pb Pg Ph Pj Pk Pr Pu Px Py Pz PB PJ PL PN PP PQ:Aa}
  {f_law:Aa} {ZyG Zu7:Option Aa} {Zza:Array (Option Ab)} {ZyF ZvO Zvc ZvZ nj Zvb:Ab}
 {Mh Mi Mj Ml Mm Mp Mq Mr Ms Mt Mu Mv Mw Mx Bw CP GJ Hc:Aa}
  (ZmE:By K Bj "all_stands" = some (some (.ref Og)))
  (Zwk:By K Bj "least" = some (some (.ref Oh)))
  (ZtB:By K Bj "bar_of" = some (some (.ref Oi)))
  (ZpM:By K Bj "crowd_of" = some (some (.ref Oj)))
  (ZtD:By K Bj "within" = some (some (.ref Ol)))
  (ZpL:By K Bj "asked_by" = some (some (.ref Om)))
  (ZqQ:By K Bj "without" = some (some (.ref Oo)))
  (ZpS:By K Bj "shut_out" = some (some (.ref Oq)))
  (ZiX:By K Bj "first_crossing" = some (some (.ref Ot)))
  (ZiW:By K Bj "fault_of_crowd" = some (some (.ref Ou)))
  (Zwj:By K Bj "fault" = some (some (.ref Ov)))
  (ZpP:By K Bj "is_fence" = some (some (.ref Ox)))
  (ZnI:By K Bj "wider_bar" = some (some (.ref Oz)))
  (Zg5:By K Bj "with_fewer_lamps" = some (some (.ref OD)))
  (Zh5:By K Bj "with_fewer_bars" = some (some (.ref OJ)))
  (Zwl:By K Bj "tight" = some (some (.ref O1)))
  (ZpR:By K Bj "may_shut" = some (some (.ref O3)))
  (Zg6:By K Bj "without_one_lamp" = some (some (.ref O4)))
  (ZqP:By K Bj "widened" = some (some (.ref O5)))
  (ZmF:By K Bj "shut_stand" = some (some (.ref O6)))
  (ZtC:By K Bj "way_to" = some (some (.ref O7)))
  (ZgC:By K Bj "way_while_clearing" = some (some (.ref O8)))
  (ZxL:By K Bj "grow" = some (some (.ref O9)))
  (ZxM:By K Bj "hunt" = some (some (.ref Pa)))
  (ZtA:By K Bj "answer" = some (some (.ref Pb)))
  (ZpQ:By K Bj "is_whole" = some (some (.ref Pg)))
  (ZpO:By K Bj "is_crowd" = some (some (.ref Ph)))
  (ZpN:By K Bj "is_chart" = some (some (.ref Pj)))
  (Zkl:By K Bj "_law_cell_at" = some (some (.ref Pk)))
  (Zji:By K Bj "_law_crowd_by" = some (some (.ref Pr)))
  (Zjj:By K Bj "_law_steps_by" = some (some (.ref Pu)))
  (Zjg:By K Bj "_law_after_by" = some (some (.ref Px)))
  (ZmA:By K Bj "_law_ahead" = some (some (.ref Py)))
  (ZmD:By K Bj "_law_whole" = some (some (.ref Pz)))
  (ZpK:By K Bj "_law_way" = some (some (.ref PB)))
  (Zjh:By K Bj "_law_are_bars" = some (some (.ref PJ)))
  (Zlr:By K Bj "_law_inside" = some (some (.ref PL)))
  (Zlq:By K Bj "_law_fenced" = some (some (.ref PN)))
  (ZmC:By K Bj "_law_tight" = some (some (.ref PP)))
  (ZmB:By K Bj "_law_right" = some (some (.ref PQ)))
  (a_law:By K Bj "law" = some (some (.ref f_law)))
  (Ztz:By K Bj "Frames" = some (some (.ref Bw)))
  (Zwi:By K Bj "Chart" = some (some (.ref CP)))
  (ZqO:By K Bj "NotShut" = some (some (.ref GJ)))
  (ZqN:By K Bj "NoFence" = some (some (.ref Hc)))
  (Zp3:W.isClsIn K GJ=true)
  (Zqk:M8 K GJ (.type "BaseException")=some true)
  (Zp2:W.isClsIn K Hc=true)
  (Zqj:M8 K Hc (.type "BaseException")=some true)
  (nq:Y7 K GJ [.type "ValueError",.type "Exception",.type "BaseException",.type "object"] "ValueError.__new__" = true)
  (ZqC:Cq K (.ref GJ) "__getattribute__" = some (some (.builtin "BaseException.__getattribute__")))
  (ZqE:Cq K (.ref GJ) "__getattr__" = some none)
  (ZqA:Cq K (.ref GJ) "__class__" = some (some (.builtin "object.__class__")))
  (ZqG:M8 K GJ (.type "object")=some true)
  (nu:Y7 K Hc [.type "ValueError",.type "Exception",.type "BaseException",.type "object"] "ValueError.__new__" = true)
  (ZqB:Cq K (.ref Hc) "__getattribute__" = some (some (.builtin "BaseException.__getattribute__")))
  (ZqD:Cq K (.ref Hc) "__getattr__" = some none)
  (Zqz:Cq K (.ref Hc) "__class__" = some (some (.builtin "object.__class__")))
  (ZqF:M8 K Hc (.type "object")=some true)
  (ZlE:Cq K (.ref Bw) "__init__" = some (some (.ref Mh)))
  (ZlF:Cq K (.ref Bw) "last" = some (some (.ref Mi)))
  (Zkn:Cq K (.ref Bw) "check" = some (some (.ref Mj)))
  (Zko:Cq K (.ref Bw) "crowd" = some (some (.ref Ml)))
  (ZlD:Cq K (.ref Bw) "bars" = some (some (.ref Mm)))
  (ZmT:Cq K (.ref Bw) "own" = some (some (.ref Mp)))
  (ZlH:Cq K (.ref Bw) "shut" = some (some (.ref Mq)))
  (Zia:Cq K (.ref Bw) "take_out" = some (some (.ref Mr)))
  (Zhk:Cq K (.ref Bw) "add_frame" = some (some (.ref Ms)))
  (ZlG:Cq K (.ref Bw) "push" = some (some (.ref Mt)))
  (Zkp:Cq K (.ref Bw) "still" = some (some (.ref Mu)))
  (ZmS:Cq K (.ref CP) "__init__" = some (some (.ref Mv)))
  (ZlC:Cq K (.ref CP) "ahead" = some (some (.ref Mw)))
  (Zkm:Cq K (.ref CP) "behind" = some (some (.ref Mx)))
  (Zm8:DF K f9 "all_stands" "all_stands" Og)
  (ZwO:DF K gh "least" "least" Oh)
  (Zt5:DF K gj "bar_of" "bar_of" Oi)
  (Zp8:DF K gk "crowd_of" "crowd_of" Oj)
  (Zt7:DF K gm "within" "within" Ol)
  (Zp7:DF K Vw "asked_by" "asked_by" Om)
  (ZrS:DF K gn "without" "without" Oo)
  (Zqe:DF K gq "shut_out" "shut_out" Oq)
  (Zi1:DF K g8 "first_crossing" "first_crossing" Ot)
  (Zi0:DF K ie "fault_of_crowd" "fault_of_crowd" Ou)
  (ZwN:DF K ig "fault" "fault" Ov)
  (Zqb:DF K ik "is_fence" "is_fence" Ox)
  (ZnT:DF K ir "wider_bar" "wider_bar" Oz)
  (Zhu:DF K iu "with_fewer_lamps" "with_fewer_lamps" OD)
  (Zij:DF K Vx "with_fewer_bars" "with_fewer_bars" OJ)
  (ZwP:DF K iw "tight" "tight" O1)
  (Zqd:DF K iy "may_shut" "may_shut" O3)
  (Zhv:DF K jc "without_one_lamp" "without_one_lamp" O4)
  (ZrR:DF K jd "widened" "widened" O5)
  (Zm9:DF K je "shut_stand" "shut_stand" O6)
  (Zt6:DF K jf "way_to" "way_to" O7)
  (ZgF:DF K jg "way_while_clearing" "way_while_clearing" O8)
  (Zyv:DF K jh "grow" "grow" O9)
  (Zyw:DF K ji "hunt" "hunt" Pa)
  (Zt4:DF K jj "answer" "answer" Pb)
  (Zqc:DF K jk "is_whole" "is_whole" Pg)
  (Zqa:DF K jm "is_crowd" "is_crowd" Ph)
  (Zp9:DF K Vy "is_chart" "is_chart" Pj)
  (Zky:DF K jn "_law_cell_at" "_law_cell_at" Pk)
  (ZjA:DF K jo "_law_crowd_by" "_law_crowd_by" Pr)
  (ZjB:DF K jq "_law_steps_by" "_law_steps_by" Pu)
  (Zjy:DF K jr "_law_after_by" "_law_after_by" Px)
  (Zm4:DF K jt "_law_ahead" "_law_ahead" Py)
  (Zm7:DF K ju "_law_whole" "_law_whole" Pz)
  (Zp6:DF K jw "_law_way" "_law_way" PB)
  (Zjz:DF K jx "_law_are_bars" "_law_are_bars" PJ)
  (Zl0:DF K Vz "_law_inside" "_law_inside" PL)
  (ZlZ:DF K jy "_law_fenced" "_law_fenced" PN)
  (Zm6:DF K VB "_law_tight" "_law_tight" PP)
  (Zm5:DF K jz "_law_right" "_law_right" PQ)
  (l_law:K.lookup f_law=some ⟨ZyF,ZyG,.func (J8 "law" "law" (Ly Il) (JC Il) (Bf Il) .none ZvO Zvc ZvZ Zu7 nj Zvb),Zza⟩)
  (c_law:Tq K nj "law" = true)
  (k_law:Iv K (.ref f_law)=true)
  (ZlV:DF K j4 "__init__" "Frames.__init__" Mh)
  (ZlN:FN K (.ref Mh)=true)
  (ZlW:DF K j5 "last" "Frames.last" Mi)
  (ZlO:FN K (.ref Mi)=true)
  (Zkv:DF K j6 "check" "Frames.check" Mj)
  (Zkr:FN K (.ref Mj)=true)
  (Zkw:DF K j7 "crowd" "Frames.crowd" Ml)
  (Zks:FN K (.ref Ml)=true)
  (ZlU:DF K VD "bars" "Frames.bars" Mm)
  (ZlM:FN K (.ref Mm)=true)
  (Zm3:DF K VF "own" "Frames.own" Mp)
  (ZmV:FN K (.ref Mp)=true)
  (ZlY:DF K VG "shut" "Frames.shut" Mq)
  (ZlQ:FN K (.ref Mq)=true)
  (Zii:DF K j8 "take_out" "Frames.take_out" Mr)
  (Zih:FN K (.ref Mr)=true)
  (Zht:DF K j9 "add_frame" "Frames.add_frame" Ms)
  (Zhs:FN K (.ref Ms)=true)
  (ZlX:DF K kh "push" "Frames.push" Mt)
  (ZlP:FN K (.ref Mt)=true)
  (Zkx:DF K kj "still" "Frames.still" Mu)
  (Zkt:FN K (.ref Mu)=true)
  (Zm2:DF K lg "__init__" "Chart.__init__" Mv)
  (ZmU:FN K (.ref Mv)=true)
  (ZlT:DF K lq "ahead" "Chart.ahead" Mw)
  (ZlL:FN K (.ref Mw)=true)
  (Zku:DF K lr "behind" "Chart.behind" Mx)
  (Zkq:FN K (.ref Mx)=true)
  (Zsm:Rm K Bw uw=true)
  (Zrp:Ti K Bw=true)
  (Zsq:X5 K Bw=true)
  (ZsL:Cq K (.ref Bw) "__setattr__" = some (some (.builtin "object.__setattr__")))
  (ZrO:Iv K (.ref Bw)=true)
  (Zr8:X6 K Bw=true)
  (JS:Cq K (.ref Bw) "base" = some none)
  (JT:Cq K (.ref Bw) "levels" = some none)
  (Hd:Cq K (.ref Bw) "crowds" = some none)
  (Zuz:Rm K CP uw=true)
  (ZtU:Ti K CP=true)
  (ZuD:X5 K CP=true)
  (ZuL:Cq K (.ref CP) "__setattr__" = some (some (.builtin "object.__setattr__")))
  (Zt2:Iv K (.ref CP)=true)
  (Zuk:X6 K CP=true)
  (GK:Cq K (.ref CP) "many" = some none)
  (JV:Cq K (.ref CP) "starts" = some none)
  (KJ:Cq K (.ref CP) "bads" = some none)
  (Ra:Cq K (.ref CP) "after" = some none)
  (b_len:By K Bj "len" = some none)
  (b_range:By K Bj "range" = some none)
  (b_isinstance:By K Bj "isinstance" = some none)
  (b_int:By K Bj "int" = some none)
  (b_bool:By K Bj "bool" = some none)
  (b_str:By K Bj "str" = some none)
  (b_list:By K Bj "list" = some none)
  (b_tuple:By K Bj "tuple" = some none)
  (b_dict:By K Bj "dict" = some none)
  (b_set:By K Bj "set" = some none)
  (b_sorted:By K Bj "sorted" = some none)
  (b_max:By K Bj "max" = some none)
  (b_min:By K Bj "min" = some none)
  (b_sum:By K Bj "sum" = some none)
  (b_any:By K Bj "any" = some none)
  (b_all:By K Bj "all" = some none)
  (b_abs:By K Bj "abs" = some none)
  (b_reversed:By K Bj "reversed" = some none)
  (b_enumerate:By K Bj "enumerate" = some none)
  (b_zip:By K Bj "zip" = some none)
  : ∃t:Ad,Txt K mg t:=by
 obtain⟨VR,PX⟩:=Zm8;obtain⟨V0,P0⟩:=ZwO;obtain⟨V1,Qa⟩:=Zt5;obtain⟨V4,Qc⟩:=Zp8;obtain⟨V5,Qd⟩:=Zt7;obtain⟨V6,Qe⟩:=Zp7;obtain⟨V7,Qf⟩:=ZrS;obtain⟨V8,Qg⟩:=Zqe;obtain⟨V9,Qh⟩:=Zi1;obtain⟨Wa,Qi⟩:=Zi0;obtain⟨Wb,Qj⟩:=ZwN;obtain⟨Wc,Qk⟩:=Zqb;obtain⟨Wd,Ql⟩:=ZnT;obtain⟨We,Qm⟩:=Zhu;obtain⟨Wf,Qn⟩:=Zij;obtain⟨Wg,Qo⟩:=ZwP;obtain⟨Wh,Qp⟩:=Zqd;obtain⟨Wi,Qq⟩:=Zhv;obtain⟨Wj,Qs⟩:=ZrR;obtain⟨Wl,Qt⟩:=Zm9;obtain⟨Wm,Qu⟩:=Zt6;obtain⟨Wn,Qv⟩:=ZgF;obtain⟨Wo,Qw⟩:=Zyv;obtain⟨Wq,Qx⟩:=Zyw;obtain⟨Wr,Qy⟩:=Zt4;obtain⟨Ws,Qz⟩:=Zqc;obtain⟨Wt,QB⟩:=Zqa;obtain⟨Wu,QC⟩:=Zp9;obtain⟨Wv,QD⟩:=Zky;obtain⟨Ww,QF⟩:=ZjA;obtain⟨Wx,QG⟩:=ZjB;obtain⟨Wy,QH⟩:=Zjy;obtain⟨Wz,QJ⟩:=Zm4;obtain⟨WD,QK⟩:=Zm7;obtain⟨WF,QL⟩:=Zp6;obtain⟨WK,QM⟩:=Zjz;obtain⟨WL,QQ⟩:=Zl0;obtain⟨WM,QR⟩:=ZlZ;obtain⟨WN,QS⟩:=Zm6;obtain⟨WP,QT⟩:=Zm5;obtain⟨WQ,SJ⟩:=ZlV;obtain⟨WR,QV⟩:=ZlW;obtain⟨WT,QW⟩:=Zkv;obtain⟨WW,QX⟩:=Zkw;obtain⟨WX,QZ⟩:=ZlU;obtain⟨WY,Q0⟩:=Zm3;obtain⟨W0,Q3⟩:=ZlY;obtain⟨W2,Q4⟩:=Zii;obtain⟨W4,Q5⟩:=Zht;obtain⟨W6,Q6⟩:=ZlX;obtain⟨W7,Q7⟩:=Zkx;obtain⟨W8,SM⟩:=Zm2;obtain⟨W9,Q8⟩:=ZlT;obtain⟨Xa,Q9⟩:=Zku;refine⟨⟨Og,VR,Oh,V0,Oi,V1,Oj,V4,Ol,V5,Om,V6,Oo,V7,Oq,V8,Ot,V9,Ou,Wa,Ov,Wb,Ox,Wc,Oz,Wd,OD,We,OJ,Wf,O1,Wg,O3,Wh,O4,Wi,O5,Wj,O6,Wl,O7,Wm,O8,Wn,O9,Wo,Pa,Wq,Pb,Wr,Pg,Ws,Ph,Wt,Pj,Wu,Pk,Wv,Pr,Ww,Pu,Wx,Px,Wy,Py,Wz,Pz,WD,PB,WF,PJ,WK,PL,WL,PN,WM,PP,WN,PQ,WP,f_law,J8 "law" "law" (Ly Il) (JC Il) (Bf Il) .none ZvO Zvc ZvZ Zu7 nj Zvb,Mh,WQ,Mi,WR,Mj,WT,Ml,WW,Mm,WX,Mp,WY,Mq,W0,Mr,W2,Ms,W4,Mt,W6,Mu,W7,Mv,W8,Mw,W9,Mx,Xa,Bw,CP,GJ,Hc⟩,?_⟩
 exact {
  PX:=PX,
  ZiF:=PX.binds (ps:=["many"]) (by walk_at "b"),
  ZiP:=Ci X G ZmE,
  P0:=P0,
  ZqV:=P0.binds (ps:=["crowd"]) (by walk_at "b"),
  Zr4:=Ci X G Zwk,
  Qa:=Qa,
  ZoA:=Qa.binds (ps:=["many","stand"]) (by walk_at "b"),
  Zo4:=Ci X G ZtB,
  Qc:=Qc,
  ZkT:=Qc.binds (ps:=["many","bar"]) (by walk_at "b"),
  Zk8:=Ci X G ZpM,
  Qd:=Qd,
  ZoC:=Qd.binds (ps:=["one","other"]) (by walk_at "b"),
  Zo6:=Ci X G ZtD,
  Qe:=Qe,
  ZkS:=Qe.binds (ps:=["bar"]) (by walk_at "b"),
  Zk7:=Ci X G ZpL,
  Qf:=Qf,
  ZmI:=Qf.binds (ps:=["bar","lamp"]) (by walk_at "b"),
  Znd:=Ci X G ZqQ,
  Qg:=Qg,
  ZkZ:=Qg.binds (ps:=["many","bars"]) (by walk_at "b"),
  Zle:=Ci X G ZpS,
  Qh:=Qh,
  ZfA:=Qh.binds (ps:=["chart","inside"]) (by walk_at "b"),
  ZfD:=Ci X G ZiX,
  Qi:=Qi,
  Zfz:=Qi.binds (ps:=["chart","inside"]) (by walk_at "b"),
  ZfC:=Ci X G ZiW,
  Qj:=Qj,
  ZqU:=Qj.binds (ps:=["chart","bars"]) (by walk_at "b"),
  Zr3:=Ci X G Zwj,
  Qk:=Qk,
  ZkW:=Qk.binds (ps:=["chart","bars"]) (by walk_at "b"),
  Zlb:=Ci X G ZpP,
  Ql:=Ql,
  Zjn:=Ql.binds (ps:=["chart","inside","bar"]) (by walk_at "b"),
  ZjI:=Ci X G ZnI,
  Qm:=Qm,
  Zet:=Qm.binds (ps:=["chart","bars"]) (by walk_at "b"),
  ZeF:=Ci X G Zg5,
  Qn:=Qn,
  Ze3:=Qn.binds (ps:=["chart","bars"]) (by walk_at "b"),
  Ze9:=Ci X G Zh5,
  Qo:=Qo,
  ZqW:=Qo.binds (ps:=["chart","bars"]) (by walk_at "b"),
  Zr5:=Ci X G Zwl,
  Qp:=Qp,
  ZkY:=Qp.binds (ps:=["chart","held","bar"]) (by walk_at "b"),
  Zld:=Ci X G ZpR,
  Qq:=Qq,
  Zeu:=Qq.binds (ps:=["chart","held","bar"]) (by walk_at "b"),
  ZeG:=Ci X G Zg6,
  Qs:=Qs,
  ZmH:=Qs.binds (ps:=["chart","held","bar"]) (by walk_at "b"),
  Znc:=Ci X G ZqP,
  Qt:=Qt,
  ZiG:=Qt.binds (ps:=["chart","frames","diary","k","stand"]) (by walk_at "b"),
  ZiQ:=Ci X G ZmF,
  Qu:=Qu,
  ZoB:=Qu.binds (ps:=["chart","frames","diary","bad"]) (by walk_at "b"),
  Zo5:=Ci X G ZtC,
  Qv:=Qv,
  ZdA:=Qv.binds (ps:=["chart","frames","diary"]) (by walk_at "b"),
  ZdB:=Ci X G ZgC,
  Qw:=Qw,
  Zu8:=Qw.binds (ps:=["frames","diary"]) (by walk_at "b"),
  ZvU:=Ci X G ZxL,
  Qx:=Qx,
  Zu9:=Qx.binds (ps:=["chart"]) (by walk_at "b"),
  ZvV:=Ci X G ZxM,
  Qy:=Qy,
  Zoz:=Qy.binds (ps:=["chart"]) (by walk_at "b"),
  Zo3:=Ci X G ZtA,
  Qz:=Qz,
  ZkX:=Qz.binds (ps:=["thing"]) (by walk_at "b"),
  Zlc:=Ci X G ZpQ,
  QB:=QB,
  ZkV:=QB.binds (ps:=["thing","many"]) (by walk_at "b"),
  Zla:=Ci X G ZpO,
  QC:=QC,
  ZkU:=QC.binds (ps:=["many","starts","bads","after"]) (by walk_at "b"),
  Zk9:=Ci X G ZpN,
  QD:=QD,
  ZgK:=QD.binds (ps:=["_law_script","_law_k"]) (by walk_at "b"),
  ZgR:=Ci X G Zkl,
  QF:=QF,
  ZfN:=QF.binds (ps:=["_law_cell","_law_size"]) (by walk_at "b"),
  ZfX:=Ci X G Zji,
  QG:=QG,
  ZfO:=QG.binds (ps:=["_law_cell","_law_s","_law_size"]) (by walk_at "b"),
  ZfY:=Ci X G Zjj,
  QH:=QH,
  ZfL:=QH.binds (ps:=["_law_script","_law_size"]) (by walk_at "b"),
  ZfV:=Ci X G Zjg,
  QJ:=QJ,
  ZiB:=QJ.binds (ps:=["_law_after","_law_crowd"]) (by walk_at "b"),
  ZiL:=Ci X G ZmA,
  QK:=QK,
  ZiE:=QK.binds (ps:=["_law_found"]) (by walk_at "b"),
  ZiO:=Ci X G ZmD,
  QL:=QL,
  ZkR:=QL.binds (ps:=["_law_way_here","_law_starts","_law_bads","_law_after","_law_steps"]) (by walk_at "b"),
  Zk6:=Ci X G ZpK,
  QM:=QM,
  ZfM:=QM.binds (ps:=["_law_bars","_law_size"]) (by walk_at "b"),
  ZfW:=Ci X G Zjh,
  QQ:=QQ,
  Zhe:=QQ.binds (ps:=["_law_size","_law_asks","_law_lit"]) (by walk_at "b"),
  ZhB:=Ci X G Zlr,
  QR:=QR,
  Zhd:=QR.binds (ps:=["_law_shut","_law_starts","_law_bads","_law_after"]) (by walk_at "b"),
  ZhA:=Ci X G Zlq,
  QS:=QS,
  ZiD:=QS.binds (ps:=["_law_bars","_law_starts","_law_bads","_law_after"]) (by walk_at "b"),
  ZiN:=Ci X G ZmC,
  QT:=QT,
  ZiC:=QT.binds (ps:=["_law_found","_law_starts","_law_bads","_law_after"]) (by walk_at "b"),
  ZiM:=Ci X G ZmB,
  F_law:=Zvh (st:=Il) l_law c_law k_law,
  m_law:=Ci X G a_law,
  SJ:=SJ,
  Zg9:=SJ.binds (ps:=["self","chart"]) (by walk_at "b"),
  QV:=QV,
  Zha:=QV.binds (ps:=["self"]) (by walk_at "b"),
  QW:=QW,
  ZgH:=QW.binds (ps:=["self","k","first"]) (by walk_at "b"),
  QX:=QX,
  ZgI:=QX.binds (ps:=["self","k"]) (by walk_at "b"),
  QZ:=QZ,
  Zg8:=QZ.binds (ps:=["self","k"]) (by walk_at "b"),
  Q0:=Q0,
  ZiA:=Q0.binds (ps:=["self","k"]) (by walk_at "b"),
  Q3:=Q3,
  Zhc:=Q3.binds (ps:=["self","k","bar"]) (by walk_at "b"),
  Q4:=Q4,
  Ze2:=Q4.binds (ps:=["self","number","bar"]) (by walk_at "b"),
  Q5:=Q5,
  Zes:=Q5.binds (ps:=["self"]) (by walk_at "b"),
  Q6:=Q6,
  Zhb:=Q6.binds (ps:=["self"]) (by walk_at "b"),
  Q7:=Q7,
  ZgJ:=Q7.binds (ps:=["self"]) (by walk_at "b"),
  SM:=SM,
  Ziz:=SM.binds (ps:=["self","many","starts","bads","after"]) (by walk_at "b"),
  Q8:=Q8,
  Zg7:=Q8.binds (ps:=["self","crowd"]) (by walk_at "b"),
  Q9:=Q9,
  ZgG:=Q9.binds (ps:=["self","crowd"]) (by walk_at "b"),
  Zo2:=Ci X G Ztz,
  CW:=⟨Zsm,Zrp,Zsq,ZsL⟩,
  ZoW:=⟨Zr8,ZlE,ZlN,ZrO⟩,
  JS:=JS,
  JT:=JT,
  Hd:=Hd,
  Zhp:=⟨ZlF,ZlO,QV.kp⟩,
  ZgN:=⟨Zkn,Zkr,QW.kp⟩,
  ZgO:=⟨Zko,Zks,QX.kp⟩,
  Zho:=⟨ZlD,ZlM,QZ.kp⟩,
  ZiJ:=⟨ZmT,ZmV,Q0.kp⟩,
  Zhr:=⟨ZlH,ZlQ,Q3.kp⟩,
  Ze7:=⟨Zia,Zih,Q4.kp⟩,
  ZeD:=⟨Zhk,Zhs,Q5.kp⟩,
  Zhq:=⟨ZlG,ZlP,Q6.kp⟩,
  ZgP:=⟨Zkp,Zkt,Q7.kp⟩,
  Zr2:=Ci X G Zwi,
  Dq:=⟨Zuz,ZtU,ZuD,ZuL⟩,
  ZrN:=⟨Zuk,ZmS,ZmU,Zt2⟩,
  GK:=GK,
  JV:=JV,
  KJ:=KJ,
  Ra:=Ra,
  Zhn:=⟨ZlC,ZlL,Q8.kp⟩,
  ZgM:=⟨Zkm,Zkq,Q9.kp⟩,
  m7:=Ci X G ZqO,
  Znb:=Ci X G ZqN,
  m9:=⟨nq,Zp3,ZqC,ZqE,ZqA,Zqk,ZqG⟩,
  Znr:=⟨nu,Zp2,ZqB,ZqD,Zqz,Zqj,ZqF⟩,
  bl:=fun s u=>.of_eq rfl,
  B:=⟨Ff X G b_len,Ff X G b_range,Ff X G b_isinstance,Ff X G b_int,Ff X G b_bool,Ff X G b_str,Ff X G b_list,Ff X G b_tuple,Ff X G b_dict,Ff X G b_set,Ff X G b_sorted,Ff X G b_max,Ff X G b_min,Ff X G b_sum,Ff X G b_any,Ff X G b_all,Ff X G b_abs,Ff X G b_reversed,Ff X G b_enumerate,Ff X G b_zip⟩ }
theorem Dw (x y:Nat):Hl (x:Int) (y:Int)=((x &&& y:Nat):Int):=by simp[Hl]
theorem oh (x:Int):HY (HY x)=x:=by unfold HY; omega
theorem GQ (x y:Nat):XX (x:Int) (y:Int)=((x ||| y:Nat):Int):=by
 show HY (Hl (HY x) (HY y))=_;rw[YdG (by unfold HY; omega) (by unfold HY; omega),oh,oh,oh];simp
theorem ZxG (x y:Nat):YaA (x:Int) (y:Int)=((x ^^^ y:Nat):Int):=by
 show XX x y - Hl x y=_;rw[GQ,Dw,ZK (x+1) x y (by omega)];omega
noncomputable def cell (ns:List Int) (k:Nat):Int:=ns.getD k 0
noncomputable def spLaw (K:Ao):Sp:=fun vs H Q _=>∃(a:Aa) (ns:List Int),vs=[.ref a]∧SqL K H a (ns.map V.int)∧ns.length≤63∧Only H∧∀H',Q (.bl true) H'
noncomputable def Zzf (K:Ao):Sp:=fun vs H Q _=>∃(a:Aa) (ns:List Int) (k:Nat),vs=[.ref a,.int (k:Int)]∧SqL K H a (ns.map V.int)∧Q (.int (cell ns k % 10 ^ 45)) H
section
variable {P:Ay} {w:Av} {K:Ao} {mg:Str→Option Ab} {base:Ar} {t:Ad}
theorem Zlf (T:Txt K mg t):FnS P w K mg base 1 "_law_cell_at" ["_law_script","_law_k"] ((Zzf K)):=by
 refine⟨_,_,T.QD.ok Zj8 (fun vs H Q E h=>?_) (fun _ _ _ _ H vs Q E hr h=>?_),T.ZgK,T.QD.kp,T.ZgR⟩
 ·obtain⟨a,ns,k,rfl,hS,q⟩:=h
  rfl
 obtain⟨a,ns,k,rfl,hS,q⟩:=h
 refine⟨_,(Aj (BJ (BV Kr (pv 1) (CV Fp rfl T.B.len Fo (Ac (pv 0) Ag)) (Br _))
   (Al (Bb (Ak El (Bm Bu (pv 0) (pv 1) (fun _ _=>rfl)) (Ak ZyP Ah Ah))))
   BP)
   (Al (Bb Ah))),?_⟩
 walk_at "rd0";refine Eg (fun h=>?_) (fun h=>?_)
 ·rw[Az]at h
  have hk:k < ns.length:=by omega
  walk_at "";refine ZzL (j:=k) (v:=.int (cell ns k)) hS ?_ ?_
  ·rw[CQ,CJ hk]
   simp[cell,Cz,CJ hk]
  walk_at "";refine i_rI (by decide) ?_;exact q
 ·rw[Az]at h
  walk_at ""
  have e:cell ns k=0:=by
   simp only [cell,Cz];rw[RG (by omega)];rfl
  rw[e]at q;exact q
end
theorem Dm {α β:Type} {F G:α→β→Prop} (h:∀a b,F a b→G a b):∀{xs:List α} {ys:List β},Bd F xs ys→Bd G xs ys
 | _,_,.nil=>.nil
 | _,_,.cons r s=>.cons (h _ _ r) (Dm h s)
theorem Hf {α β:Type} {F:α→β→Prop}:∀{xs:List α} {ys:List β} {i:Nat} {x:α},Bd F xs ys→xs[i]?=some x→∃y,ys[i]?=some y∧F x y
 | _,_,_,_,.nil,e=>by simp at e
 | _,_,0,_,.cons r _,e=>by simp at e; subst e; exact⟨_,rfl,r⟩
 | _,_,i+1,x,.cons _ s,e=>by
  obtain⟨u,h1,h2⟩:=Hf (i:=i) (x:=x) s (by simpa using e);exact⟨u,by simpa using h1,h2⟩
theorem Xb {α β:Type} {F:α→β→Prop}:∀{xs xs':List α} {ys ys':List β},Bd F xs ys→Bd F xs' ys'→Bd F (xs++xs') (ys++ys')
 | _,_,_,_,.nil,s=>s
 | _,_,_,_,.cons r q,s=>.cons r (Xb q s)
theorem En {α β:Type} {F:α→β→Prop} {xs:List α} {ys:List β} (h:Bd F xs ys):xs.length=ys.length:=K1 h
theorem JW {ps:List Aa} {i:Nat} {x:V} (h:(ps.map V.ref)[i]?=some x):∃p,x=V.ref p∧ps[i]?=some p:=by
 rw[CQ]at h
 cases e:ps[i]? with
 | none=>rw[e]at h; cases h
 | some p=>rw[e]at h; exact⟨p,(De h).symm,rfl⟩
theorem Gr {α:Type} {l:List α} {i:Nat} {x:α} (h:l[i]?=some x):l.take (i+1)=l.take i++[x]:=by
 rw[Ybe,h]; rfl
def Bl (H:Hp) (p:Aa) (b:Bar):Prop:=H p=some (.tup [.int (b.1:Int),.int (b.2:Int)])
noncomputable def ib (b:Bar):Int×Int:=((b.1:Int),(b.2:Int))
theorem KN {H:Hp}:∀{ps:List Aa} {bs:List Bar},Bd (Bl H) ps bs→Bd (Ex H) ps (bs.map ib)
 | _,_,.nil=>.nil
 | _,_,.cons r q=>.cons r (KN q)
theorem Zwn {H H':Hp} {ps:List Aa} {bs:List Bar} (s:Ext H H') (h:Bd (Bl H) ps bs):Bd (Bl H') ps bs:=Dm (fun p b q=>s p (.tup [.int (b.1:Int),.int (b.2:Int)]) q (fun _ z=>nomatch z)) h
theorem Xc (s k:Nat):Hl ((s:Int) / 2 ^ ((k:Int)).toNat) 1=if s.testBit k=true then 1 else 0:=by
 have e:((s:Int) / 2 ^ ((k:Int)).toNat)=((s / 2 ^ k:Nat):Int):=by simp
 rw[e,show(1:Int)=((1:Nat):Int) from rfl,Dw,Nat.and_one_is_mod,ZwV]
 by_cases h:s / 2 ^ k % 2=1
 ·rw[decide_eq_true h,if_pos rfl,h]
 ·rw[decide_eq_false h,if_neg Cg]
  have:s / 2 ^ k % 2=0:=by omega
  rw[this]; rfl
theorem ou (s k:Nat):decide (Hl ((s:Int) / 2 ^ ((k:Int)).toNat) 1=1)=s.testBit k:=by
 rw[Xc]
 cases s.testBit k <;> rfl
theorem Xd {n i:Nat} {lo:Int} {x:V} (h:((Cd n).map fun i:Nat=>V.int (lo+(i:Int)))[i]?=some x):i < n∧x=.int (lo+(i:Int)):=by
 rw[CQ]at h
 by_cases hi:i < n
 ·rw[Ya4 hi]at h
  exact⟨hi,(De h).symm⟩
 ·rw[RG (by rw[G5]; omega)]at h
  cases h
theorem Gh {m:Nat} (h:m≤6):(2:Nat) ^ m≤64:=Eb (Hq (by decide) h) (by decide)
theorem Eh (m:Nat):(1:Int) * 2 ^ ((m:Int)).toNat=((2 ^ m:Nat):Int):=by
 simp
theorem ZyR {f:Nat→Bool} {n:Nat} (h:f n=true):XX ((bits f n:Nat):Int) (1 * 2 ^ ((n:Int)).toNat)=((bits f (n+1):Nat):Int):=by
 rw[Eh,GQ,ZnM f n h]
theorem Hg (x y:Nat):Hl (x:Int) (HY (y:Int))=((x - (x &&& y):Nat):Int):=by
 rw[YdH,Dw];have:=TY (n:=x) (m:=y);omega
noncomputable def nums (l:List Nat):List Int:=l.map fun k:Nat=>(k:Int)
theorem ZpV {ix:List Nat} {tc:TT} {te:TE} {σ:St} {H:Hp} {Q:VK} {n:Nat} (p:Nat→Bool) (hz:n≤1000000)
  (ht:∀(i:Nat) (H':Hp),i < n→Same H H'→∀R:Bool→Hp→Prop,(∀H2,Same H' H2→R (p i) H2)→tc (some (.int (i:Int))::subS σ ix) H' R)
  (he:∀(i:Nat) (H':Hp),i < n→Same H H'→∀R2:V→Hp→Prop,(∀H3,Same H' H3→R2 (.int (i:Int)) H3)→te (some (.int (i:Int))::subS σ ix) H' R2)
  (hd:∀(acc:Aa) (H':Hp),H acc=none→Same H H'→H' acc=some (.lst ((nums ((Cd n).filter p)).map V.int))→Q (.ref acc) H'):JK (Itr 0 n) ix tc te σ Q H:=by
 refine Kz (fun i ys=>ys=(nums ((Cd i).filter p)).map V.int) (Vh 0 n H) (by rw[Az,G5]; exact hz) rfl ?_ ?_
 ·intro i x ys acc H' hx s1 hacc ea hy _ R k
  obtain⟨hi,rfl⟩:=Xd hx;rw[Rv];rw[Rv]at k;refine ht i H' hi s1 R fun H2 s2=>k (p i) H2 s2 (fun z=>?_) fun z R2 k2=>?_
  ·rw[Zjs,z,if_neg Cg,Ed]; exact hy
  ·refine he i H2 hi (s1.trans s2) R2 fun H3 s3=>k2 _ H3 s3 ?_
   rw[Zjs,z,if_pos rfl,hy];unfold nums;rw[Dh,Dh];rfl
 ·intro acc ys H' n1 s1 e1 hy
  rw[Az,G5]at hy;subst hy;exact hd acc H' n1 s1 e1
noncomputable def orUp (f:Nat→Nat):Nat→Nat
 | 0=>0
 | n+1=>orUp f n ||| f n
noncomputable def ahN (af:List Nat) (s:Nat):Nat:=orUp (fun k=>if s.testBit k=true then af.getD k 0 else 0) af.length
noncomputable def behN (af:List Nat) (s:Nat):Nat:=bits (fun k=>decide (af.getD k 0 &&& s≠0)) af.length
theorem Xe {f:Nat→Nat} {n:Nat} (h:f n=0):orUp f (n+1)=orUp f n:=by
 show orUp f n ||| f n=orUp f n
 rw[h,Zk]
theorem Zpf {f:Nat→Nat} {j:Nat} (h:∀k,k≠j→f k=0):∀n,j < n→orUp f n=f j
 | 0,hj=>absurd hj (by omega)
 | n+1,hj=>by
  have hz:∀m,m≤j→orUp f m=0:=fun m=>by
   induction m with
   | zero=>intro _; rfl
   | succ m ih=>intro hm; rw[Xe (h m (by omega))]; exact ih (by omega)
  by_cases e:n=j
  ·subst e
   show orUp f n ||| f n=f n
   rw[hz n (Ax _),YcA]
  ·rw[Xe (h n e)]
   exact Zpf h n (by omega)
theorem Ez {af:List Nat} {i:Nat} (h:i < af.length):((nums af).map V.int)[i]?=some (.int ((af.getD i 0:Nat):Int)):=by
 unfold nums;rw[CQ,CQ,Cz,CJ h];rfl
theorem Eo (af:List Nat):((nums af).map V.int).length=af.length:=by unfold nums; rw[Az,Az]
theorem KQ (af:List Nat) (x:Nat):(nums (af++[x])).map V.int=(nums af).map V.int++[V.int (x:Int)]:=by unfold nums; rw[Dh,Dh]; rfl
theorem JX {a b:Nat} (h:a < b):2 ^ a < 2 ^ b:=Nat.pow_lt_pow_right (by decide) h
theorem Zsh {f:Nat→Nat} {B:Nat} (h:∀k,f k < 2 ^ B):∀n,orUp f n < 2 ^ B
 | 0=>Ef B
 | n+1=>Nv (Zsh h n) (h n)
theorem ZxO {af:List Nat} {B:Nat} (h:∀x∈af,x < 2 ^ B) (c:Nat):ahN af c < 2 ^ B:=by
 unfold ahN;apply Zsh;intro k
 by_cases e:c.testBit k=true
 ·rw[if_pos e,Cz]
  cases z:af[k]? with
  | none=>exact Ef B
  | some x=>exact h x (Df z)
 ·rw[if_neg e]; exact Ef B
noncomputable def Zz6 (af:List Nat) (c:Nat):Nat:=c ||| ahN af c
noncomputable def layN (af:List Nat) (st:Nat):Nat→Nat
 | 0=>st
 | i+1=>Zz6 af (layN af st i)
theorem ZrT {af:List Nat} {B st:Nat} (h:∀x∈af,x < 2 ^ B) (hs:st < 2 ^ B):∀i,layN af st i < 2 ^ B
 | 0=>hs
 | i+1=>Nv (ZrT h hs i) (ZxO h _)
noncomputable def pc (c:Nat):Nat→Nat
 | 0=>0
 | n+1=>pc c n+(if c.testBit n=true then 1 else 0)
theorem Mz (c:Nat):∀n,pc c n≤n
 | 0=>Ax _
 | n+1=>by
  show pc c n+(if c.testBit n=true then 1 else 0)≤n+1;have:=Mz c n
  split <;> omega
theorem Xf {c d:Nat} (h:∀k,c.testBit k=true→d.testBit k=true):∀n,pc c n≤pc d n
 | 0=>Ax _
 | n+1=>by
  show pc c n+(if c.testBit n=true then 1 else 0)≤pc d n+(if d.testBit n=true then 1 else 0);have:=Xf h n
  by_cases e:c.testBit n=true
  ·rw[if_pos e,if_pos (h n e)]; omega
  ·rw[if_neg e]; split <;> omega
theorem Xg {c d k:Nat} (h:∀k,c.testBit k=true→d.testBit k=true) (h1:c.testBit k=false) (h2:d.testBit k=true):∀n,k < n→pc c n < pc d n
 | 0,hk=>absurd hk (IW _)
 | n+1,hk=>by
  show pc c n+(if c.testBit n=true then 1 else 0) < pc d n+(if d.testBit n=true then 1 else 0)
  by_cases e:k=n
  ·subst e
   have:=Xf h k;rw[h1,h2,if_neg Cg,if_pos rfl]; omega
  ·have:=Xg h h1 h2 n (by omega)
   by_cases e:c.testBit n=true
   ·rw[if_pos e,if_pos (h n e)]; omega
   ·rw[if_neg e]; split <;> omega
theorem ZtG {α:Type} {xs:List α} {x:α} {n:Nat} (hl:xs.length=n+1) (h:xs[n]?=some x):atI xs (-1)=some x:=by
 unfold atI ixN;rw[if_neg (by decide),if_pos (by omega),hl]
 have e:((-1:Int)+((n+1:Nat):Int)).toNat=n:=by omega
 show xs[((-1:Int)+((n+1:Nat):Int)).toNat]?=some x;rw[e];exact h
theorem Zr9:∀c:Nat,0 < c→∃k q,c=2 ^ k * (2 * q+1):=fun c=>by
 induction c using Ycd with
 | _ c ih=>
  intro h
  by_cases e:c % 2=1
  ·exact⟨0,c / 2,by omega⟩
  ·obtain⟨k,q,hk⟩:=ih (c / 2) (by omega) (by omega)
   refine⟨k+1,q,?_⟩
   have:c=2 * (c / 2):=by omega
   rw[this,hk,K9,Yaa (2 ^ k) 2,Km]
theorem o6 (k q j:Nat):(2 ^ k * (2 * q+1)).testBit j=if j < k then false else(2 * q+1).testBit (j - k):=by
 have:=YcB (2 * q+1) (Ef k) j;rw[TJ]at this;rw[this,Fl]
theorem Zqt (k q j:Nat):(2 ^ k * (2 * q+1) - 1).testBit j=if j < k then true else(2 * q).testBit (j - k):=by
 have e:2 ^ k * (2 * q+1) - 1=2 ^ k * (2 * q)+(2 ^ k - 1):=by
  have:=Ef k;rw[Uv,ww]; omega
 have h:2 ^ k - 1 < 2 ^ k:=by have:=Ef k; omega
 rw[e,YcB (2 * q) h j,Nx]
 by_cases hj:j < k
 ·rw[if_pos hj,if_pos hj,decide_eq_true hj]
 ·rw[if_neg hj,if_neg hj]
theorem ZvS (k q:Nat):2 ^ k * (2 * q+1) - (2 ^ k * (2 * q+1) &&& (2 ^ k * (2 * q+1) - 1))=2 ^ k:=by
 apply DQ;intro j;rw[GD,o6,Zqt,Ng]
 by_cases hj:j < k
 ·rw[if_pos hj,if_pos hj,decide_eq_false (by omega)]; rfl
 ·rw[if_neg hj,if_neg hj]
  by_cases e:j=k
  ·subst e
   rw[Gv,decide_eq_true rfl,Yam,Yam];simp
  ·rw[decide_eq_false (fun z=>e z.symm)]
   obtain⟨i,hi⟩ : ∃i,j - k=i+1:=⟨j - k - 1,by omega⟩;rw[hi,YcC,YcC,show(2 * q+1) / 2=q by omega,show 2 * q / 2=q by omega]
   cases q.testBit i <;> rfl
noncomputable def lowN (c:Nat):Nat:=(c - (c &&& (c - 1))).log2
theorem SN {c:Nat} (h:0 < c):c.testBit (lowN c)=true∧(∀j,j < lowN c→c.testBit j=false)∧c - (c &&& (c - 1))=2 ^ lowN c:=by
 obtain⟨k,q,rfl⟩:=Zr9 c h
 have e:lowN (2 ^ k * (2 * q+1))=k:=by unfold lowN; rw[ZvS,YcD]
 rw[e];refine⟨?_,fun j hj=>?_,ZvS k q⟩
 ·rw[o6,if_neg (Hi _),Gv,Yam]; simp
 ·rw[o6,if_pos hj]
theorem ZwX {c:Nat} (h:0 < c):((Lp (Hl (c:Int) (-(c:Int))):Nat):Int) - 1=((lowN c:Nat):Int):=by
 have e : -(c:Int)=HY ((c - 1:Nat):Int):=by unfold HY; omega
 rw[e,Hg,(SN h).2.2];unfold Lp;have hp:0 < 2 ^ lowN c:=Ef _
 have hne:((((2 ^ lowN c:Nat):Int)) == 0)=false:=by rw[beq_eq_false_iff_ne]; omega
 rw[hne,if_neg Cg,YcE,YcD];omega
section
variable {P:Ay} {w:Av} {K:Ao} {mg:Str→Option Ab} {base:Ar} {t:Ad}
noncomputable def Zou:Sp:=fun vs H Q _=>∃(m:Nat),vs=[.int (m:Int)]∧m≤6∧Q (.int ((2 ^ 2 ^ m - 1:Nat):Int)) H
theorem o7 (T:Txt K mg t):FnS P w K mg base 1 "all_stands" ["many"] (Zou):=by
 refine⟨_,_,T.PX.ok Zmn (fun vs H Q E h=>?_) (fun _ _ _ _ H vs Q E hr h=>?_),T.ZiF,T.PX.kp,T.ZiP⟩
 ·obtain⟨m,rfl,hm,q⟩:=h
  rfl
 obtain⟨m,rfl,hm,q⟩:=h;have hp:=Gh hm;have hp0:=ur (2 ^ m);refine⟨_,(Al (Bb (Ak Hz (Ak DW Ah (Ak DW Ah (pv 0))) Ah))),?_⟩;walk_at "rd0";rw[Eh];refine i_rI ⟨by omega,by omega,by decide⟩ ?_;walk_at "";rw[Eh];have:1≤2 ^ 2 ^ m:=Yan
 have e:((2 ^ 2 ^ m:Nat):Int) - 1=((2 ^ 2 ^ m - 1:Nat):Int):=by omega
 rw[e];exact q
structure GoodC (m st bd:Nat) (af:List Nat):Prop where
 m1:1≤m
 m6:m≤6
 st:st < 2 ^ 2 ^ m
 bd:bd < 2 ^ 2 ^ m
 ln:af.length=2 ^ m
 af:∀x∈af,x < 2 ^ 2 ^ m
noncomputable def Zxw:Sp:=fun vs H Q _=>∃n:Int,vs=[.int n]∧Q (.bl true) H
theorem ZjR (T:Txt K mg t):FnS P w K mg base 1 "is_whole" ["thing"] (Zxw):=by
 refine⟨_,_,T.Qz.ok Zoq (fun vs H Q E h=>?_) (fun _ _ _ _ H vs Q E hr h=>?_),T.ZkX,T.Qz.kp,T.Zlc⟩
 ·obtain⟨n,rfl,q⟩:=h
  rfl
 obtain⟨n,rfl,q⟩:=h;refine⟨_,(Al (Bb (Jw (CV Ji rfl T.B.isinstance Jj (Ac (pv 0) (Ac (Jd (v:=.ty "int") rfl T.B.int Zva rfl) Ag))) (Kq (Zsk (CV Ji rfl T.B.isinstance Jj (Ac (pv 0) (Ac (Jd (v:=.ty "bool") rfl T.B.bool ZqY rfl) Ag)))))))),?_⟩;walk_at "rd0";refine CN rfl ?_;walk_at "";exact q
noncomputable def Zs5:Sp:=fun vs H Q _=>∃(n m:Nat),vs=[.int (n:Int),.int (m:Int)]∧m≤6∧n < 2 ^ 2 ^ m∧Q (.bl true) H
theorem Zoa (T:Txt K mg t):FnS P w K mg base 2 "is_crowd" ["thing","many"] (Zs5):=by
 refine⟨_,_,T.QB.ok Zoo (fun vs H Q E h=>?_) (fun _ _ _ _ H vs Q E hr h=>?_),T.ZkV,T.QB.kp,T.Zla⟩
 ·obtain⟨n,m,rfl,hm,hn,q⟩:=h
  rfl
 refine xE2 h fun n m h1_=>nE4 h1_ fun e0_ hm hn q=>?_;clear h h1_;subst e0_;have o9:=ZjR (P:=P) (w:=w) (base:=base) T;have SQ:=o7 (P:=P) (w:=w) (base:=base) T;refine⟨_,(Al (Bb (Jw (Bc o9 hr (Ac (pv 0) Ag)) (Kq (Zux U3 U3 Ah (pv 0) (Bc SQ hr (Ac (pv 1) Ag))))))),?_⟩;walk_at "rd0";refine⟨_,rfl,?_⟩;walk_at "";refine CN rfl ?_;walk_at "";refine CN (decide_eq_true (by omega)) ?_;walk_at "";refine⟨m,rfl,hm,?_⟩;walk_at "";have e:decide ((n:Int)≤((2 ^ 2 ^ m - 1:Nat):Int))=true:=decide_eq_true (by omega);rw[e];exact q
noncomputable def Zs4:Sp:=fun vs H Q _=>∃(m st bd:Nat) (l:Aa) (af:List Nat),vs=[.int (m:Int),.int (st:Int),.int (bd:Int),.ref l]∧H l=some (.lst ((nums af).map V.int))∧GoodC m st bd af∧∀H',Same H H'→Q (.bl true) H'
theorem Zn9 (T:Txt K mg t):FnS P w K mg base 3 "is_chart" ["many","starts","bads","after"] (Zs4):=by
 refine⟨_,_,T.QC.ok Zon (fun vs H Q E h=>?_) (fun _ _ _ _ H vs Q E hr h=>?_),T.ZkU,T.QC.kp,T.Zk9⟩
 ·obtain⟨m,st,bd,l,af,rfl,hl,g,q⟩:=h
  rfl
 refine xE5 h fun m st bd l af h1_=>nE4 h1_ fun e0_ hl g q=>?_;clear h h1_;subst e0_;have o9:=ZjR (P:=P) (w:=w) (base:=base) T;have ph:=Zoa (P:=P) (w:=w) (base:=base) T;have hp:=Gh g.m6;have m1:=g.m1;have m6:=g.m6;have ln:=g.ln
 refine⟨_,(Aj (BJ (PW.pt (Gx (DR (CK (Bc o9 hr (Ac (pv 0) Ag)) (fun _=>rfl))) (Gx (BV Kr (pv 0) Ah (Br _)) (Hx (BV Lx (pv 0) Ah (Br _))))))
   (Al (Bb Ej))
   BP)
   (Aj (BJ (PW.pt (Gx (DR (CK (Bc ph hr (Ac (pv 1) (Ac (pv 0) Ag))) (fun _=>rfl))) (Hx (DR (CK (Bc ph hr (Ac (pv 2) (Ac (pv 0) Ag))) (fun _=>rfl))))))
   (Al (Bb Ej))
   BP)
   (Aj (BJ (PW.pt (Gx (DR (CK (CV Ji rfl T.B.isinstance Jj (Ac (pv 3) (Ac (Jd (v:=.ty "list") rfl T.B.list LC rfl) Ag))) (fun _=>rfl))) (Hx (BV (Gq hr.units) (CV Fp rfl T.B.len Fo (Ac (pv 3) Ag)) (Ak DW Ah (pv 0)) (Br _)))))
   (Al (Bb Ej))
   BP)
   (Al (Bb (CV (Zq0 rfl) rfl T.B.all ZxS (Ac (N5 (sc:=Bf Vy) (N:=["many","starts","bads","after"]) (ns:=["many"]) (ix:=[0]) rfl rfl (by decide +kernel) rfl (HB (pv 3)) (fun _ _ _ _=>R5) (fun _ _ _ _=>(Bc ph hr (Ac (pv 0) (Ac (pv 1) Ag))))) Ag))))))),?_⟩
 walk_at "rd0";refine⟨_,rfl,?_⟩;walk_at "";refine Bv rfl ?_;walk_at "";refine Bv (decide_eq_false (by omega)) ?_;walk_at "";refine Bv (decide_eq_false (by omega)) ?_;walk_at "";refine⟨_,_,rfl,m6,g.st,?_⟩;walk_at "";refine Bv rfl ?_;walk_at "";refine⟨_,_,rfl,m6,g.bd,?_⟩;walk_at "";refine Bv rfl ?_;walk_at "";refine Bv rfl ?_;walk_at "";rw[Eo,Eh,ln];refine Bv (by simp) ?_;walk_at "";refine .inl ⟨l,_,rfl,SqL.of hl,?_⟩;refine Kz (fun i ys=>ys=(Tn i true).map V.bl) (Vi (SqL.of hl)) (by rw[Eo]; omega) rfl ?_ ?_
 ·intro i x ys acc H' hx s1 hacc ea hy _ R k
  obtain⟨n,rfl,hn⟩ : ∃n:Nat,x=.int (n:Int)∧n∈af:=by
   unfold nums at hx;rw[CQ,CQ]at hx
   cases e:af[i]? with
   | none=>rw[e]at hx; cases hx
   | some n=>rw[e]at hx; exact⟨n,(De hx).symm,Df e⟩
  simp only [subS,Cv,Fe];walk_at "";refine k _ H' (Same.refl _) (fun z=>by cases z) fun z R2 k2=>?_;walk_at "";refine⟨_,_,rfl,m6,g.af n hn,?_⟩;refine k2 _ H' (Same.refl _) ?_;rw[hy,List.replicate_succ',Dh];rfl
 ·intro acc ys H' n1 s1 e1 hy
  subst hy;walk_at "";refine ZzJ (SqL.of e1) ?_
  have e:(Tn ((nums af).map V.int).length true).all id=true:=by
   rw[Lb];intro x hx;rw[(List.mem_replicate.mp hx).2]; rfl
  rw[e];exact q H' s1
noncomputable def Im (m st bd:Int) (tp:Aa):List (Str×V):=putF "after" (.ref tp) (putF "bads" (.int bd) (putF "starts" (.int st) (putF "many" (.int m) [])))
def Dy (t:Ad) (H:Hp) (p:Aa) (m st bd:Int) (af:List Nat):Prop:=∃dx tp,H p=some (.ins t.CP dx (Im m st bd tp))∧H tp=some (.tup ((nums af).map V.int))
theorem Dy.mono {H H':Hp} {p:Aa} {m st bd:Int} {af:List Nat} (h:Dy t H p m st bd af) (s:Ext H H'):Dy t H' p m st bd af:=by
 obtain⟨dx,tp,h1,h2⟩:=h;exact⟨dx,tp,s _ _ h1 (fun _ z=>nomatch z),s _ _ h2 (fun _ z=>nomatch z)⟩
theorem Rb (f:Str) (v:V):∀fs:List (Str×V),(putF f v fs).length≤fs.length+1
 | []=>Ax _
 | (g,x)::r=>by
  unfold putF
  by_cases h:g=f
  ·rw[if_pos h]; exact Ia _
  ·rw[if_neg h]; exact Nat.succ_le_succ (Rb f v r)
noncomputable def Zs2 (C:Aa):Sp:=fun vs H Q _=>∃(p dx l:Aa) (m st bd:Nat) (af:List Nat),vs=[.ref p,.int (m:Int),.int (st:Int),.int (bd:Int),.ref l]∧H p=some (.ins C dx [])∧H l=some (.lst ((nums af).map V.int))∧GoodC m st bd af∧∀tp H',(∀b o,b≠p→H b=some o→H' b=some o)→H' tp=some (.tup ((nums af).map V.int))→H' p=some (.ins C dx (Im m st bd tp))→Q .non H'
theorem Zup (T:Txt K mg t):MkS P w K mg base 4 "Chart" t.CP ["self","many","starts","bads","after"] (Zs2 t.CP):=by
 refine⟨T.Zr2,_,_,T.ZrN,T.SM.ok Zmk (fun vs H Q E h=>?_) (fun _ _ _ _ H vs Q E hr h=>?_),T.Ziz⟩
 ·obtain⟨p,dx,l,m,st,bd,ys,rfl,_⟩:=h
  rfl
 refine xE7 h fun p dx l m st bd af h1_=>nE5 h1_ fun e0_ hp0 hl0 hg q=>?_;clear h h1_;subst e0_;have ZpJ:=Zn9 (P:=P) (w:=w) (base:=base) T;have z1:=Rb "many" (.int (m:Int)) [];have z2:=Rb "starts" (.int (st:Int)) (putF "many" (.int (m:Int)) []);have z3:=Rb "bads" (.int (bd:Int)) (putF "starts" (.int (st:Int)) (putF "many" (.int (m:Int)) []));rw[G3]at z1
 have hlp:l≠p:=fun e=>by rw[e,hp0]at hl0; cases hl0
 refine⟨_,(Aj (BJ (DR (CK (Bc ZpJ hr (Ac (pv 1) (Ac (pv 2) (Ac (pv 3) (Ac (pv 4) Ag))))) (fun _=>rfl)))
   (Al Zpj)
   BP)
   (Aj (Ks (pv 0) (pv 1) rfl)
   (Aj (Ks (pv 0) (pv 2) rfl)
   (Aj (Ks (pv 0) (pv 3) rfl)
   (Al (Ks (pv 0) (Vb ZnO rfl T.B.tuple ZW (Ac (pv 4) Ag)) rfl)))))),?_⟩
 walk_at "rd0";refine⟨m,st,bd,l,af,rfl,hl0,hg,fun H0 s0=>?_⟩;have hp:=s0 _ _ hp0;have hl:=s0 _ _ hl0;walk_at "";refine Bv rfl ?_;walk_at "";refine⟨p,_,_,_,rfl,hp,T.Dq,T.GK,by decide,?_⟩;walk_at "";refine⟨p,_,_,_,rfl,Cp,T.Dq,T.JV,by omega,?_⟩;rw[Ztn];walk_at "";refine⟨p,_,_,_,rfl,Cp,T.Dq,T.KJ,by omega,?_⟩;rw[Ztn];walk_at "";refine Zyl (ys:=(nums af).map V.int) (by rw[Bo hlp]; exact hl) fun tp htp=>?_
 have hpt:tp≠p:=fun e=>by rw[e,Cp]at htp; cases htp
 walk_at "";refine⟨p,_,_,_,rfl,by rw[Bo (DX hpt)]; exact Cp,T.Dq,T.Ra,by omega,?_⟩;refine q tp _ (fun b o hb e0=>?_) (by rw[Bo hpt]; exact Cp) Cp;have e:=s0 _ _ e0
 have hb':b≠tp:=fun z=>by rw[←z,Bo hb,e]at htp; cases htp
 rw[Bo hb,Bo hb',Bo hb];exact e
theorem Zrt {l:Aa} {m st bd:Nat} {af:List Nat} {H:Hp} {Q:VK} (hl:H l=some (.lst ((nums af).map V.int))) (hg:GoodC m st bd af) (h:∀(x:Aa) (H':Hp),Same H H'→H x=none→Dy t H' x m st bd af→Q (.ref x) H') :
  MkG t.CP (Zs2 t.CP) [.int (m:Int),.int (st:Int),.int (bd:Int),.ref l] H Q:=by
 intro x dx hx hdx ne;have s2:=Zns hx hdx (.ins t.CP dx []) (.own x);refine⟨x,dx,l,m,st,bd,_,rfl,Cp,s2 _ _ hl,hg,fun tp H' s3 h1 h2=>⟨rfl,?_⟩⟩;exact h x H' (fun b o e=>s3 b o (Cj e hx) (s2 b o e)) hx ⟨dx,tp,h2,h1⟩
def isCh (t:Ad) (C:Aa):Prop:=C=t.CP
theorem Dy.ins {H:Hp} {p:Aa} {m st bd:Int} {af:List Nat} (h:Dy t H p m st bd af) (f:Str) (h1 : ¬f = "after") (h2 : ¬f = "bads") (h3 : ¬f = "starts") (h4 : ¬f = "many"):∃C dx fs,H p=some (.ins C dx fs)∧isCh t C∧fs.lookup f=none:=by
 obtain⟨dx,tp,e,_⟩:=h;refine⟨_,dx,_,e,rfl,?_⟩;unfold Im;rw[Dv,if_neg h1,Dv,if_neg h2,Dv,if_neg h3,Dv,if_neg h4];rfl
theorem Zo1 (m st bd:Int) (tp:Aa):(Im m st bd tp).lookup ("after" : Str)=some (.ref tp):=by
 unfold Im;rw[Dv,if_pos rfl]
theorem HH (m st bd:Int) (tp:Aa):(Im m st bd tp).lookup ("many" : Str)=some (.int m):=by
 unfold Im;rw[Dv,if_neg (by decide),Dv,if_neg (by decide),Dv,if_neg (by decide),Dv,if_pos rfl]
theorem SX (m st bd:Int) (tp:Aa):(Im m st bd tp).lookup ("starts" : Str)=some (.int st):=by
 unfold Im;rw[Dv,if_neg (by decide),Dv,if_neg (by decide),Dv,if_pos rfl]
theorem Xh (m st bd:Int) (tp:Aa):(Im m st bd tp).lookup ("bads" : Str)=some (.int bd):=by
 unfold Im;rw[Dv,if_neg (by decide),Dv,if_pos rfl]
theorem ZrX (s k:Nat):(!decide (Hl ((s:Int) / 2 ^ ((k:Int)).toNat) 1=0))=s.testBit k:=by
 rw[Xc]
 cases s.testBit k <;> rfl
theorem Zrl {af:List Nat} {i:Nat} {v:V} (h:((nums af).map V.int)[i]?=some v):i < af.length∧v=.int ((af.getD i 0:Nat):Int):=by
 have hi:i < af.length:=by
  have:=(Cr.mp h).1;rw[Eo]at this;exact this
 rw[Ez hi]at h;exact⟨hi,(De h).symm⟩
noncomputable def Zpt (t:Ad):Sp:=fun vs H Q _=>∃(p:Aa) (m st bd:Int) (af:List Nat) (s:Nat),vs=[.ref p,.int (s:Int)]∧Dy t H p m st bd af∧af.length≤64∧∀H',Same H H'→Q (.int ((behN af s:Nat):Int)) H'
theorem ZjL (T:Txt K mg t):MeS P w K mg base 1 t.CP "behind" ["self","crowd"] (spAt (Zpt t) t.CP):=by
 refine⟨T.Dq,_,_,T.Q9.ok Sy (fun vs H Q E h=>?_) (fun _ _ _ _ H vs Q E hr h=>?_),T.ZgG,T.ZgM⟩
 ·obtain⟨⟨p,m,st,bd,af,s,rfl,_⟩,_⟩:=h
  rfl
 replace h:=h.1;refine xE6 h fun p m st bd af n h1_=>nE4 h1_ fun e0_ hc h64 q=>?_;clear h h1_;subst e0_;obtain⟨dx,tp,e1,e2⟩:=hc
 refine⟨_,(Aj (ss 2 Sy.nd Ah)
   (Aj (Ea Dj rfl (Zsn rfl T.B.enumerate (Cw (pv 0) rfl)) (RX rfl (Je (sg 3 Sy.nd) (Je (sg 4 Sy.nd) RW)))
   (Al (BJ (CK (Ak Cm (pv 4) (pv 1)) (fun _=>rfl))
   (Al (ss 2 Sy.nd (Ak Hb (pv 2) (Ak DW Ah (pv 3)))))
   BP)))
   (Al (Bb (pv 2))))),?_⟩
 walk_at "rd0";refine⟨p,_,_,_,_,rfl,e1,T.Dq,T.Ra,Zo1 _ _ _ _,?_⟩;refine Zy8 (xs:=(nums af).map V.int) (fun i σ H'=>Same H H'∧∃v v',σ=[some (.ref p),some (.int (n:Int)),some (.int ((bits (fun k=>decide (af.getD k 0 &&& n≠0)) i:Nat):Int)),v,v']) ⟨Same.refl _,_,_,rfl⟩ (fun i σ H' _ hp=>SqT.of (hp.1 _ _ e2)) ?_ ?_
 ·rintro i x T' σ H0 H' hx ⟨s1,v,v',rfl⟩ s2 n2 eT
  obtain⟨hi,rfl⟩:=Zrl hx;refine R9 eT ?_;walk_at "";rw[Dw];refine NT (fun h1=>?_) (fun h1=>?_)
  ·walk_at ""
   refine⟨s1.trans s2,some (.int (i:Int)),some (.int ((af.getD i 0:Nat):Int)),?_⟩;rw[ZyR (f:=fun k=>decide (af.getD k 0 &&& n≠0)) (decide_eq_true (by omega))]
   all_goals rfl
  ·walk_at ""
   refine⟨s1.trans s2,some (.int (i:Int)),some (.int ((af.getD i 0:Nat):Int)),?_⟩;rw[ZmN (fun k=>decide (af.getD k 0 &&& n≠0)) i (decide_eq_false (by omega))]
   all_goals rfl
 ·rintro σ H' ⟨s1,v,v',rfl⟩
  rw[Eo];walk_at "";exact q H' s1
theorem Xi (T:Txt K mg t):∀C,isCh t C→MeS P w K mg base 1 C "behind" ["self","crowd"] (spAt (Zpt t) C):=by
 rintro C rfl;exact ZjL T
noncomputable def Zs1:Sp:=fun vs H Q _=>∃(m:Nat) (p:Aa) (b:Bar),vs=[.int (m:Int),.ref p]∧m≤6∧Bl H p b∧b.good∧Q (.int ((Bh (2 ^ m) b:Nat):Int)) H
noncomputable def Jl (i:Nat) (b:Bar) (s:Nat):Bool:=(Cd i).all fun k=>!(b.1.testBit k && (b.2.testBit k != s.testBit k))
theorem Xj (i:Nat) (b:Bar) (s:Nat):Jl (i+1) b s=(Jl i b s && !(b.1.testBit i && (b.2.testBit i != s.testBit i))):=by
 unfold Jl;rw[Yo,List.all_append,List.all_cons,List.all_nil,Hs]
theorem ZrV (b:Bar) (i r j:Nat) (hj:j≤i):Jl j b (2 ^ i+r)=Jl j b r:=by
 unfold Jl;apply GX.mpr;rw[Lb,Lb]
 constructor
 ·intro h k hk
  have:=h k hk;rw[wu (by have:=Es.mp hk; omega)]at this;exact this
 ·intro h k hk
  have:=h k hk;rw[wu (by have:=Es.mp hk; omega)];exact this
theorem ZpU (f:Nat→Bool) (n:Nat):∀m,bits f (n+m)=bits f n ||| (bits (fun r=>f (n+r)) m) <<< n:=fun m=>by
 apply DQ;intro k;rw[Gp,Fv,Gp,Nat.testBit_shiftLeft,Gp]
 by_cases h:k < n
 ·rw[decide_eq_true (show k < n+m by omega),decide_eq_true h,decide_eq_false (show ¬k ≥ n by omega),M5,Rr]
 ·rw[decide_eq_false h,M5,YaT,decide_eq_true (show k ≥ n by omega),Hw,show n+(k - n)=k by omega]
  congr 1
  exact decide_eq_decide.mpr (by omega)
noncomputable def crU (b:Bar) (i:Nat):Nat:=bits (Jl i b) (2 ^ i)
theorem pq {i s:Nat} (h:s < 2 ^ i):s.testBit i=false:=TF h
theorem ZoO {i r:Nat} (h:r < 2 ^ i):(2 ^ i+r).testBit i=true:=by
 rw[YaY,pq h]; rfl
theorem ZxZ (b:Bar) (i:Nat) (f:Bool) (hf:(!(b.1.testBit i && (b.2.testBit i != false)))=f):bits (Jl (i+1) b) (2 ^ i)=if f=true then crU b i else 0:=by
 cases f with
 | true=>exact Lz fun s hs=>by rw[Xj,pq hs,hf,Hs]
 | false=>rw[if_neg Cg,←Vd (2 ^ i)]; exact Lz fun s hs=>by rw[Xj,pq hs,hf,Fw]
theorem ZxY (b:Bar) (i:Nat) (f:Bool) (hf:(!(b.1.testBit i && (b.2.testBit i != true)))=f):bits (fun r=>Jl (i+1) b (2 ^ i+r)) (2 ^ i)=if f=true then crU b i else 0:=by
 cases f with
 | true=>exact Lz fun s hs=>by rw[Xj,ZoO hs,hf,Hs,ZrV b i s i (Ax _)]
 | false=>rw[if_neg Cg,←Vd (2 ^ i)]; exact Lz fun s hs=>by rw[Xj,ZoO hs,hf,Fw]
theorem p6 (b:Bar) (i:Nat):crU b (i+1)=(if (!(b.1.testBit i && (b.2.testBit i != false)))=true then crU b i else 0) ||| (if (!(b.1.testBit i && (b.2.testBit i != true)))=true then crU b i else 0) <<< 2 ^ i:=by
 unfold crU;rw[show 2 ^ (i+1)=2 ^ i+2 ^ i by rw[K9]; omega,ZpU,ZxZ b i _ rfl,ZxY b i _ rfl];rfl
theorem ZtM {b:Bar} {i:Nat} (h:b.1.testBit i=false):crU b (i+1)=crU b i ||| crU b i <<< 2 ^ i:=by
 rw[p6,h]; rfl
theorem Zwr {b:Bar} {i:Nat} (h:b.1.testBit i=true) (h2:b.2.testBit i=true):crU b (i+1)=crU b i <<< 2 ^ i:=by
 rw[p6,h,h2]
 show 0 ||| crU b i <<< 2 ^ i=_
 rw[YcA]
theorem ZtL {b:Bar} {i:Nat} (h:b.1.testBit i=true) (h2:b.2.testBit i=false):crU b (i+1)=crU b i:=by
 rw[p6,h,h2]
 show crU b i ||| 0 <<< 2 ^ i=_
 rw[Nat.zero_shiftLeft,Zk]
theorem Zwq {b:Bar} {m:Nat} (g:b.good) (hm:m≤6) (h:b.2 < 2 ^ m):crU b m=Bh (2 ^ m) b:=by
 unfold crU Bh;refine Lz fun s hs=>?_;apply GX.mpr;rw[Vj];unfold Jl;rw[Lb]
 constructor
 ·intro q k hk hb
  by_cases e:k < m
  ·have:=q k (Es.mpr e)
   rw[hb]at this
   simpa using this
  ·rw[Vk h (by omega),Vk hs (by omega)]
 ·intro q k hk
  have hk:=Es.mp hk
  cases hb:b.1.testBit k with
  | false=>rfl
  | true=>simp[q k (by omega) hb]
theorem ZpW {b:Bar} {m:Nat} (g:b.good) (h : ¬b.2 < 2 ^ m):Bh (2 ^ m) b=0:=by
 unfold Bh;rw[←Vd (2 ^ m)];refine Lz fun s hs=>?_
 cases z:lies s b with
 | false=>rfl
 | true=>
  rw[Vj]at z
  exfalso
  apply h;apply YcF;intro k hk
  cases e:b.2.testBit k with
  | false=>rfl
  | true=>
   have e1:b.1.testBit k=true:=by
    cases e2:b.1.testBit k with
    | true=>rfl
    | false=>rw[Z6 g e2]at e; cases e
   have:=z k (N6 g e1) e1;rw[e,Vk hs hk]at this
   cases this
theorem Zxk (n m:Nat):((n:Int) / 2 ^ ((m:Int)).toNat)=((n / 2 ^ m:Nat):Int):=by simp
theorem Zpp (n m:Nat):(n:Int) * 2 ^ ((m:Int)).toNat=((n <<< m:Nat):Int):=by
 rw[Nat.shiftLeft_eq]; simp
theorem ZvR (s k:Nat):decide (Hl ((s:Int) / 2 ^ ((k:Int)).toNat) 1≠0)=s.testBit k:=by
 rw[Xc]
 cases s.testBit k <;> rfl
theorem dne (i:Int):(!decide (i=0))=decide (i≠0):=by simp
theorem Rc (T:Txt K mg t):FnS P w K mg base 1 "crowd_of" ["many","bar"] (Zs1):=by
 refine⟨_,_,T.Qc.ok Oc (fun vs H Q E h=>?_) (fun _ _ _ _ H vs Q E hr h=>?_),T.ZkT,T.Qc.kp,T.Zk8⟩
 ·obtain⟨m,p,b,rfl,hm,hb,hg,q⟩:=h
  rfl
 refine xE3 h fun m p b h1_=>nE5 h1_ fun e0_ hm hb hg q=>?_;clear h h1_;subst e0_;have hp:=Gh hm
 refine⟨_,(Aj (BJ (CK (Ak Jx (Bm Bu (pv 1) Ah (fun _ _=>rfl)) (pv 0)) (fun _=>rfl))
   (Al (Bb Ah))
   BP)
   (Aj (ss 2 Oc.nd Ah)
   (Aj (Ea Dj rfl (Hy rfl T.B.range (Ac (pv 0) Ag)) (sg 3 Oc.nd)
   (Aj (ss 4 Oc.nd (Ak DW (pv 2) (Ak DW Ah (pv 3))))
   (Al (BJ (DR (CK (Ak Cm (Ak Jx (Bm Bu (pv 1) Ah (fun _ _=>rfl)) (pv 3)) Ah) (fun _=>rfl)))
   (Al (ss 2 Oc.nd (Ak Hb (pv 2) (pv 4))))
   (Al (BJ (CK (Ak Cm (Ak Jx (Bm Bu (pv 1) Ah (fun _ _=>rfl)) (pv 3)) Ah) (fun _=>rfl))
   (Al (ss 2 Oc.nd (pv 4)))
   BP))))))
   (Al (Bb (pv 2)))))),?_⟩
 walk_at "rd0";refine CG hb (v:=.int (b.2:Int)) rfl ?_;walk_at "";rw[Zxk];refine NT (fun h1=>?_) (fun h1=>?_)
 ·walk_at ""
  rw[ZpW hg (fun z=>h1 (by rw[Yb9 z]; rfl))]at q;exact q
 have hlt:b.2 < 2 ^ m:=by
  have e:b.2 / 2 ^ m=0:=by omega
  rcases Nat.div_eq_zero_iff.mp e with z | z
  ·exact absurd z (Hk (Ef m))
  ·exact z
 walk_at "";refine⟨_,rfl,by omega,by omega,?_⟩;rw[Ft];refine JF (fun i σ H'=>H'=H∧∃v v',σ=[some (.int (m:Int)),some (.ref p),some (.int ((crU b i:Nat):Int)),v,v']) ⟨rfl,_,_,rfl⟩ ?_ ?_
 ·rintro i σ H' hi ⟨rfl,v,v',rfl⟩
  have hpi:=Gh (show i≤6 by omega);walk_at "";rw[Eh];refine i_rI ⟨ur _,by omega,?_⟩ ?_
  ·rw[YcE]
   exact Er (JD _ _) (Hq (by decide) hpi)
  walk_at "";refine CG hb (v:=.int (b.1:Int)) rfl ?_;walk_at "";rw[dne,ZvR]
  cases h1:b.1.testBit i with
  | false=>
   refine CN rfl ?_;walk_at "";rw[Zpp,GQ,←ZtM h1];exact⟨rfl,_,_,rfl⟩
  | true=>
   refine Bv rfl ?_;walk_at "";refine CG hb (v:=.int (b.2:Int)) rfl ?_;walk_at "";rw[dne,ZvR];refine Kw (fun h2=>?_) (fun h2=>?_)
   ·walk_at ""
    rw[Zpp,←Zwr h1 h2];exact⟨rfl,_,_,rfl⟩
   ·walk_at ""
    rw[←ZtL h1 h2];exact⟨rfl,_,_,rfl⟩
 ·rintro σ H' ⟨rfl,v,v',rfl⟩
  walk_at "";rw[Zwq hg hm hlt];exact q
noncomputable def Zu0:Sp:=fun vs H Q _=>∃(p q:Aa) (b c:Bar),vs=[.ref p,.ref q]∧Bl H p b∧Bl H q c∧b.good∧c.good∧∀H',Same H H'→Q (.bl (subB b c)) H'
theorem ZnG {b c:Bar} (g:b.good) (g':c.good):(b.1 &&& c.1=c.1∧b.2 &&& c.1=c.2) ↔ subB b c=true:=by
 rw[Z5]
 constructor
 ·rintro⟨h1,h2⟩ k hk hc
  have e1:(b.1 &&& c.1).testBit k=true:=by rw[h1]; exact hc
  rw[Do,hc,Hs]at e1;refine⟨e1,?_⟩;rw[←h2,Do,hc,Hs]
 ·intro h
  constructor
  ·apply DQ
   intro k;rw[Do]
   cases hc:c.1.testBit k with
   | false=>rw[Fw]
   | true=>rw[(h k (N6 g' hc) hc).1]; rfl
  ·apply DQ
   intro k;rw[Do]
   cases hc:c.1.testBit k with
   | false=>rw[Fw,Z6 g' hc]
   | true=>rw[Hs,(h k (N6 g' hc) hc).2]
theorem Zsf (T:Txt K mg t):FnS P w K mg base 1 "within" ["one","other"] (Zu0):=by
 refine⟨_,_,T.Qd.ok ZsN (fun vs H Q E h=>?_) (fun _ _ _ _ H vs Q E hr h=>?_),T.ZoC,T.Qd.kp,T.Zo6⟩
 ·obtain⟨p,p',b,c,rfl,hb,hc,g,g',q⟩:=h
  rfl
 refine xE4 h fun p p' b c h1_=>nE6 h1_ fun e0_ hb hc g g' q=>?_;clear h h1_;subst e0_;refine⟨_,(Al (Bb (Jw (Jf (Dl hr.units) (Ak Cm (Bm Bu (pv 0) Ah (fun _ _=>rfl)) (Bm Bu (pv 1) Ah (fun _ _=>rfl))) (Bm Bu (pv 1) Ah (fun _ _=>rfl)) (Br _)) (Kq (Jf (Dl hr.units) (Ak Cm (Bm Bu (pv 0) Ah (fun _ _=>rfl)) (Bm Bu (pv 1) Ah (fun _ _=>rfl))) (Bm Bu (pv 1) Ah (fun _ _=>rfl)) (Br _)))))),?_⟩;walk_at "rd0";refine CG hb (v:=.int (b.1:Int)) rfl ?_;walk_at "";refine CG hc (v:=.int (c.1:Int)) rfl ?_;walk_at "";refine CG hc (v:=.int (c.1:Int)) rfl ?_;walk_at "";rw[Dw];refine Eg (fun h1=>?_) (fun h1=>?_)
 ·walk_at ""
  refine CG hb (v:=.int (b.2:Int)) rfl ?_;walk_at "";refine CG hc (v:=.int (c.1:Int)) rfl ?_;walk_at "";refine CG hc (v:=.int (c.2:Int)) rfl ?_;walk_at "";rw[Dw]
  have e:decide (((b.2 &&& c.1:Nat):Int)=(c.2:Int))=subB b c:=by
   rw[GX,decide_eq_true_iff,←ZnG g g'];exact⟨fun h=>⟨by omega,by omega⟩,fun h=>by omega⟩
  rw[e];exact q H (Same.refl _)
 ·have e:subB b c=false:=by
   cases z:subB b c with
   | false=>rfl
   | true=>exact absurd ((ZnG g g').mpr z).1 (by omega)
  rw[e]at q;exact q H (Same.refl _)
noncomputable def mayN (af:List Nat) (st held:Nat) (b:Bar) (n:Nat):Bool:=decide (st &&& Bh n b=0) && decide ((behN af (Bh n b) &&& held) - ((behN af (Bh n b) &&& held) &&& Bh n b)=0)
theorem p7 {x:Nat} (h:∀k,x.testBit k=false):x=0:=DQ fun k=>by rw[h k,Fl]
theorem Dz {x y:Nat}:x &&& y=0 ↔ ∀k,x.testBit k=true→y.testBit k=false:=by
 constructor
 ·intro h k hk
  have:(x &&& y).testBit k=false:=by rw[h]; exact Fl k
  rw[Do,hk,Hw]at this;exact this
 ·intro h
  apply p7;intro k;rw[Do]
  cases e:x.testBit k with
  | false=>rfl
  | true=>rw[h k e]; rfl
theorem KR (n:Nat) (b:Bar) (k:Nat):(Bh n b).testBit k=(decide (k < n) && lies k b):=Gp _ _ _
theorem MF (af:List Nat) (c k:Nat):(behN af c).testBit k=(decide (k < af.length) && decide (af.getD k 0 &&& c≠0)):=Gp _ _ _
theorem Zo7 {af:List Nat} {st held n:Nat} {b:Bar} (hl:af.length=n):mayN af st held b n=true ↔
  (∀s,s < n→lies s b=true→st.testBit s=false)∧(∀s,s < n→lies s b=false→held.testBit s=true→∀t,t < n→lies t b=true→(af.getD s 0).testBit t=false):=by
 unfold mayN;rw[DN,decide_eq_true_iff,decide_eq_true_iff]
 constructor
 ·rintro⟨h1,h2⟩
  constructor
  ·intro s hs hb
   cases e:st.testBit s with
   | false=>rfl
   | true=>
    have:=Dz.mp h1 s e;rw[KR,decide_eq_true hs,hb]at this
    cases this
  ·intro s hs hb hh t ht hbt
   have z:((behN af (Bh n b) &&& held) - ((behN af (Bh n b) &&& held) &&& Bh n b)).testBit s=false:=by rw[h2]; exact Fl s
   rw[GD,Do,KR,hb,hh,Fw,Uz,Hs,Hs,MF,decide_eq_true (show s < af.length by omega),Hw]at z
   have z':af.getD s 0 &&& Bh n b=0:=by
    by_cases e:af.getD s 0 &&& Bh n b=0
    ·exact e
    ·rw[decide_eq_true e]at z; cases z
   cases e:(af.getD s 0).testBit t with
   | false=>rfl
   | true=>
    have:=Dz.mp z' t e;rw[KR,decide_eq_true ht,hbt]at this
    cases this
 ·rintro⟨h1,h2⟩
  constructor
  ·refine Dz.mpr fun k hk=>?_
   rw[KR]
   by_cases hn:k < n
   ·cases e:lies k b with
    | false=>rw[Fw]
    | true=>rw[h1 k hn e]at hk; cases hk
   ·rw[decide_eq_false hn]; rfl
  ·apply p7
   intro k;rw[GD,Do,KR,MF,hl]
   by_cases hn:k < n
   ·rw[decide_eq_true hn,Hw,Hw]
    cases e:lies k b with
    | true=>simp
    | false=>
     cases eh:held.testBit k with
     | false=>simp
     | true=>
      have z:af.getD k 0 &&& Bh n b=0:=by
       refine Dz.mpr fun t ht=>?_;rw[KR]
       by_cases htn:t < n
       ·cases el:lies t b with
        | false=>rw[Fw]
        | true=>rw[h2 k hn e eh t htn el]at ht; cases ht
       ·rw[decide_eq_false htn]; rfl
      rw[decide_eq_false (show ¬(af.getD k 0 &&& Bh n b≠0) from fun q=>q z)]; rfl
   ·rw[decide_eq_false hn]; simp
noncomputable def Zz3 (t:Ad):Sp:=fun vs H Q _=>∃(p pb:Aa) (m st bd held:Nat) (af:List Nat) (b:Bar),vs=[.ref p,.int (held:Int),.ref pb]∧Dy t H p m st bd af∧GoodC m st bd af∧Bl H pb b∧b.good∧∀H',Same H H'→Q (.bl (mayN af st held b (2 ^ m))) H'
theorem p8 (T:Txt K mg t):FnS P w K mg base 2 "may_shut" ["chart","held","bar"] ((Zz3 t)):=by
 refine⟨_,_,T.Qp.ok Zka (fun vs H Q E h=>?_) (fun _ _ _ _ H vs Q E hr h=>?_),T.ZkY,T.Qp.kp,T.Zld⟩
 ·obtain⟨p,pb,m,st,bd,held,af,b,rfl,hC,hG,hb,hg,q⟩:=h
  rfl
 refine xE8 h fun p pb m st bd held af b h1_=>nE6 h1_ fun e0_ hC hG hb hg q=>?_;clear h h1_;subst e0_;have Io:=Rc (P:=P) (w:=w) (base:=base) T;have D_behind:=Xi (P:=P) (w:=w) (base:=base) T;have hp:=Gh hG.m6;have ln:=hG.ln;obtain⟨C,dx,fs,ei,hi,lk⟩:=hC.ins "behind" (by decide) (by decide) (by decide) (by decide);obtain⟨dy,tp,c1,c2⟩:=id hC
 refine⟨_,(Aj (ss 3 Zka.nd (Bc Io hr (Ac (Cw (pv 0) rfl) (Ac (pv 2) Ag))))
   (Aj (BJ (CK (Ak Cm (Cw (pv 0) rfl) (pv 3)) (fun _=>rfl))
   (Al (Bb Ej))
   BP)
   (Al (Bb (Jf (Dl hr.units) (Ak Cm (Ak Cm (Fg D_behind hr (pv 0) (Ac (pv 3) Ag)) (pv 1)) (Gy Ih (pv 3))) Ah (Br _)))))),?_⟩
 walk_at "rd0";refine⟨p,_,_,_,_,rfl,c1,T.Dq,T.GK,HH _ _ _ _,?_⟩;walk_at "";refine⟨m,pb,b,rfl,hG.m6,hb,hg,?_⟩;walk_at "";refine⟨p,_,_,_,_,rfl,c1,T.Dq,T.JV,SX _ _ _ _,?_⟩;walk_at "";rw[Dw];refine NT (fun h1=>?_) (fun h1=>?_)
 ·walk_at ""
  have e:mayN af st held b (2 ^ m)=false:=by
   unfold mayN;rw[decide_eq_false (show ¬st &&& Bh (2 ^ m) b=0 by omega)]; rfl
  rw[e]at q;exact q H (Same.refl _)
 ·walk_at ""
  refine⟨p,C,dx,fs,rfl,ei,hi,lk,?_⟩;walk_at "";refine⟨ei,p,_,_,_,af,_,rfl,hC,by omega,fun H1 s1=>?_⟩;walk_at "";rw[Dw,Hg]
  have e:decide ((((behN af (Bh (2 ^ m) b) &&& held) - ((behN af (Bh (2 ^ m) b) &&& held) &&& Bh (2 ^ m) b):Nat):Int)=0)=mayN af st held b (2 ^ m):=by
   unfold mayN;rw[decide_eq_true (show st &&& Bh (2 ^ m) b=0 by omega),Hw];exact decide_eq_decide.mpr (by omega)
  rw[e];exact q H1 s1
noncomputable def kB (b:Bar):List Key:=[J2 (b.1:Int),J2 (b.2:Int)]
noncomputable def lvK (L:List (Bar×Nat)):List (List Key×V):=L.map fun p=>(kB p.1,V.int (p.2:Int))
noncomputable def HJ (c d l:Aa):List (Str×V):=putF "crowds" (.ref l) (putF "levels" (.ref d) (putF "base" (.ref c) []))
structure FrP (t:Ad) (H:Hp) (p dx c d l:Aa) (o:Obj) (m st bd:Nat) (af:List Nat) (L:List (Bar×Nat)) (cr:List Nat):Prop where
 ob:H p=some (.ins t.Bw dx (HJ c d l))
 ch:Dy t H c m st bd af
 lv:H d=some (.dT (lvK L))
 cw:H l=some (.lst ((nums cr).map V.int))
theorem S5 (c d l:Aa):(HJ c d l).lookup ("base" : Str)=some (.ref c):=by
 unfold HJ;rw[Dv,if_neg (by decide),Dv,if_neg (by decide),Dv,if_pos rfl]
theorem Xk (c d l:Aa):(HJ c d l).lookup ("levels" : Str)=some (.ref d):=by
 unfold HJ;rw[Dv,if_neg (by decide),Dv,if_pos rfl]
theorem JZ (c d l:Aa):(HJ c d l).lookup ("crowds" : Str)=some (.ref l):=by
 unfold HJ;rw[Dv,if_pos rfl]
def isFr (t:Ad) (C:Aa):Prop:=C=t.Bw
theorem DG (c d l:Aa) (f:Str) (h1 : ¬f = "crowds") (h2 : ¬f = "levels") (h3 : ¬f = "base"):(HJ c d l).lookup f=none:=by
 unfold HJ;rw[Dv,if_neg h1,Dv,if_neg h2,Dv,if_neg h3];rfl
noncomputable def Zv4 (t:Ad):Sp:=fun vs H Q _=>∃(p dx c d l:Aa) (o:Obj) (m st bd:Nat) (af:List Nat) (L:List (Bar×Nat)) (cr:List Nat),vs=[.ref p]∧FrP t H p dx c d l o m st bd af L cr∧Q (.int ((cr.length:Int) - 1)) H
theorem ZkF (T:Txt K mg t):MeS P w K mg base 1 t.Bw "last" ["self"] (spAt (Zv4 t) t.Bw):=by
 refine⟨T.CW,_,_,T.QV.ok ZkK (fun vs H Q E h=>?_) (fun _ _ _ _ H vs Q E hr h=>?_),T.Zha,T.Zhp⟩
 ·obtain⟨⟨p,dx,c,d,l,o,m,st,bd,af,L,cr,rfl,_⟩,_⟩:=h
  rfl
 replace h:=h.1;refine xE12 h fun p dx c d l o m st bd af L cr h1_=>nE3 h1_ fun e0_ F q=>?_;clear h h1_;subst e0_;refine⟨_,(Al (Bb (Ak Hz (CV Fp rfl T.B.len Fo (Ac (Cw (pv 0) rfl) Ag)) Ah))),?_⟩;walk_at "rd0";refine⟨p,_,_,_,_,rfl,F.ob,T.CW,T.Hd,JZ _ _ _,?_⟩;have cw:=F.cw;walk_at "";rw[Eo];exact q
theorem Rf (T:Txt K mg t):∀C,isFr t C→MeS P w K mg base 1 C "last" ["self"] (spAt (Zv4 t) C):=by
 rintro C rfl;exact ZkF T
noncomputable def ZsY (t:Ad):Sp:=fun vs H Q _=>∃(p dx c d l:Aa) (o:Obj) (m st bd:Nat) (af:List Nat) (L:List (Bar×Nat)) (cr:List Nat) (k f:Nat),vs=[.ref p,.int (k:Int),.int (f:Int)]∧FrP t H p dx c d l o m st bd af L cr∧f≤k∧k < cr.length∧Q .non H
theorem ZjM (T:Txt K mg t):MeS P w K mg base 2 t.Bw "check" ["self","k","first"] (spAt (ZsY t) t.Bw):=by
 refine⟨T.CW,_,_,T.QW.ok Zj6 (fun vs H Q E h=>?_) (fun _ _ _ _ H vs Q E hr h=>?_),T.ZgH,T.ZgN⟩
 ·obtain⟨⟨p,dx,c,d,l,o,m,st,bd,af,L,cr,k,f,rfl,_⟩,_⟩:=h
  rfl
 replace h:=h.1;refine xE14 h fun p dx c d l o m st bd af L cr k f h1_=>nE5 h1_ fun e0_ F hfk hk q=>?_;clear h h1_;subst e0_;have D_last:=Rf (P:=P) (w:=w) (base:=base) T
 refine⟨_,(Al (BJ (PW.pt (Gx (BV Kr (pv 1) (pv 2) (Br _)) (Hx (BV Lx (pv 1) (Jh D_last hr (pv 0)) (Br _)))))
   (Al Zpj)
   BP)),?_⟩
 walk_at "rd0";refine Bv (decide_eq_false (by omega)) ?_;walk_at "";refine⟨p,_,_,_,rfl,F.ob,rfl,DG _ _ _ _ (by decide) (by decide) (by decide),?_⟩;walk_at "";refine⟨F.ob,p,dx,c,d,l,o,m,st,bd,af,L,cr,rfl,F,?_⟩;walk_at "";refine Bv (decide_eq_false (by omega)) ?_;walk_at "";exact q
theorem Xl (T:Txt K mg t):∀C,isFr t C→MeS P w K mg base 2 C "check" ["self","k","first"] (spAt (ZsY t) C):=by
 rintro C rfl;exact ZjM T
noncomputable def Zpu (t:Ad):Sp:=fun vs H Q _=>∃(p dx c d l:Aa) (o:Obj) (m st bd:Nat) (af:List Nat) (L:List (Bar×Nat)) (cr:List Nat) (k:Nat),vs=[.ref p,.int (k:Int)]∧FrP t H p dx c d l o m st bd af L cr∧k < cr.length∧Q (.int ((cr.getD k 0:Nat):Int)) H
theorem ZjN (T:Txt K mg t):MeS P w K mg base 3 t.Bw "crowd" ["self","k"] (spAt (Zpu t) t.Bw):=by
 refine⟨T.CW,_,_,T.QX.ok Zj7 (fun vs H Q E h=>?_) (fun _ _ _ _ H vs Q E hr h=>?_),T.ZgI,T.ZgO⟩
 ·obtain⟨⟨p,dx,c,d,l,o,m,st,bd,af,L,cr,k,rfl,_⟩,_⟩:=h
  rfl
 replace h:=h.1;refine xE13 h fun p dx c d l o m st bd af L cr k h1_=>nE4 h1_ fun e0_ F hk q=>?_;clear h h1_;subst e0_;have D_check:=Xl (P:=P) (w:=w) (base:=base) T
 refine⟨_,(Aj (Ek (Fg D_check hr (pv 0) (Ac (pv 1) (Ac Ah Ag))))
   (Al (Bb (Bm Bu (Cw (pv 0) rfl) (pv 1) (fun _ _=>rfl))))),?_⟩
 walk_at "rd0";refine⟨p,_,_,_,rfl,F.ob,rfl,DG _ _ _ _ (by decide) (by decide) (by decide),?_⟩;walk_at "";refine⟨F.ob,p,dx,c,d,l,o,m,st,bd,af,L,cr,k,0,rfl,F,Cy _,hk,?_⟩;walk_at "";refine⟨p,_,_,_,_,rfl,F.ob,T.CW,T.Hd,JZ _ _ _,?_⟩;walk_at "";exact Dk F.cw (Ez hk) q
theorem qb (T:Txt K mg t):∀C,isFr t C→MeS P w K mg base 3 C "crowd" ["self","k"] (spAt (Zpu t) C):=by
 rintro C rfl;exact ZjN T
def Zu3 (H':Hp) (r:Aa) (bs:List Bar):Prop:=∃ps bs',H' r=some (.lst (ps.map V.ref))∧Bd (Bl H') ps bs'∧bs'.Perm bs∧(bs'.map ib).Pairwise ple
noncomputable def Xm (t:Ad) (f:Nat→Nat→Bool):Sp:=fun vs H Q _=>∃(p dx c d l:Aa) (o:Obj) (m st bd:Nat) (af:List Nat) (L:List (Bar×Nat)) (cr:List Nat) (k:Nat),vs=[.ref p,.int (k:Int)]∧FrP t H p dx c d l o m st bd af L cr∧1≤k∧k < cr.length∧L.length < 3000∧
 ∀H' r,Same H H'→H r=none→Zu3 H' r ((L.filter fun q=>f q.2 k).map (·.1))→Q (.ref r) H'
theorem ZiR {H:Hp} {ps:List Aa} {bs:List Bar} {p:Aa} {b:Bar} (h:Bd (Bl H) ps bs) (e:Bl H p b):Bd (Bl H) (ps++[p]) (bs++[b]):=Rt h e
theorem qd {L:List (Bar×Nat)} {i:Nat} {k:List Key} {v:V} (h:(lvK L)[i]?=some (k,v)):∃b n,L[i]?=some (b,n)∧k=kB b∧v=.int (n:Int):=by
 unfold lvK at h;rw[CQ]at h
 cases e:L[i]? with
 | none=>rw[e]at h; cases h
 | some q=>
  rw[e]at h
  cases h
  exact⟨q.1,q.2,rfl,rfl,rfl⟩
theorem Zyn {a b:Bar} (h:ib a=ib b):a=b:=by
 unfold ib at h;have h1:=(UJ h).1;have h2:=(UJ h).2;exact Iz (by omega) (by omega)
theorem Zhf {H:Hp} {ps ps':List Aa} {bs:List Bar} {ks':List (Int×Int)} (h':Bd (Ex H) ps' ks') (hpp:ps'.Perm ps) (h:Bd (Bl H) ps bs):∃bs',Bd (Bl H) ps' bs'∧ks'=bs'.map ib:=by
 have all:∀p∈ps,∃b,Bl H p b:=fun p hp=>by
  obtain⟨i,hi⟩:=Ig.mp hp;obtain⟨b,_,hb⟩:=Hf h hi;exact⟨b,hb⟩
 have go:∀{qs:List Aa} {ks:List (Int×Int)},Bd (Ex H) qs ks→(∀p∈qs,∃b,Bl H p b)→∃bs',Bd (Bl H) qs bs'∧ks=bs'.map ib:=by
  intro qs ks hq
  induction hq with
  | nil=>intro _; exact⟨[],.nil,rfl⟩
  | @cons q k _ _ r _ ih=>
   intro ha;obtain⟨b,hb⟩:=ha _ Ec;obtain⟨bs',h1,h2⟩:=ih fun p hp=>ha p (Et _ hp);refine⟨b::bs',.cons hb h1,?_⟩;have e:some (HO.tup _)=some (HO.tup _):=r.symm.trans hb
   have:k=ib b:=by
    simp only [YdI,HO.tup.injEq,yu,V.int.injEq,and_true]at e;exact Iz e.1 e.2
   rw[Cv,←h2,this]
 exact go h' fun p hp=>all p (hpp.mem_iff.mp hp)
theorem ZjW {a b:List Bar} (h:(a.map ib).Perm (b.map ib)):a.Perm b:=by
 have inv:∀x:Bar,(fun k:Int×Int=>((k.1.toNat,k.2.toNat):Bar)) (ib x)=x:=fun x=>rfl;have:=h.map (fun k:Int×Int=>((k.1.toNat,k.2.toNat):Bar));rw[Ie,Ie]at this
 have e:∀l:List Bar,l.map ((fun k:Int×Int=>((k.1.toNat,k.2.toNat):Bar)) ∘ ib)=l:=fun l=>by
  rw[show((fun k:Int×Int=>((k.1.toNat,k.2.toNat):Bar)) ∘ ib)=id from funext inv,map_id]
 rwa [e,e]at this
theorem ZkE (T:Txt K mg t):MeS P w K mg base 3 t.Bw "bars" ["self","k"] (spAt (Xm t (fun n k=>decide (k≤n))) t.Bw):=by
 refine⟨T.CW,_,_,T.QZ.ok ZkI (fun vs H Q E h=>?_) (fun _ _ _ _ H vs Q E hr h=>?_),T.Zg8,T.Zho⟩
 ·obtain⟨⟨p,dx,c,d,l,o,m,st,bd,af,L,cr,k,rfl,_⟩,_⟩:=h
  rfl
 replace h:=h.1;refine xE13 h fun p dx c d l o m st bd af L cr k h1_=>nE6 h1_ fun e0_ F hk1 hk h64 q=>?_;clear h h1_;subst e0_;have D_check:=Xl (P:=P) (w:=w) (base:=base) T
 have hlv:(lvK L).length=L.length:=by unfold lvK; rw[Az]
 refine⟨_,(Aj (Ek (Fg D_check hr (pv 0) (Ac (pv 1) (Ac Ah Ag))))
   (Al (Zpk (Bb (CV Zk0 rfl T.B.sorted ZV (Ac (Zpg (sc:=Bf VD) (N:=["self","k"]) (ns:=["k"]) (ix:=[1]) rfl rfl (by decide +kernel) rfl (c7 (dg (Cw (pv 0) rfl))) (fun _ _ _ _=>(R6 (BV ZzX (pv 1) (pv 2) (Br _)))) (fun _ _ _ _=>(pv 0))) Ag)))))),?_⟩
 walk_at "rd0";refine⟨p,_,_,_,rfl,F.ob,rfl,DG _ _ _ _ (by decide) (by decide) (by decide),?_⟩;walk_at "";refine⟨F.ob,p,dx,c,d,l,o,m,st,bd,af,L,cr,k,1,rfl,F,hk1,hk,?_⟩;walk_at "";refine⟨p,_,_,_,_,rfl,F.ob,T.CW,T.JT,Xk _ _ _,?_⟩;refine⟨d,lvK L,rfl,F.lv,fun o1=>?_⟩;have hf:(upd H d (.frz o1 (.dT (lvK L)))) d=some (.frz o1 (.dT (lvK L))):=Cp;have b0:But d H (upd H d (.frz o1 (.dT (lvK L)))):=JH;generalize upd H d (.frz o1 (.dT (lvK L)))=H0 at hf b0 ⊢;refine⟨d,o1,lvK L,rfl,hf,?_⟩;refine ZoF (fun i ys H'=>∃ps:List Aa,ys=ps.map V.ref∧Bd (Bl H') ps (((L.take i).filter fun q=>(fun n k=>decide (k≤n)) q.2 k).map (·.1))) hf (by omega) (fun _=>⟨[],rfl,.nil⟩) ?_ ?_ ?_
 ·rintro i ys H' H'' ht ⟨ps,rfl,hp⟩
  exact⟨ps,rfl,Dm (fun p b e=>ht _ _ e) hp⟩
 ·rintro i ky v b ys acc H' hkv s1 hacc ea hb ⟨ps,rfl,hp⟩ hyl R kk
  obtain⟨br,n,hL,rfl,rfl⟩:=qd hkv;simp only [subS,Cv,Fe];walk_at "";refine kk _ H' (Same.refl _) (fun h=>⟨ps,rfl,?_⟩) fun h R2 k2=>?_
  ·rw[Gr hL,Ld,Le,show(fun n k=>decide (k≤n)) n k=false by simpa using h]
   simpa using hp
  ·walk_at ""
   refine k2 _ H' (Same.refl _) ⟨ps++[b],by rw[Dh]; rfl,?_⟩;rw[Gr hL,Ld,Le,show(fun n k=>decide (k≤n)) n k=true by simpa using h,if_pos rfl,T4,Dh];exact ZiR hp hb
 ·rintro acc ys H' n1 s1 e1 ⟨ps,rfl,hp⟩
  rw[hlv,Ib]at hp;walk_at "";have hpl:=En hp
  have hfl:((L.filter fun q=>(fun n k=>decide (k≤n)) q.2 k).map (·.1)).length≤L.length:=by rw[Az]; exact Ny _ _
  refine⟨acc,ps,_,rfl,SqL.of e1,KN hp,by omega,fun l' ps' ks' hp' hpp hkp hs hl'=>?_⟩;obtain⟨bs',hb',rfl⟩:=Zhf hp' hpp hp;have ed:=s1 _ _ hf;have nld:l'≠d:=(Cj ed hl').symm;refine⟨d,o1,lvK L,by rw[Bo nld.symm]; exact ed,fun o u z=>(by rw[F.lv]at z; cases z),?_⟩;refine q _ l' (fun b u e=>?_) ?_ ⟨ps',bs',(by rw[Bo nld]; exact Cp),?_,?_,hs⟩
  ·by_cases hbd:b=d
   ·subst hbd
    rw[Cp,←F.lv,e]
   ·have z:=s1 _ _ (b0 _ _ hbd e)
    rw[Bo hbd,Bo (Cj z hl')];exact z
  ·cases e:H l' with
   | none=>rfl
   | some u=>rw[s1 _ _ (b0 _ _ nld e)]at hl'; cases hl'
  ·exact Dm (fun p b e=>by
    have hpd:p≠d:=BZ e ed (by intro z; cases z);show(upd (upd H' l' _) d _) p=_;rw[Bo hpd,Bo (Cj e hl')]
    exact e) hb'
  ·exact ZjW hkp
theorem Zmx (T:Txt K mg t):∀C,isFr t C→MeS P w K mg base 3 C "bars" ["self","k"] (spAt (Xm t (fun n k=>decide (k≤n))) C):=by
 rintro C rfl;exact ZkE T
theorem Zl5 (T:Txt K mg t):MeS P w K mg base 3 t.Bw "own" ["self","k"] (spAt (Xm t (fun n k=>decide (n=k))) t.Bw):=by
 refine⟨T.CW,_,_,T.Q0.ok Zml (fun vs H Q E h=>?_) (fun _ _ _ _ H vs Q E hr h=>?_),T.ZiA,T.ZiJ⟩
 ·obtain⟨⟨p,dx,c,d,l,o,m,st,bd,af,L,cr,k,rfl,_⟩,_⟩:=h
  rfl
 replace h:=h.1;refine xE13 h fun p dx c d l o m st bd af L cr k h1_=>nE6 h1_ fun e0_ F hk1 hk h64 q=>?_;clear h h1_;subst e0_;have D_check:=Xl (P:=P) (w:=w) (base:=base) T
 have hlv:(lvK L).length=L.length:=by unfold lvK; rw[Az]
 refine⟨_,(Aj (Ek (Fg D_check hr (pv 0) (Ac (pv 1) (Ac Ah Ag))))
   (Al (Zpk (Bb (CV Zk0 rfl T.B.sorted ZV (Ac (Zpg (sc:=Bf VF) (N:=["self","k"]) (ns:=["k"]) (ix:=[1]) rfl rfl (by decide +kernel) rfl (c7 (dg (Cw (pv 0) rfl))) (fun _ _ _ _=>(R6 (BV (Dl hr.units) (pv 1) (pv 2) (Br _)))) (fun _ _ _ _=>(pv 0))) Ag)))))),?_⟩
 walk_at "rd0";refine⟨p,_,_,_,rfl,F.ob,rfl,DG _ _ _ _ (by decide) (by decide) (by decide),?_⟩;walk_at "";refine⟨F.ob,p,dx,c,d,l,o,m,st,bd,af,L,cr,k,1,rfl,F,hk1,hk,?_⟩;walk_at "";refine⟨p,_,_,_,_,rfl,F.ob,T.CW,T.JT,Xk _ _ _,?_⟩;refine⟨d,lvK L,rfl,F.lv,fun o1=>?_⟩;have hf:(upd H d (.frz o1 (.dT (lvK L)))) d=some (.frz o1 (.dT (lvK L))):=Cp;have b0:But d H (upd H d (.frz o1 (.dT (lvK L)))):=JH;generalize upd H d (.frz o1 (.dT (lvK L)))=H0 at hf b0 ⊢;refine⟨d,o1,lvK L,rfl,hf,?_⟩;refine ZoF (fun i ys H'=>∃ps:List Aa,ys=ps.map V.ref∧Bd (Bl H') ps (((L.take i).filter fun q=>(fun n k=>decide (n=k)) q.2 k).map (·.1))) hf (by omega) (fun _=>⟨[],rfl,.nil⟩) ?_ ?_ ?_
 ·rintro i ys H' H'' ht ⟨ps,rfl,hp⟩
  exact⟨ps,rfl,Dm (fun p b e=>ht _ _ e) hp⟩
 ·rintro i ky v b ys acc H' hkv s1 hacc ea hb ⟨ps,rfl,hp⟩ hyl R kk
  obtain⟨br,n,hL,rfl,rfl⟩:=qd hkv;simp only [subS,Cv,Fe];walk_at "";refine kk _ H' (Same.refl _) (fun h=>⟨ps,rfl,?_⟩) fun h R2 k2=>?_
  ·rw[Gr hL,Ld,Le,show(fun n k=>decide (n=k)) n k=false from decide_eq_false fun z=>by subst z; simp at h]
   simpa using hp
  ·walk_at ""
   refine k2 _ H' (Same.refl _) ⟨ps++[b],by rw[Dh]; rfl,?_⟩;rw[Gr hL,Ld,Le,show(fun n k=>decide (n=k)) n k=true from decide_eq_true (Int.ofNat.inj (by simpa using h)),if_pos rfl,T4,Dh];exact ZiR hp hb
 ·rintro acc ys H' n1 s1 e1 ⟨ps,rfl,hp⟩
  rw[hlv,Ib]at hp;walk_at "";have hpl:=En hp
  have hfl:((L.filter fun q=>(fun n k=>decide (n=k)) q.2 k).map (·.1)).length≤L.length:=by rw[Az]; exact Ny _ _
  refine⟨acc,ps,_,rfl,SqL.of e1,KN hp,by omega,fun l' ps' ks' hp' hpp hkp hs hl'=>?_⟩;obtain⟨bs',hb',rfl⟩:=Zhf hp' hpp hp;have ed:=s1 _ _ hf;have nld:l'≠d:=(Cj ed hl').symm;refine⟨d,o1,lvK L,by rw[Bo nld.symm]; exact ed,fun o u z=>(by rw[F.lv]at z; cases z),?_⟩;refine q _ l' (fun b u e=>?_) ?_ ⟨ps',bs',(by rw[Bo nld]; exact Cp),?_,?_,hs⟩
  ·by_cases hbd:b=d
   ·subst hbd
    rw[Cp,←F.lv,e]
   ·have z:=s1 _ _ (b0 _ _ hbd e)
    rw[Bo hbd,Bo (Cj z hl')];exact z
  ·cases e:H l' with
   | none=>rfl
   | some u=>rw[s1 _ _ (b0 _ _ nld e)]at hl'; cases hl'
  ·exact Dm (fun p b e=>by
    have hpd:p≠d:=BZ e ed (by intro z; cases z);show(upd (upd H' l' _) d _) p=_;rw[Bo hpd,Bo (Cj e hl')]
    exact e) hb'
  ·exact ZjW hkp
theorem Ztu (T:Txt K mg t):∀C,isFr t C→MeS P w K mg base 3 C "own" ["self","k"] (spAt (Xm t (fun n k=>decide (n=k))) C):=by
 rintro C rfl;exact Zl5 T
noncomputable def Ip (b:Bar):List Nat:=(Cd 6).filter fun k=>b.1.testBit k
noncomputable def vi (k:Nat):V:=.int (k:Int)
theorem Zw1 (l:List Nat):(nums l).map V.int=l.map vi:=by unfold nums; rw[Ie]; rfl
theorem ZtI {n:Nat} (h:n < 64):(Cd (Lp (n:Int))).filter (fun k=>n.testBit k)=(Cd 6).filter (fun k=>n.testBit k)∧Lp (n:Int)≤6:=by
 have z:∀n:Fin 64,(Cd (Lp ((n.val:Nat):Int))).filter (fun k=>n.val.testBit k)=(Cd 6).filter (fun k=>n.val.testBit k)∧Lp ((n.val:Nat):Int)≤6:=by decide +kernel
 exact z ⟨n,h⟩
noncomputable def ZsX:Sp:=fun vs H Q _=>∃(p:Aa) (b:Bar),vs=[.ref p]∧Bl H p b∧b.1 < 64∧∀l H',Same H H'→H l=none→H' l=some (.lst ((Ip b).map vi))→Q (.ref l) H'
theorem ZjP (T:Txt K mg t):FnS P w K mg base 1 "asked_by" ["bar"] (ZsX):=by
 refine⟨_,_,T.Qe.ok Zol (fun vs H Q E h=>?_) (fun _ _ _ _ H vs Q E hr h=>?_),T.ZkS,T.Qe.kp,T.Zk7⟩
 ·obtain⟨p,b,rfl,hb,h64,q⟩:=h
  rfl
 refine xE2 h fun p b h1_=>nE4 h1_ fun e0_ hb h64 q=>?_;clear h h1_;subst e0_;obtain⟨ef,hl6⟩:=ZtI h64;refine⟨_,(Al (Bb (N5 (sc:=Bf Vw) (N:=["bar"]) (ns:=["bar"]) (ix:=[0]) rfl rfl (by decide +kernel) rfl (Hy rfl T.B.range (Ac (R0 YcG YcH YcI ZhD (Bm Bu (pv 0) Ah (fun _ _=>rfl))) Ag)) (fun _ _ _ _=>(R6 (ZsA (K:=K) rfl (Ak Cm (Ak Jx (Bm (R7 (K:=K) rfl) (pv 1) Ah (fun _ _=>rfl)) (pv 0)) Ah) (fun _=>rfl)))) (fun _ _ _ _=>(pv 0))))),?_⟩;walk_at "rd0";refine CG hb (v:=.int (b.1:Int)) rfl ?_;walk_at "";refine⟨_,rfl,by omega,by omega,?_⟩;rw[Ft];refine ZpV (fun k=>b.1.testBit k) (by omega) ?_ ?_ ?_
 ·intro i H' hi s1 R k
  simp only [subS,Cv,Fe];walk_at "";refine CG (s1 _ _ hb) (v:=.int (b.1:Int)) rfl ?_;walk_at "";rw[ZrX];exact k H' (Same.refl _)
 ·intro i H' hi s1 R k
  simp only [subS,Cv,Fe];walk_at "";exact k H' (Same.refl _)
 ·intro l H' n1 s1 e1
  rw[ef,Zw1]at e1;exact q l H' s1 n1 e1
noncomputable def Zta:Sp:=fun vs H Q _=>∃(p:Aa) (b:Bar) (k:Nat),vs=[.ref p,.int (k:Int)]∧k≤6∧Bl H p b∧∀p' H',Same H H'→H p'=none→Bl H' p' (b.wo k)→Q (.ref p') H'
theorem Zlg (T:Txt K mg t):FnS P w K mg base 1 "without" ["bar","lamp"] (Zta):=by
 refine⟨_,_,T.Qf.ok Zlj (fun vs H Q E h=>?_) (fun _ _ _ _ H vs Q E hr h=>?_),T.ZmI,T.Qf.kp,T.Znd⟩
 ·obtain⟨p,b,k,rfl,hk,hb,q⟩:=h
  rfl
 refine xE3 h fun p b k h1_=>nE4 h1_ fun e0_ hk hb q=>?_;clear h h1_;subst e0_;have hp:=Gh hk
 refine⟨_,(Aj (ss 2 Zlj.nd (Gy Ih (Ak DW Ah (pv 1))))
   (Al (Bb (Ge (Ac (Ak Cm (Bm Bu (pv 0) Ah (fun _ _=>rfl)) (pv 2)) (Ac (Ak Cm (Bm Bu (pv 0) Ah (fun _ _=>rfl)) (pv 2)) Ag)))))),?_⟩
 walk_at "rd0";rw[Eh];refine CG hb (v:=.int (b.1:Int)) rfl ?_;walk_at "";refine CG hb (v:=.int (b.2:Int)) rfl ?_;walk_at "";rw[Hg,Hg];exact Gf (Ln rfl) fun p' H' s1 n1 e1=>q p' H' s1 n1 e1
theorem wo1 (b:Bar) (k j:Nat):(b.wo k).1.testBit j=(b.1.testBit j && !decide (k=j)):=Zkf _ _ _
theorem wo2 (b:Bar) (k j:Nat):(b.wo k).2.testBit j=(b.2.testBit j && !decide (k=j)):=Zkf _ _ _
theorem MJ {b:Bar} (g:b.good) (k:Nat):(b.wo k).good:=by
 constructor
 ·exact Kh (Nat.sub_le _ _) g.1
 ·apply DQ
  intro j;rw[Do,wo1,wo2]
  cases e:b.1.testBit j with
  | true=>simp
  | false=>rw[Z6 g e]; rfl
theorem Xn {b:Bar} (g:b.good) {k:Nat}:k∈Ip b ↔ b.1.testBit k=true:=by
 unfold Ip;rw[Fj,Es];exact⟨fun h=>h.2,fun h=>⟨N6 g h,h⟩⟩
def Less (b f:Bar):Prop:=(∀k,f.1.testBit k=true→b.1.testBit k=true)∧f.2=b.2 &&& f.1
theorem Rg {b:Bar} (g:b.good):Less b b:=⟨fun _ h=>h,g.2.symm⟩
theorem S6 {b f:Bar} (h:Less b f) (k:Nat):Less b (f.wo k):=by
 refine⟨fun j hj=>h.1 j ?_,?_⟩
 ·rw[wo1,DN]at hj; exact hj.1
 ·apply DQ
  intro j;rw[wo2,Do,wo1,h.2,Do,Bool.and_assoc]
theorem qe {b:Bar} {k:Nat} (h:b.1.testBit k=true):(b.wo k).1 < b.1:=by
 have e:(b.wo k).1≤b.1:=Nat.sub_le _ _
 rcases Uw e with z | z
 ·exact z
 ·have:=wo1 b k k
  rw[z,h,decide_eq_true rfl]at this
  cases this
noncomputable def Zzi (t:Ad):Sp:=fun vs H Q _=>∃(p pb:Aa) (m st bd held:Nat) (af:List Nat) (b:Bar),vs=[.ref p,.int (held:Int),.ref pb]∧Dy t H p m st bd af∧GoodC m st bd af∧Bl H pb b∧b.good∧
 (∀H' p' k,Same H H'→b.1.testBit k=true→Bl H' p' (b.wo k)→mayN af st held (b.wo k) (2 ^ m)=true→Q (.ref p') H')∧(∀H',Same H H'→(∀k,b.1.testBit k=true→mayN af st held (b.wo k) (2 ^ m)=false)→Q .non H')
theorem ZgZ (T:Txt K mg t):FnS P w K mg base 3 "without_one_lamp" ["chart","held","bar"] ((Zzi t)):=by
 refine⟨_,_,T.Qq.ok mj (fun vs H Q E h=>?_) (fun _ _ _ _ H vs Q E hr h=>?_),T.Zeu,T.Qq.kp,T.ZeG⟩
 ·obtain⟨p,pb,m,st,bd,held,af,b,rfl,hC,hG,hb,hg,q1,q2⟩:=h
  rfl
 refine xE8 h fun p pb m st bd held af b h1_=>nE7 h1_ fun e0_ hC hG hb hg q1 q2=>?_;clear h h1_;subst e0_;have qg:=ZjP (P:=P) (w:=w) (base:=base) T;have qi:=Zlg (P:=P) (w:=w) (base:=base) T;have S7:=p8 (P:=P) (w:=w) (base:=base) T
 refine⟨_,(Aj (Ea Dj rfl (HB (Bc qg hr (Ac (pv 2) Ag))) (sg 3 mj.nd)
   (Aj (ss 4 mj.nd (Bc qi hr (Ac (pv 2) (Ac (pv 3) Ag))))
   (Al (BJ (CK (Bc S7 hr (Ac (pv 0) (Ac (pv 1) (Ac (pv 4) Ag)))) (fun _=>rfl))
   (Al (Bb (pv 4)))
   BP))))
   (Al (Bb G8))),?_⟩
 walk_at "rd0";refine⟨pb,b,rfl,hb,hg.1,fun l H1 s1 n1 e1=>?_⟩;refine seqL (xs:=(Ip b).map vi) (fun i σ H'=>Same H1 H'∧(∀j k,j < i→(Ip b)[j]?=some k→mayN af st held (b.wo k) (2 ^ m)=false)∧∃v v',σ=[some (.ref p),some (.int (held:Int)),some (.ref pb),v,v']) ⟨Same.refl _,fun j k hj=>absurd hj (IW _),_,_,rfl⟩ (fun i σ H' _ hp=>SqL.of (hp.1 _ _ e1)) ?_ ?_
 ·rintro i x σ H' hx ⟨sm,hk,v,v',rfl⟩
  obtain⟨k,rfl,hki⟩ : ∃k:Nat,x=.int (k:Int)∧(Ip b)[i]?=some k:=by
   rw[CQ]at hx
   cases e:(Ip b)[i]? with
   | none=>rw[e]at hx; cases hx
   | some k=>rw[e]at hx; exact⟨k,(De hx).symm,rfl⟩
  have hbk:=(Xn hg).mp (Df hki);have hk6:k < 6:=N6 hg hbk;walk_at "";refine⟨pb,b,k,rfl,by omega,sm _ _ (s1 _ _ hb),fun f2 H2 s2 n2 e2=>?_⟩;walk_at "";refine⟨p,f2,m,st,bd,held,af,b.wo k,rfl,hC.mono (Ext.of (s1.trans (sm.trans s2))),hG,e2,MJ hg k,fun H3 s3=>?_⟩;walk_at "";refine Kw (fun h1=>?_) (fun h1=>?_)
  ·walk_at ""
   exact q1 H3 f2 k (s1.trans (sm.trans (s2.trans s3))) hbk (s3 _ _ e2) h1
  ·walk_at ""
   refine⟨sm.trans (s2.trans s3),fun j k' hj hkj=>?_,_,_,rfl⟩
   by_cases e:j=i
   ·subst e
    rw[hki]at hkj
    cases hkj
    exact h1
   ·exact hk j k' (by omega) hkj
 ·rintro σ H' ⟨sm,hk,v,v',rfl⟩
  walk_at "";refine q2 H' (s1.trans sm) fun k hb'=>?_;obtain⟨j,hj⟩:=Ig.mp ((Xn hg).mpr hb');exact hk j k (by rw[Az]; exact(Cr.mp hj).1) hj
noncomputable def Zs9 (t:Ad):Sp:=fun vs H Q E=>∃(p pb:Aa) (m st bd held:Nat) (af:List Nat) (b:Bar),vs=[.ref p,.int (held:Int),.ref pb]∧Dy t H p m st bd af∧GoodC m st bd af∧Bl H pb b∧b.good∧
 (mayN af st held b (2 ^ m)=false→∀H',Same H H'→E (.ref t.GJ) none H')∧
 (mayN af st held b (2 ^ m)=true→∀H' p' f,Same H H'→Bl H' p' f→f.good→Less b f→mayN af st held f (2 ^ m)=true→(∀k,f.1.testBit k=true→mayN af st held (f.wo k) (2 ^ m)=false)→Q (.ref p') H')
def WInv (p pb:Aa) (m st held:Nat) (af:List Nat) (b:Bar) (H:Hp) (n:Nat) (σ:St) (H':Hp):Prop:=∃f0 b0 v,Same H H'∧Bl H' f0 b0∧b0.good∧Less b b0∧mayN af st held b0 (2 ^ m)=true∧
 ((v=V.non∧∀k,b0.1.testBit k=true→mayN af st held (b0.wo k) (2 ^ m)=false)∨(∃f1 k,v=.ref f1∧b0.1.testBit k=true∧Bl H' f1 (b0.wo k)∧mayN af st held (b0.wo k) (2 ^ m)=true))∧n=b0.1∧σ=[some (.ref p),some (.int (held:Int)),some (.ref pb),some (.ref f0),some v]
theorem ZnF {p pb:Aa} {m st bd held:Nat} {af:List Nat} {b:Bar} {H:Hp} {Q:VK} {nx:St→Hp→Prop} (hC:Dy t H p m st bd af) (hG:GoodC m st bd af)
  (fin:∀H' p' f,Same H H'→Bl H' p' f→f.good→Less b f→mayN af st held f (2 ^ m)=true→(∀k,f.1.testBit k=true→mayN af st held (f.wo k) (2 ^ m)=false)→Q (.ref p') H') :
  ∀(n:Nat) (σ:St) (H':Hp),WInv p pb m st held af b H n σ H'→(U8 (tOp (fun x y H Q=>y=V.non∧Q (V.bl !decide (x=V.non)) H) (tVar 4) (tC V.non))) σ H' fun c H1=>
   if c=true then ∃N:St→Hp→Prop,(∀σ' H',N σ' H'→∃m',m' < n∧WInv p pb m st held af b H m' σ' H')∧
    (tSeq (tAsg (tVar 4) (G9 3)) (tAsg (tFn (Zzi t) (Jz (tVar 0) (Jz (tVar 1) (Jz (tVar 3) tNil)))) (G9 4))) { nx:=N,rt:=Q,ct:=N,bk:=tRet (tVar 3) { nx:=nx,rt:=Q } } σ H1
   else tRet (tVar 3) { nx:=nx,rt:=Q } σ H1:=by
 rintro n σ H' ⟨f0,b0,v,sm,hf0,hg0,hL,hm1,hv,rfl,rfl⟩;walk_at "";refine⟨rfl,?_⟩
 rcases hv with⟨rfl,hw⟩ | ⟨f1,k1,rfl,hk1,hf1,hm2⟩
 ·walk_at ""
  refine Bv rfl ?_;walk_at "";exact fin H' f0 b0 sm hf0 hg0 hL hm1 hw
 ·walk_at ""
  refine CN rfl ?_;refine⟨fun σ' H''=>∃m',m' < b0.1∧WInv p pb m st held af b H m' σ' H'',fun σ' H'' h=>h,?_⟩;walk_at "";refine⟨p,f1,m,st,bd,held,af,b0.wo k1,rfl,hC.mono (Ext.of sm),hG,hf1,MJ hg0 k1,?_,?_⟩
  ·intro H3 f3 k3 s3 hk3 hf3 hm3
   walk_at "";exact⟨_,qe hk1,f1,b0.wo k1,_,sm.trans s3,s3 _ _ hf1,MJ hg0 k1,S6 hL k1,hm2,.inr ⟨f3,k3,rfl,hk3,hf3,hm3⟩,rfl,rfl⟩
  ·intro H3 s3 hw3
   walk_at "";exact⟨_,qe hk1,f1,b0.wo k1,_,sm.trans s3,s3 _ _ hf1,MJ hg0 k1,S6 hL k1,hm2,.inl ⟨rfl,hw3⟩,rfl,rfl⟩
theorem Zql (T:Txt K mg t):FnS1 P w K mg base 4 "widened" ["chart","held","bar"] ((Zs9 t)):=by
 refine⟨_,_,T.Qs.ok1 Sv (fun vs H Q E h=>?_) (fun _ _ _ _ H vs Q E hr h=>?_),T.ZmH,T.Qs.kp,T.Znc⟩
 ·obtain⟨p,pb,m,st,bd,held,af,b,rfl,hC,hG,hb,hg,q1,q2⟩:=h
  rfl
 refine xE8 h fun p pb m st bd held af b h1_=>nE7 h1_ fun e0_ hC hG hb hg q1 q2=>?_;clear h h1_;subst e0_;have Zer:=ZgZ (P:=P) (w:=w) (base:=base) T;have S7:=p8 (P:=P) (w:=w) (base:=base) T
 refine⟨_,(Aj (BJ (PT.nox (DR (CK (Bc S7 hr (Ac (pv 0) (Ac (pv 1) (Ac (pv 2) Ag)))) (fun _=>rfl))))
   (Al (cj rfl cg T.m9.own rfl T.m7 (PA.nox (Ac Gd Ag))))
   (PSs.nox BP))
   (PSs.nox (Aj (ss 3 Sv.nd (pv 2))
   (Aj (ss 4 Sv.nd (Bc Zer hr (Ac (pv 0) (Ac (pv 1) (Ac (pv 3) Ag)))))
   (Aj (Lw Dj (BV U4 (pv 4) G8 (Br _))
   (Aj (ss 3 Sv.nd (pv 4))
   (Al (ss 4 Sv.nd (Bc Zer hr (Ac (pv 0) (Ac (pv 1) (Ac (pv 3) Ag))))))))
   (Al (Bb (pv 3)))))))),?_⟩
 walk_at "rd0";refine⟨p,pb,m,st,bd,held,af,b,rfl,hC,hG,hb,hg,fun H1 s1=>?_⟩;walk_at "";refine Kw (fun h1=>?_) (fun h1=>?_)
 ·refine ZrB ?_
  walk_at "";exact⟨by decide,q1 (by simpa using h1) H1 s1⟩
 have hm0:mayN af st held b (2 ^ m)=true:=by simpa using h1
 walk_at "";refine⟨p,pb,m,st,bd,held,af,b,rfl,hC.mono (Ext.of s1),hG,s1 _ _ hb,hg,?_,?_⟩
 ·intro H2 f k s2 hk hf hmay
  walk_at "";refine⟨fun n σ H'=>WInv p pb m st held af b H n σ H',⟨_,pb,b,_,s1.trans s2,s2 _ _ (s1 _ _ hb),hg,Rg hg,hm0,.inr ⟨f,k,rfl,hk,hf,hmay⟩,rfl,rfl⟩,?_⟩;exact ZnF hC hG (q2 hm0)
 ·intro H2 s2 hw
  walk_at "";refine⟨fun n σ H'=>WInv p pb m st held af b H n σ H',⟨_,pb,b,_,s1.trans s2,s2 _ _ (s1 _ _ hb),hg,Rg hg,hm0,.inl ⟨rfl,hw⟩,rfl,rfl⟩,?_⟩;exact ZnF hC hG (q2 hm0)
noncomputable def Zxr:Sp:=fun vs H Q _=>∃c:Nat,vs=[.int (c:Int)]∧0 < c∧Q (.int ((lowN c:Nat):Int)) H
theorem S8 (T:Txt K mg t):FnS P w K mg base 1 "least" ["crowd"] (Zxr):=by
 refine⟨_,_,T.P0.ok ZuN (fun vs H Q E h=>?_) (fun _ _ _ _ H vs Q E hr h=>?_),T.ZqV,T.P0.kp,T.Zr4⟩
 ·obtain⟨c,rfl,hc,q⟩:=h
  rfl
 obtain⟨c,rfl,hc,q⟩:=h;refine⟨_,(Al (Bb (Ak Hz (R0 YcG YcH YcI ZhD (Ak Cm (pv 0) (Gy Zt (pv 0)))) Ah))),?_⟩;walk_at "rd0";rw[ZwX hc];exact q
noncomputable def Zxo:Sp:=fun vs H Q _=>∃(m s:Nat),vs=[.int (m:Int),.int (s:Int)]∧m≤6∧∀p H',Same H H'→H p=none→Bl H' p (2 ^ m - 1,s)→Q (.ref p) H'
theorem Zsd (T:Txt K mg t):FnS P w K mg base 1 "bar_of" ["many","stand"] (Zxo):=by
 refine⟨_,_,T.Qa.ok ZsM (fun vs H Q E h=>?_) (fun _ _ _ _ H vs Q E hr h=>?_),T.ZoA,T.Qa.kp,T.Zo4⟩
 ·obtain⟨m,n,rfl,hm,q⟩:=h
  rfl
 obtain⟨m,n,rfl,hm,q⟩:=h;refine⟨_,(Al (Bb (Ge (Ac (Ak Hz (Ak DW Ah (pv 0)) Ah) (Ac (pv 1) Ag))))),?_⟩;walk_at "rd0";rw[Eh];have h1:1≤2 ^ m:=Yan
 have e:((2 ^ m:Nat):Int) - 1=((2 ^ m - 1:Nat):Int):=by omega
 rw[e];exact Gf (Ln rfl) fun p H' s1 n1 e1=>q p H' s1 n1 e1
end
theorem ZuC {a b:Int×Int} (h:ple a b) (k:ple b a):a=b:=by
 unfold ple at h k;exact Iz (by omega) (by omega)
theorem ZsU {a b:List Bar} (ha:(a.map ib).Pairwise ple) (hb:(b.map ib).Pairwise ple) (h:a.Perm b):a=b:=by
 have e:=List.Perm.eq_of_pairwise (fun x y _ _=>ZuC) ha hb (h.map ib)
 exact YcJ (f:=ib) (fun x y h=>Zyn h) |>.mp e
end LW
open PySem L2
namespace LW
open PySem L2 EM
open List (any_map any_nil map_id map_set)
theorem MK {t u:TS} {D:Ends} {σ:St} {H:Hp} (Pn:St→Hp→Prop) (h2:∀σ H,Pn σ H→u D σ H) (h1:∀Kn:St→Hp→Prop,(∀σ H,Pn σ H→Kn σ H)→t { D with nx:=Kn } σ H):tSeq t u D σ H:=h1 (u D) h2
section
variable {P:Ay} {w:Av} {K:Ao} {mg:Str→Option Ab} {base:Ar} {t:Ad}
theorem KY (c:Int) (m:Nat):∃a:Nat,c % ((2 ^ m:Nat):Int)=(a:Int)∧a < 2 ^ m:=by
 have h0:0 < 2 ^ m:=Ef m;have h1:=Yb6 c (show((2 ^ m:Nat):Int)≠0 by omega);have h2:=Yb7 c (show(0:Int) < ((2 ^ m:Nat):Int) by omega);exact⟨(c % ((2 ^ m:Nat):Int)).toNat,by omega,by omega⟩
theorem ZuT (af:List Nat) (k v:Nat):((nums af).map V.int).set k (.int (v:Int))=(nums (af.set k v)).map V.int:=by
 unfold nums;rw[map_set,map_set]
theorem Xo {af:List Nat} {B k:Nat} (h:∀x∈af,x < B) (hB:0 < B):af.getD k 0 < B:=by
 rw[Cz]
 cases e:af[k]? with
 | none=>exact hB
 | some x=>exact h x (Df e)
structure AF (l:Aa) (af:List Nat) (m:Nat) (H:Hp):Prop where
 fl:H l=some (.lst ((nums af).map V.int))
 len:af.length=2 ^ m
 bd:∀x∈af,x < 2 ^ 2 ^ m
section
variable {σ:St} {H:Hp}
theorem Xp {p C dx:Aa} {fs:List (Str×V)} {f:Str} {y:V} {R:Hp→Prop} (h:H p=some (.ins C dx fs)) (c:Cls K C) (n:Fy K C f) (z:fs.length < 1000) (k:∀H',But p H H'→H' p=some (.ins C dx (putF f y fs))→R H') :
  ∃a C dx fs,(V.ref p)=.ref a∧H a=some (.ins C dx fs)∧Cls K C∧Fy K C f∧fs.length < 1000∧R (upd H a (.ins C dx (putF f y fs))):=⟨p,C,dx,fs,rfl,h,c,n,z,k _ JH Cp⟩
theorem ZvM {Q:VK} (k:∀d H',Same H H'→H d=none→H' d=some (.dT [])→Q (.ref d) H'):Zv9 σ H Q:=fun d hd=>k d _ (GC hd _) hd Cp
theorem Xq {td ty tv:TE} {D:Ends} (h:tv σ H fun v H1=>td σ H1 fun x H2=>ty σ H2 fun y H3=>∃a H4,x=.ref a∧DPut H3 a y v H4∧D.nx σ H4):Zy6 td ty tv D σ H:=h
theorem qj {d b:Aa} {kvs:List (List Key×V)} {k:List Key} {v:V} {R:Hp→Prop} (e:H d=some (.dT kvs)) (eb:H b=some (.tup (k.map kV))) (z:kvs.length < 3000) (q:∀H',But d H H'→H' d=some (.dT (putK kvs k v))→R H'):∃a H4,(V.ref d)=.ref a∧DPut H a (.ref b) v H4∧R H4:=
 ⟨d,_,rfl,DPut.t e eb (Vg (by omega)),q _ JH Cp⟩
end
def OffD (p l d:Aa) (H H':Hp):Prop:=∀b u,b≠p→b≠l→b≠d→H b=some u→H' b=some u
theorem OffD.trans {p l d:Aa} {H H1 H2:Hp} (a:OffD p l d H H1) (b:OffD p l d H1 H2):OffD p l d H H2:=fun c u h1 h2 h3 e=>b c u h1 h2 h3 (a c u h1 h2 h3 e)
theorem OffD.of {p l d:Aa} {H H1:Hp} (a:Same H H1):OffD p l d H H1:=fun c u _ _ _ e=>a c u e
theorem OffD.l {p l d:Aa} {H H1:Hp} (a:But l H H1):OffD p l d H H1:=fun c u _ h _ e=>a c u h e
theorem FrP.same {H H':Hp} {p dx c d l:Aa} {o:Obj} {m st bd:Nat} {af:List Nat} {L:List (Bar×Nat)} {cr:List Nat} (F:FrP t H p dx c d l o m st bd af L cr) (s:Same H H'):FrP t H' p dx c d l o m st bd af L cr:=
 ⟨s _ _ F.ob,F.ch.mono (Ext.of s),s _ _ F.lv,s _ _ F.cw⟩
theorem FrP.cut {H H':Hp} {p dx c d l:Aa} {o:Obj} {m st bd:Nat} {af:List Nat} {L:List (Bar×Nat)} {cr cr':List Nat} (F:FrP t H p dx c d l o m st bd af L cr) (b:But l H H') (e:H' l=some (.lst ((nums cr').map V.int))):FrP t H' p dx c d l o m st bd af L cr':=
 ⟨b _ _ (BZ F.ob F.cw (by intro z; cases z)) F.ob,F.ch.mono (b.ext F.cw),b _ _ (BZ F.lv F.cw (by intro z; cases z)) F.lv,e⟩
noncomputable def HN (cr:List Nat) (c j:Nat):List Nat:=cr.set j (cr.getD j 0 - (cr.getD j 0 &&& c))
noncomputable def cutC (cr:List Nat) (c:Nat):Nat→List Nat
 | 0=>cr
 | i+1=>HN (cutC cr c i) c (i+1)
theorem Jm (cr:List Nat) (c:Nat):∀i,(cutC cr c i).length=cr.length
 | 0=>rfl
 | i+1=>by
  unfold cutC HN;rw[vp];exact Jm cr c i
noncomputable def Zv7 (t:Ad):Sp:=fun vs H Q _=>∃(p dx c d l:Aa) (o:Obj) (m st bd:Nat) (af:List Nat) (L:List (Bar×Nat)) (cr:List Nat) (j:Nat) (pb:Aa) (b:Bar),vs=[.ref p,.int (j:Int),.ref pb]∧FrP t H p dx c d l o m st bd af L cr∧m≤6∧j < cr.length∧Bl H pb b∧b.good∧
 ∀H',But l H H'→H' l=some (.lst ((nums (HN cr (Bh (2 ^ m) b) j)).map V.int))→Q .non H'
theorem ZhE (T:Txt K mg t):MeS P w K mg base 3 t.Bw "take_out" ["self","number","bar"] (spAt (Zv7 t) t.Bw):=by
 refine⟨T.CW,_,_,T.Q4.ok ZhR (fun vs H Q E h=>?_) (fun _ _ _ _ H vs Q E hr h=>?_),T.Ze2,T.Ze7⟩
 ·obtain⟨⟨p,dx,c,d,l,o,m,st,bd,af,L,cr,j,pb,b,rfl,_⟩,_⟩:=h
  rfl
 replace h:=h.1;refine xE15 h fun p dx c d l o m st bd af L cr j pb b h1_=>nE7 h1_ fun e0_ F hm hj hb hg q=>?_;clear h h1_;subst e0_;have Io:=Rc (P:=P) (w:=w) (base:=base) T;obtain⟨dy,tp,c1,c2⟩:=id F.ch;refine⟨_,(Al (ZyW (Ak Cm (Bm Bu (Cw (pv 0) rfl) (pv 1) (fun _ _=>rfl)) (Gy Ih (Bc Io hr (Ac (Cw (Cw (pv 0) rfl) rfl) (Ac (pv 2) Ag))))) (ZyV (Cw (pv 0) rfl) (pv 1) ZuS))),?_⟩;walk_at "rd0";refine⟨p,_,_,_,_,rfl,F.ob,T.CW,T.Hd,JZ _ _ _,?_⟩;walk_at "";refine Dk F.cw (Ez hj) ?_;walk_at "";refine⟨p,_,_,_,_,rfl,F.ob,T.CW,T.JS,S5 _ _ _,?_⟩;walk_at "";refine⟨c,_,_,_,_,rfl,c1,T.Dq,T.GK,HH _ _ _ _,?_⟩;walk_at "";refine⟨m,pb,b,rfl,hm,hb,hg,?_⟩;walk_at "";rw[Hg];refine⟨p,_,_,_,_,rfl,F.ob,T.CW,T.Hd,JZ _ _ _,?_⟩;walk_at "";refine ZzR F.cw (by rw[Eo]; exact hj) fun H1 b1 e1=>?_;rw[ZuT]at e1;exact q H1 b1 e1
theorem Zg4 (T:Txt K mg t):∀C,isFr t C→MeS P w K mg base 3 C "take_out" ["self","number","bar"] (spAt (Zv7 t) C):=by
 rintro C rfl;exact ZhE T
noncomputable def Zze (t:Ad):Sp:=fun vs H Q _=>∃(p dx c d l:Aa) (o:Obj) (m st bd:Nat) (af:List Nat) (L:List (Bar×Nat)) (cr:List Nat),vs=[.ref p]∧FrP t H p dx c d l o m st bd af L cr∧m≤6∧cr.length < 3000∧
 ∀H',But l H H'→H' l=some (.lst ((nums (cr++[2 ^ 2 ^ m - 1])).map V.int))→Q .non H'
theorem ZgW (T:Txt K mg t):MeS P w K mg base 3 t.Bw "add_frame" ["self"] (spAt (Zze t) t.Bw):=by
 refine⟨T.CW,_,_,T.Q5.ok Zg1 (fun vs H Q E h=>?_) (fun _ _ _ _ H vs Q E hr h=>?_),T.Zes,T.ZeD⟩
 ·obtain⟨⟨p,dx,c,d,l,o,m,st,bd,af,L,cr,rfl,_⟩,_⟩:=h
  rfl
 replace h:=h.1;refine xE12 h fun p dx c d l o m st bd af L cr h1_=>nE5 h1_ fun e0_ F hm hn q=>?_;clear h h1_;subst e0_;have SQ:=o7 (P:=P) (w:=w) (base:=base) T;obtain⟨dy,tp,c1,c2⟩:=id F.ch;refine⟨_,(Al (Ek (Ku Ja Kd Ls Jg (Cw (pv 0) rfl) (Ac (Bc SQ hr (Ac (Cw (Cw (pv 0) rfl) rfl) Ag)) Ag)))),?_⟩;walk_at "rd0";refine⟨p,_,_,_,_,rfl,F.ob,T.CW,T.Hd,JZ _ _ _,?_⟩;have cw:=F.cw;walk_at "";refine⟨tyL cw,?_⟩;walk_at "";refine⟨p,_,_,_,_,rfl,F.ob,T.CW,T.JS,S5 _ _ _,?_⟩;walk_at "";refine⟨c,_,_,_,_,rfl,c1,T.Dq,T.GK,HH _ _ _ _,?_⟩;walk_at "";refine⟨m,rfl,hm,?_⟩;walk_at "";refine Ky cw (by rw[Eo]; omega) fun H1 b1 e1=>?_;rw[←KQ]at e1;exact q H1 b1 e1
theorem Zkk (T:Txt K mg t):∀C,isFr t C→MeS P w K mg base 3 C "add_frame" ["self"] (spAt (Zze t) C):=by
 rintro C rfl;exact ZgW T
noncomputable def Zs3 (t:Ad):Sp:=fun vs H Q _=>∃(p dx c:Aa) (m st bd:Nat) (af:List Nat),vs=[.ref p,.ref c]∧H p=some (.ins t.Bw dx [])∧Dy t H c m st bd af∧m≤6∧
 ∀d l o H',But p H H'→H d=none→H l=none→FrP t H' p dx c d l o m st bd af [] [st,2 ^ 2 ^ m - 1]→Q .non H'
theorem Zsb (T:Txt K mg t):MkS P w K mg base 3 "Frames" t.Bw ["self","chart"] (Zs3 t):=by
 refine⟨T.Zo2,_,_,T.ZoW,T.SJ.ok ZkJ (fun vs H Q E h=>?_) (fun _ _ _ _ H vs Q E hr h=>?_),T.Zg9⟩
 ·obtain⟨p,dx,c,m,st,bd,af,rfl,_⟩:=h
  rfl
 refine xE7 h fun p dx c m st bd af h1_=>nE5 h1_ fun e0_ hp0 hC hm q=>?_;clear h h1_;subst e0_;have SQ:=o7 (P:=P) (w:=w) (base:=base) T;have z1:=Rb "base" (.ref c) [];rw[G3]at z1;obtain⟨dy,tp,c1,c2⟩:=id hC
 have cp:c≠p:=fun z=>by
  rw[z,hp0]at c1;have e:=(HO.ins.inj (De c1)).2.2;have:=HH (m:Int) (st:Int) (bd:Int) tp;rw[←e]at this
  cases this
 have tpp:tp≠p:=BZ c2 hp0 (by intro z; cases z)
 refine⟨_,(Aj (Ks (pv 0) (pv 1) rfl)
   (Aj (Ks (pv 0) Zph rfl)
   (Al (Ks (pv 0) (JB (Ac (Cw (pv 1) rfl) (Ac (Bc SQ hr (Ac (Cw (pv 1) rfl) Ag)) Ag))) rfl)))),?_⟩
 walk_at "rd0";refine Xp hp0 T.CW T.JS (by decide) fun H1 b1 e1=>?_;walk_at "";refine ZvM fun d H2 s2 n2 e2=>?_;have z2:=Rb "levels" (.ref d) (putF "base" (.ref c) []);walk_at "";have dp:d≠p:=DX (Cj e1 n2);refine Xp (s2 _ _ e1) T.CW T.JT (by omega) fun H3 b3 e3=>?_;have e4:=b3 _ _ dp e2;have k4:∀b u,b≠p→H b=some u→H3 b=some u:=fun b u hb e=>b3 _ _ hb (s2 _ _ (b1 _ _ hb e));have hp4:=e3;have c4:=k4 _ _ cp c1;walk_at "";refine⟨c,_,_,_,_,rfl,c4,T.Dq,T.JV,SX _ _ _ _,?_⟩;walk_at "";refine⟨c,_,_,_,_,rfl,c4,T.Dq,T.GK,HH _ _ _ _,?_⟩;walk_at "";refine⟨m,rfl,hm,?_⟩;walk_at "";refine JG (Ln rfl) fun l H5 s5 n5 e5=>?_;walk_at "";refine Xp (s5 _ _ hp4) T.CW T.Hd (by omega) fun H6 b6 e6=>?_;have lp:l≠p:=DX (Cj hp4 n5)
 have hd:H d=none:=by
  cases e:H d with
  | none=>rfl
  | some u=>rw[b1 _ _ dp e]at n2; cases n2
 have hl:H l=none:=by
  cases e:H l with
  | none=>rfl
  | some u=>rw[k4 _ _ lp e]at n5; cases n5
 have k6:But p H H6:=fun b u hb e=>b6 _ _ hb (s5 _ _ (k4 _ _ hb e));exact q d l { cls:=.none,data:=.fields #[] } H6 k6 hd hl ⟨e6,⟨dy,tp,k6 _ _ cp c1,k6 _ _ tpp c2⟩,b6 _ _ dp (s5 _ _ e4),b6 _ _ lp e5⟩
theorem ZtX {c:Aa} {m st bd:Nat} {af:List Nat} {H:Hp} {Q:VK} (hC:Dy t H c m st bd af) (hm:m≤6) (h:∀(p dx d l:Aa) (o:Obj) (H':Hp),Same H H'→H p=none→H l=none→H d=none→p≠l→FrP t H' p dx c d l o m st bd af [] [st,2 ^ 2 ^ m - 1]→Q (.ref p) H') :
  MkG t.Bw (Zs3 t) [.ref c] H Q:=by
 intro x dx hx hdx ne;have s2:=Zns hx hdx (.ins t.Bw dx []) (.own x);refine⟨x,dx,c,m,st,bd,af,rfl,Cp,hC.mono (Ext.of s2),hm,fun d l o H' s3 hd hl F=>⟨rfl,?_⟩⟩;refine h x dx d l o H' (fun b u e=>s3 b u (Cj e hx) (s2 b u e)) hx ?_ ?_ (BZ F.ob F.cw (by intro z; cases z)) F
 ·cases e:H l with
  | none=>rfl
  | some u=>rw[s2 _ _ e]at hl; cases hl
 ·cases e:H d with
  | none=>rfl
  | some u=>rw[s2 _ _ e]at hd; cases hd
noncomputable def HQ (L:List (Bar×Nat)) (k:Nat) (b:Bar):Bool:=L.any fun q=>decide (k≤q.2) && subB b q.1
noncomputable def Gi (L:List (Bar×Nat)) (k:Nat) (b:Bar):List (Bar×Nat):=L.filter fun q=>decide (k < q.2) || !subB q.1 b
noncomputable def Fz (L:List (Bar×Nat)) (k:Nat) (b:Bar):List (Bar×Nat):=Gi L k b++[(b,k)]
theorem ZnA (b:Bar):subB b b=true:=Z5.mpr fun _ _ h=>⟨h,rfl⟩
theorem ZvN {a b:Bar} (h:kB a=kB b):a=b:=by
 simp only [kB,yu,J2.injEq,and_true]at h;exact Iz (by omega) (by omega)
theorem Zv1 {M:List (Bar×Nat)} {b:Bar} {n:Nat} (h:∀q∈M,q.1≠b):putK (lvK M) (kB b) (.int (n:Int))=lvK (M++[(b,n)]):=by
 unfold putK;rw[if_neg]
 ·unfold lvK; rw[Dh]; rfl
 ·intro z
  rw[Gn]at z;obtain⟨x,hx,e⟩:=z;unfold lvK at hx;obtain⟨q,hq,rfl⟩:=DY.mp hx;exact h q hq (ZvN (of_decide_eq_true e))
theorem Zum {L:List (Bar×Nat)} (h:(L.map (·.1)).Nodup) {i:Nat} {b:Bar} {n:Nat} (e:L[i]?=some (b,n)):∀q∈L.take i,q.1≠b:=by
 intro q hq z;obtain⟨j,hj⟩:=Ig.mp hq
 have hji:j < i:=by
  have:=(Cr.mp hj).1;rw[Fb]at this;omega
 rw[Yce,if_pos hji]at hj
 have e1:(L.map (·.1))[j]?=some b:=by rw[CQ,hj,←z]; rfl
 have e2:(L.map (·.1))[i]?=some b:=by rw[CQ,e]; rfl
 have hjl:=(Cr.mp e1).1;have:=(UL hjl h).mp (e1.trans e2.symm);omega
theorem Xr (L:List (Bar×Nat)):(lvK L).length=L.length:=by unfold lvK; rw[Az]
theorem Zpa {L:List (Bar×Nat)} {k:Nat} {b:Bar} (h:HQ L k b=false):∀q∈Gi L k b,q.1≠b:=by
 intro q hq z;unfold Gi at hq;obtain⟨h1,h2⟩:=Fj.mp hq;rw[z,ZnA,G7,Rr,decide_eq_true_iff]at h2
 have:HQ L k b=true:=by
  unfold HQ;rw[Gn];exact⟨q,h1,by rw[z,ZnA,Hs]; exact decide_eq_true (by omega)⟩
 rw[h]at this
 cases this
theorem Zqq (c d d' l:Aa):putF "levels" (.ref d') (HJ c d l)=HJ c d' l:=by
 unfold HJ;rfl
noncomputable def Zv6 (t:Ad):Sp:=fun vs H Q E=>∃(p dx c d l:Aa) (o:Obj) (m st bd:Nat) (af:List Nat) (L:List (Bar×Nat)) (cr:List Nat) (k:Nat) (pb:Aa) (b:Bar),vs=[.ref p,.int (k:Int),.ref pb]∧FrP t H p dx c d l o m st bd af L cr∧GoodC m st bd af∧1≤k∧k < cr.length∧cr.length < 3000∧L.length < 3000∧
 (∀q∈L,q.1.good)∧(L.map (·.1)).Nodup∧Bl H pb b∧b.good∧
 (mayN af st (cr.getD (k - 1) 0) b (2 ^ m)=false→∀H',Same H H'→E (.ref t.GJ) none H')∧
 (mayN af st (cr.getD (k - 1) 0) b (2 ^ m)=true→HQ L k b=true→∀H',Same H H'→Q .non H')∧
 (mayN af st (cr.getD (k - 1) 0) b (2 ^ m)=true→HQ L k b=false→∀d' o' H',H d'=none→OffD p l d H H'→FrP t H' p dx c d' l o' m st bd af (Fz L k b) (cutC cr (Bh (2 ^ m) b) k)→Q .non H')
abbrev IvJ p d d' pb k b (L:List (Bar×Nat)) o1 H i (σ:St) H':=But d H H'∧H' d=some (.frz o1 (.dT (lvK L)))∧H' d'=some (.dT (lvK (Gi (L.take i) k b)))∧∃v4 v5,σ=[some (.ref p),some (.int (k:Int)),some (.ref pb),some (.ref d'),v4,v5,none]
abbrev IvK (t:Ad) p dx c d d' l o m st bd af k pb b L cr H i (σ:St) H':=OffD p l d H H'∧FrP t H' p dx c d' l o m st bd af (Fz L k b) (cutC cr (Bh (2 ^ m) b) i)∧∃v4 v5 v6,σ=[some (.ref p),some (.int (k:Int)),some (.ref pb),some (.ref d'),v4,v5,v6]
theorem ZkH (T:Txt K mg t):MeS1 P w K mg base 5 t.Bw "shut" ["self","k","bar"] (spAt (Zv6 t) t.Bw):=by
 refine⟨T.CW,_,_,T.Q3.ok1 Sw (fun vs H Q E h=>?_) (fun _ _ _ _ H vs Q E hr h=>?_),T.Zhc,T.Zhr⟩
 ·obtain⟨⟨p,dx,c,d,l,o,m,st,bd,af,L,cr,k,pb,b,rfl,_⟩,_⟩:=h
  rfl
 replace h:=h.1;refine xE15 h fun p dx c d l o m st bd af L cr k pb b h1_=>nE14 h1_ fun e0_ F hG hk1 hk hcl h64 hgL hnd hb hg qE qC qN=>?_;clear h h1_;subst e0_;have S7:=p8 (P:=P) (w:=w) (base:=base) T;have Zox:=Zsf (P:=P) (w:=w) (base:=base) T;have D_check:=Xl (P:=P) (w:=w) (base:=base) T;have D_bars:=Zmx (P:=P) (w:=w) (base:=base) T;have D_take_out:=Zg4 (P:=P) (w:=w) (base:=base) T
 refine⟨_,(Aj (PS.nox (Ek (Fg D_check hr (pv 0) (Ac (pv 1) (Ac Ah Ag)))))
   (Aj (BJ (PT.nox (DR (CK (Bc S7 hr (Ac (Cw (pv 0) rfl) (Ac (Bm Bu (Cw (pv 0) rfl) (Ak Hz (pv 1) Ah) (fun _ _=>rfl)) (Ac (pv 2) Ag)))) (fun _=>rfl))))
   (Al (cj rfl cg T.m9.own rfl T.m7 (PA.nox (Ac Gd Ag))))
   (PSs.nox BP))
   (PSs.nox (Aj (BJ (CK (CV (Zq1 rfl) rfl T.B.any ZxT (Ac (N5 (sc:=Bf VG) (N:=["self","k","bar","stay","other","level","number"]) (ns:=["bar"]) (ix:=[2]) rfl rfl (by decide +kernel) rfl (HB (Fg D_bars hr (pv 0) (Ac (pv 1) Ag))) (fun _ _ _ _=>R5) (fun _ _ _ _=>(Bc Zox hr (Ac (pv 1) (Ac (pv 0) Ag))))) Ag)) (fun _=>rfl))
   (Al Zxd)
   BP)
   (Aj (ss 3 Sw.nd Zph)
   (Aj (Ea Dj rfl (c7 (dg (Cw (pv 0) rfl))) (RX rfl (Je (sg 4 Sw.nd) (Je (sg 5 Sw.nd) RW)))
   (Al (BJ (PW.pt (Gx (BV Lx (pv 5) (pv 1) (Br _)) (Hx (DR (CK (Bc Zox hr (Ac (pv 4) (Ac (pv 2) Ag))) (fun _=>rfl))))))
   (Al (ZJ (Kh (Ug (by decide) _) hr.units) (pv 3) (pv 4) (pv 5) rfl))
   BP)))
   (Aj (ZJ (Kh (Ug (by decide) _) hr.units) (pv 3) (pv 2) (pv 1) rfl)
   (Aj (Ks (pv 0) (pv 3) rfl)
   (Al (Ea Dj rfl (UW rfl T.B.range (Ac Ah (Ac (Ak Em (pv 1) Ah) Ag))) (sg 6 Sw.nd)
   (Al (Ek (Fg D_take_out hr (pv 0) (Ac (pv 6) (Ac (pv 2) Ag))))))))))))))),?_⟩
 walk_at "rd0";refine⟨p,_,_,_,rfl,F.ob,rfl,DG _ _ _ _ (by decide) (by decide) (by decide),?_⟩;walk_at "";refine⟨F.ob,p,dx,c,d,l,o,m,st,bd,af,L,cr,k,1,rfl,F,hk1,hk,?_⟩;walk_at "";refine⟨p,_,_,_,_,rfl,F.ob,T.CW,T.JS,S5 _ _ _,?_⟩;walk_at "";refine⟨p,_,_,_,_,rfl,F.ob,T.CW,T.Hd,JZ _ _ _,?_⟩;walk_at "";rw[show((k:Int) - 1)=((k - 1:Nat):Int) by omega];refine Dk F.cw (Ez (by omega)) ?_;walk_at "";refine⟨c,pb,m,st,bd,_,af,b,rfl,F.ch,hG,hb,hg,fun H1 s1=>?_⟩;walk_at ""
 cases hmay:mayN af st (cr.getD (k - 1) 0) b (2 ^ m) with
 | false=>
  refine CN rfl ?_;walk_at "";exact⟨by decide,qE hmay H1 s1⟩
 | true=>
  refine Bv rfl ?_;have F1:=F.same s1;walk_at "";refine⟨p,_,_,_,rfl,F1.ob,rfl,DG _ _ _ _ (by decide) (by decide) (by decide),?_⟩;walk_at "";refine⟨F1.ob,p,dx,c,d,l,o,m,st,bd,af,L,cr,k,rfl,F1,hk1,hk,h64,fun H2 r s2 n2 hbars=>?_⟩;refine xE2 hbars fun ps bs h1_=>nE4 h1_ fun er hps hperm _=>?_
  have hbs:∀x∈bs,x.good:=fun x hx=>by
   obtain⟨q,hq,rfl⟩:=DY.mp (hperm.mem_iff.mp hx);exact hgL q (Fj.mp hq).1
  have hlen:ps.length < 3000:=by
   have z1:=En hps;have z2:=hperm.length_eq;have z3:=Ny (fun q:Bar×Nat=>(fun n k=>decide (k≤n)) q.2 k) L;rw[Az]at z2;omega
  have hb2:Bl H2 pb b:=s2 _ _ (s1 _ _ hb);refine .inl ⟨r,_,rfl,SqL.of er,?_⟩;refine Kz (fun i ys=>ys=((bs.take i).map fun x=>subB b x).map V.bl) (Vi (SqL.of er)) (by rw[Az]; omega) rfl ?_ ?_
  ·intro i x ys acc H' hx s3 hacc ea hy _ R kk
   refine xE1 (JW hx) fun px h1_=>nE2 h1_ fun e0_ hpx=>?_;clear h1_;subst e0_;refine xE1 (Hf hps hpx) fun bx h1_=>nE2 h1_ fun hbx hB=>?_;simp only [subS,Cv,Fe];walk_at "";refine kk _ H' (Same.refl _) (fun z=>by cases z) fun z R2 k2=>?_;walk_at "";refine⟨pb,px,b,bx,rfl,s3 _ _ hb2,s3 _ _ hB,hg,hbs bx (Df hbx),fun H'' s4=>?_⟩;refine k2 _ H'' s4 ?_;rw[hy,Gr hbx,Dh,Dh];rfl
  ·intro acc ys H3 n3 s3 e3 hy
   subst hy;rw[Az,En hps,Ib]at e3
   have hcov:(bs.map fun x=>subB b x).any id=HQ L k b:=by
    rw[any_map,hperm.any_eq,any_map,List.any_filter];rfl
   walk_at "";refine ZzK (SqL.of e3) ?_;rw[hcov];walk_at "";have s13:=s1.trans (s2.trans s3)
   cases hcv:HQ L k b with
   | true=>
    refine CN rfl ?_;walk_at "";exact qC hmay hcv H3 s13
   | false=>
    refine Bv rfl ?_;have F3:=F.same s13;walk_at "";refine ZvM fun d' H4 s4 n4 e4=>?_;have s34:=s13.trans s4
    have hd0:H d'=none:=by
     cases e:H d' with
     | none=>rfl
     | some u=>rw[s13 _ _ e]at n4; cases n4
    walk_at "";refine⟨p,_,_,_,_,rfl,s4 _ _ F3.ob,T.CW,T.JT,Xk _ _ _,?_⟩;have ndd:d≠d':=Cj F3.lv n4;refine⟨d,lvK L,rfl,s4 _ _ F3.lv,fun o1=>?_⟩;have hf:(upd H4 d (.frz o1 (.dT (lvK L)))) d=some (.frz o1 (.dT (lvK L))):=Cp;have b4:But d H4 (upd H4 d (.frz o1 (.dT (lvK L)))):=JH;generalize upd H4 d (.frz o1 (.dT (lvK L)))=H4' at hf b4 ⊢;refine⟨d,o1,lvK L,rfl,hf,?_⟩;refine ZzT (IvJ p d d' pb k b L o1 H) ⟨fun x u hx e=>b4 _ _ hx (s34 _ _ e),hf,b4 _ _ ndd.symm e4,_,_,rfl⟩ (fun i σ H' _ hp=>hp.2.1) ?_ ?_
    ·intro i ky v Tt b0 σ H' H'' hkv h_ sT hb0 hT eT;refine nE4 h_ fun sm ef ed h1_=>xE2 h1_ fun v4 v5 e=>?_;clear h_ h1_;subst e
     refine xE2 (qd hkv) fun br n h1_=>nE3 h1_ fun hL e0_ e1_=>?_;clear h1_;subst e0_;subst e1_;have hgr:br.good:=hgL _ (Df hL)
     have hkl:(Gi (L.take i) k b).length < 3000:=by
      have z1:=Ny (fun q:Bar×Nat=>decide (k < q.2) || !subB q.1 b) (L.take i)
      have z2:(L.take i).length≤L.length:=by rw[Fb]; omega
      unfold Gi;omega
     have kp:∀{x:Bool},(decide (k < n) || !subB br b)=x→Gi (L.take (i+1)) k b=Gi (L.take i) k b++if x=true then [(br,n)] else []:=fun {x} e=>by
      unfold Gi;rw[Gr hL,Ld,Le,e,T4]
     refine R9 eT ?_
     have put:∀H5,Same H' H5→(decide (k < n) || !subB br b)=true→∃a H4,(V.ref d')=.ref a∧DPut H5 a (.ref b0) (.int (n:Int)) H4∧(But d H H4∧H4 d=some (.frz o1 (.dT (lvK L)))∧H4 d'=some (.dT (lvK (Gi (L.take (i+1)) k b)))∧∃v4 v5,[some (.ref p),some (.int (k:Int)),some (.ref pb),some (.ref d'),some (.ref b0),some (.int (n:Int)),none]=[some (.ref p),some (.int (k:Int)),some (.ref pb),some (.ref d'),v4,v5,(none:Option V)]):=fun H5 s5 hx=>by
      refine qj (s5 _ _ ed) (s5 _ _ hb0) (by rw[Xr]; omega) fun H6 b6 e6=>⟨fun x u hx e=>b6 _ _ (Cj e hd0) (s5 _ _ (sm _ _ hx e)),b6 _ _ ndd (s5 _ _ ef),?_,_,_,rfl⟩;rw[e6,kp hx,if_pos rfl,Zv1 (M:=Gi (L.take i) k b) fun q hq=>Zum hnd hL q (Fj.mp hq).1]
     walk_at "";refine Eg (fun h1=>?_) (fun h1=>?_)
     ·refine CN rfl ?_
      walk_at "";refine Xq ?_;walk_at "";exact put H'' sT (by rw[decide_eq_true (show k < n by omega)]; rfl)
     ·walk_at ""
      refine⟨b0,pb,br,b,rfl,sT _ _ hb0,sT _ _ (sm _ _ (BZ hb F.lv (by intro z; cases z)) hb),hgr,hg,fun H5 s5=>?_⟩;walk_at "";have e1:decide (k < n)=false:=decide_eq_false (by omega)
      cases hs:subB br b with
      | false=>
       refine CN rfl ?_;walk_at "";refine Xq ?_;walk_at "";exact put H5 (sT.trans s5) (by rw[e1,hs]; rfl)
      | true=>
       refine Bv rfl ?_;walk_at "";refine⟨fun x u hx e=>s5 _ _ (sT _ _ (sm _ _ hx e)),s5 _ _ (sT _ _ ef),?_,_,_,rfl⟩;rw[kp (x:=false) (by rw[e1,hs]; rfl),if_neg Cg,Ed];exact s5 _ _ (sT _ _ ed)
    ·intro σ H' h_;refine nE4 h_ fun sm ef ed h1_=>xE2 h1_ fun v4 v5 e=>?_;clear h_ h1_;subst e
     have hbd:Bl H' pb b:=sm _ _ (BZ hb F.lv (by intro z; cases z)) hb;have pdd:p≠d:=BZ F.ob F.lv (by intro z; cases z);have ldd:l≠d:=BZ F.cw F.lv (by intro z; cases z);rw[Xr,Ib]at ed;walk_at "";refine Xq ?_;walk_at "";refine qj (k:=kB b) ed hbd ?_ fun H5 b5 e5=>?_
     ·have z1:=Ny (fun q:Bar×Nat=>decide (k < q.2) || !subB q.1 b) L
      rw[Xr];unfold Gi;omega
     rw[Zv1 (Zpa hcv)]at e5;have s5:But d H H5:=fun x u hx e=>b5 _ _ (Cj e hd0) (sm _ _ hx e);walk_at "";refine Xp (s5 _ _ pdd F.ob) T.CW T.JT (by show _ < _; exact Kh (Ln rfl:_≤3) (by decide)) fun H6 b6 e6=>?_;rw[Zqq]at e6;have dp:d'≠p:=DX (Cj F.ob hd0);have dl:d'≠l:=DX (Cj F.cw hd0);have lp:l≠p:=BZ F.cw F.ob (by intro z; cases z);have e7:=b6 _ _ dp e5;have k7:∀x u,x≠p→x≠d→H x=some u→H6 x=some u:=fun x u hx hxd e=>b6 _ _ hx (s5 _ _ hxd e);obtain⟨dy,tp,c1,c2⟩:=F.ch
     have cp:c≠p:=fun z=>by
      rw[z,F.ob]at c1;have e:=(HO.ins.inj (De c1)).2.2;have:=HH (m:Int) (st:Int) (bd:Int) tp;rw[←e,DG _ _ _ _ (by decide) (by decide) (by decide)]at this
      cases this
     have F7:FrP t H6 p dx c d' l o m st bd af (Fz L k b) cr:=⟨e6,⟨dy,tp,k7 _ _ cp (BZ c1 F.lv (by intro z; cases z)) c1,k7 _ _ (BZ c2 F.ob (by intro z; cases z)) (BZ c2 F.lv (by intro z; cases z)) c2⟩,e7,k7 _ _ lp ldd F.cw⟩;walk_at "";refine⟨1,_,rfl,by omega,?_⟩;rw[show((k:Int)+1 - 1).toNat=k by omega];refine U0 (IvK t p dx c d d' l o m st bd af k pb b L cr H) ⟨fun x u h1 _ h3 e=>k7 _ _ h1 h3 e,F7,_,_,_,rfl⟩ ?_ ?_
     ·intro i σ H8 hi h_;refine nE3 h_ fun o8 F8 h1_=>xE3 h1_ fun v4 v5 v6 e=>?_;clear h_ h1_;subst e
      have hb8:Bl H8 pb b:=o8 _ _ (BZ hb F.ob (by intro z; cases z)) (BZ hb F.cw (by intro z; cases z)) (BZ hb F.lv (by intro z; cases z)) hb;rw[show(1:Int)+(i:Int)=((i+1:Nat):Int) by omega];walk_at "";refine⟨p,_,_,_,rfl,F8.ob,rfl,DG _ _ _ _ (by decide) (by decide) (by decide),?_⟩;walk_at "";refine⟨F8.ob,p,dx,c,d',l,o,m,st,bd,af,_,_,i+1,pb,b,rfl,F8,hG.m6,by rw[Jm]; omega,hb8,hg,fun H9 b9 e9=>?_⟩;exact⟨o8.trans (OffD.l b9),F8.cut b9 e9,_,_,_,rfl⟩
     ·intro σ H8 h_;refine nE3 h_ fun o8 F8 h1_=>xE3 h1_ fun v4 v5 v6 e=>?_;clear h_ h1_;subst e
      exact qN hmay hcv d' o H8 hd0 o8 F8
theorem ZqI (T:Txt K mg t):∀C,isFr t C→MeS1 P w K mg base 5 C "shut" ["self","k","bar"] (spAt (Zv6 t) C):=by
 rintro C rfl;exact ZkH T
structure FI (m st:Nat) (af:List Nat) (L:List (Bar×Nat)) (cr:List Nat):Prop where
 len2:2≤cr.length
 st0:cr.getD 0 0=st
 kp:∀k,1≤k→k < cr.length→∀s,(cr.getD k 0).testBit s=true ↔ (s < 2 ^ m∧∀q∈L,k≤q.2→lies s q.1=false)
 stp:∀k,k+1 < cr.length→∀s t,(cr.getD k 0).testBit s=true→(af.getD s 0).testBit t=true→(cr.getD (k+1) 0).testBit t=true
 st1:∀s,st.testBit s=true→∀q∈L,lies s q.1=false
 gd:∀q∈L,q.1.good
 nd:(L.map (·.1)).Nodup
 lv:∀q∈L,1≤q.2∧q.2 < cr.length
theorem Jo {x n s:Nat} (h:x < 2 ^ n) (hs:x.testBit s=true):s < n:=by
 rcases RQ s n with z | z
 ·exact z
 ·rw[TF (Er h (Hq (by decide) z))]at hs
  cases hs
theorem FI.mono {m st:Nat} {af:List Nat} {L:List (Bar×Nat)} {cr:List Nat} (F:FI m st af L cr) (hst:st < 2 ^ 2 ^ m) {j k s:Nat} (h:j≤k) (hk:k < cr.length) (hs:(cr.getD j 0).testBit s=true):(cr.getD k 0).testBit s=true:=by
 by_cases e:j=k
 ·subst e; exact hs
 ·rw[F.kp k (by omega) hk]
  by_cases j0:j=0
  ·subst j0
   rw[F.st0]at hs;exact⟨Jo hst hs,fun q hq _=>F.st1 s hs q hq⟩
  ·rw[F.kp j (by omega) (by omega)]at hs
   exact⟨hs.1,fun q hq hl=>hs.2 q hq (by omega)⟩
theorem Rh (cr:List Nat) (c j k:Nat) (h:k < cr.length):(HN cr c j).getD k 0=if k=j then cr.getD k 0 - (cr.getD k 0 &&& c) else cr.getD k 0:=by
 unfold HN;rw[Cz,List.getElem?_set]
 by_cases e:k=j
 ·subst e
  rw[if_pos rfl,if_pos h,if_pos rfl];rfl
 ·rw[if_neg (DX e),if_neg e,Cz]
theorem Xu (cr:List Nat) (c j:Nat):(HN cr c j).length=cr.length:=by unfold HN; rw[vp]
theorem J0 (cr:List Nat) (c k:Nat) (h:k < cr.length):∀i,(cutC cr c i).getD k 0=if 1≤k∧k≤i then cr.getD k 0 - (cr.getD k 0 &&& c) else cr.getD k 0
 | 0=>by rw[if_neg (by omega)]; rfl
 | i+1=>by
  unfold cutC;rw[Rh _ _ _ _ (by rw[Jm]; exact h),J0 cr c k h i]
  by_cases e:k=i+1
  ·rw[if_pos e,if_neg (by omega),if_pos (by omega)]
  ·rw[if_neg e]
   by_cases e2:1≤k∧k≤i
   ·rw[if_pos e2,if_pos (by omega)]
   ·rw[if_neg e2,if_neg (by omega)]
theorem Jp {x n s:Nat} {b:Bar}:(x - (x &&& Bh n b)).testBit s=true ↔ x.testBit s=true∧¬(s < n∧lies s b=true):=by
 rw[GD,KR,DN,Uq,Bool.and_eq_false_iff]
 constructor
 ·rintro⟨a,c⟩
  refine⟨a,fun⟨u,v⟩=>?_⟩
  rcases c with c | c
  ·exact(of_decide_eq_false c) u
  ·rw[v]at c; cases c
 ·rintro⟨a,c⟩
  refine⟨a,?_⟩
  by_cases u:s < n
  ·right
   cases v:lies s b with
   | false=>rfl
   | true=>exact absurd ⟨u,v⟩ c
  ·left; exact decide_eq_false u
noncomputable def setL (L:List (Bar×Nat)) (b:Bar) (v:Nat):List (Bar×Nat):=L.map fun q=>if q.1=b then(q.1,v) else q
theorem ql (L:List (Bar×Nat)) (b:Bar) (v:Nat):(setL L b v).map (·.1)=L.map (·.1):=by
 unfold setL;rw[Ie]
 exact RC fun q _=>by
  show(if q.1=b then(q.1,v) else q).1=q.1
  split <;> rfl
theorem ZuP (L:List (Bar×Nat)) (b:Bar) (v:Nat):(setL L b v).length=L.length:=by unfold setL; rw[Az]
theorem S9 {L:List (Bar×Nat)} {b:Bar} {v:Nat} {q:Bar×Nat} (h:q∈setL L b v):(q.1=b∧q.2=v)∨(q.1≠b∧q∈L):=by
 unfold setL at h;obtain⟨p,hp,e⟩:=DY.mp h
 by_cases z:p.1=b
 ·rw[if_pos z]at e
  subst e;exact .inl ⟨z,rfl⟩
 ·rw[if_neg z]at e
  subst e;exact .inr ⟨z,hp⟩
theorem Zpo {L:List (Bar×Nat)} {b:Bar} {v k:Nat} (h:(b,k)∈L):(b,v)∈setL L b v:=by
 unfold setL;refine DY.mpr ⟨(b,k),h,?_⟩;show(if b=b then _ else _)=_;rw[if_pos rfl]
theorem Xv {L:List (Bar×Nat)} {b:Bar} {v:Nat} {q:Bar×Nat} (h:q∈L) (n:q.1≠b):q∈setL L b v:=by
 unfold setL;exact DY.mpr ⟨q,h,if_neg n⟩
theorem Zxh {L:List (Bar×Nat)} {b:Bar} {k v:Nat} (h:(b,k)∈L):putK (lvK L) (kB b) (.int (v:Int))=lvK (setL L b v):=by
 unfold putK;rw[if_pos]
 ·unfold lvK setL
  rw[Ie,Ie];refine RC fun q _=>?_;show(if kB q.1=kB b then(kB q.1,V.int (v:Int)) else(kB q.1,V.int (q.2:Int)))=(kB (if q.1=b then(q.1,v) else q).1,V.int ((if q.1=b then(q.1,v) else q).2:Int))
  by_cases z:q.1=b
  ·rw[if_pos z,z,if_pos rfl]
  ·rw[if_neg z,if_neg (fun e=>z (ZvN e))]
 ·rw[Gn]
  refine⟨(kB b,.int (k:Int)),?_,decide_eq_true rfl⟩;unfold lvK;exact DY.mpr ⟨(b,k),h,rfl⟩
theorem Zud {L:List (Bar×Nat)} (nd:(L.map (·.1)).Nodup) {b:Bar} {j k:Nat} (h1:(b,j)∈L) (h2:(b,k)∈L):j=k:=by
 obtain⟨i,hi,e1⟩:=Y6.mp h1;obtain⟨i',hi',e2⟩:=Y6.mp h2
 have a1:(L.map (·.1))[i]?=some b:=by rw[CQ,CJ hi,e1]; rfl
 have a2:(L.map (·.1))[i']?=some b:=by rw[CQ,CJ hi',e2]; rfl
 have:=(UL (by rw[Az]; exact hi) nd).mp (a1.trans a2.symm);subst this;rw[e1]at e2;exact(UJ e2).2
theorem Zxe {m st:Nat} {af:List Nat} {L:List (Bar×Nat)} {cr:List Nat} {b:Bar} {k:Nat} (F:FI m st af L cr) (hl:af.length=2 ^ m) (mem:(b,k)∈L) (hk:k+1 < cr.length) (h0:behN af (Bh (2 ^ m) b) &&& cr.getD k 0=0):FI m st af (setL L b (k+1)) (HN cr (Bh (2 ^ m) b) (k+1)):=by
 have k1:=(F.lv _ mem).1;have hlen:(HN cr (Bh (2 ^ m) b) (k+1)).length=cr.length:=Xu _ _ _
 have sub:∀j,j < cr.length→∀s,((HN cr (Bh (2 ^ m) b) (k+1)).getD j 0).testBit s=true→(cr.getD j 0).testBit s=true:=fun j hj s h=>by
  rw[Rh _ _ _ _ hj]at h
  split at h
  ·exact(Jp.mp h).1
  ·exact h
 refine⟨by rw[hlen]; exact F.len2,by rw[Rh _ _ _ _ (by have:=F.len2; omega),if_neg (by omega)]; exact F.st0,fun j h1 h2 s=>?_,fun j hj s t hs ht=>?_,fun s hs q hq=>?_,fun q hq=>?_,by rw[ql]; exact F.nd,fun q hq=>?_⟩
 ·rw[hlen]at h2
  rw[Rh _ _ _ _ h2]
  by_cases e:j=k+1
  ·rw[if_pos e,Jp,F.kp j h1 h2]
   constructor
   ·rintro⟨⟨a,c⟩,d⟩
    refine⟨a,fun q hq hlq=>?_⟩
    rcases S9 hq with⟨z1,z2⟩ | ⟨z1,z2⟩
    ·rw[z1]
     cases v:lies s b with
     | false=>rfl
     | true=>exact absurd ⟨a,v⟩ d
    ·exact c q z2 hlq
   ·rintro⟨a,c⟩
    have nb:=c (b,k+1) (Zpo mem) (by show j≤k+1; omega);refine⟨⟨a,fun q hq hlq=>?_⟩,fun⟨_,v⟩=>?_⟩
    ·by_cases z:q.1=b
     ·rw[z]; exact nb
     ·exact c q (Xv hq z) hlq
    ·have nb':lies s b=false:=nb
     rw[nb']at v; cases v
  ·rw[if_neg e,F.kp j h1 h2]
   constructor
   ·rintro⟨a,c⟩
    refine⟨a,fun q hq hlq=>?_⟩
    rcases S9 hq with⟨z1,z2⟩ | ⟨z1,z2⟩
    ·rw[z1]
     exact c (b,k) mem (by show j≤k; omega)
    ·exact c q z2 hlq
   ·rintro⟨a,c⟩
    refine⟨a,fun q hq hlq=>?_⟩
    by_cases z:q.1=b
    ·have hq':(b,q.2)∈L:=by rw[←z]; exact hq
     have:=Zud F.nd hq' mem;rw[z];exact c (b,k+1) (Zpo mem) (by show j≤k+1; omega)
    ·exact c q (Xv hq z) hlq
 ·rw[hlen]at hj
  have hs0:=sub j (by omega) s hs;have ht0:=F.stp j hj s t hs0 ht;rw[Rh _ _ _ _ hj]
  by_cases e:j+1=k+1
  ·rw[if_pos e,Jp]
   refine⟨ht0,fun⟨u,v⟩=>?_⟩
   have ej:j=k:=by omega
   subst ej;have hs1:=(F.kp j k1 (by omega) s).mp hs0
   have hb:(behN af (Bh (2 ^ m) b)).testBit s=true:=by
    rw[MF,decide_eq_true (by omega),Hw,decide_eq_true_iff];intro z;have:=Dz.mp z t ht;rw[KR,decide_eq_true u,v]at this
    cases this
   have:=Dz.mp h0 s hb;rw[hs0]at this
   cases this
  ·rw[if_neg e]; exact ht0
 ·rcases S9 hq with⟨z1,z2⟩ | ⟨z1,z2⟩
  ·rw[z1]; exact F.st1 s hs (b,k) mem
  ·exact F.st1 s hs q z2
 ·rcases S9 hq with⟨z1,z2⟩ | ⟨z1,z2⟩
  ·rw[z1]; exact F.gd (b,k) mem
  ·exact F.gd q z2
 ·rw[hlen]
  rcases S9 hq with⟨z1,z2⟩ | ⟨z1,z2⟩
  ·rw[z2]; omega
  ·exact F.lv q z2
theorem Zpz {q b:Bar} {s:Nat} (h:subB q b=true) (hl:lies s q=true):lies s b=true:=by
 rw[Z5]at h;rw[Vj]at hl ⊢;intro k hk hb;obtain⟨a,c⟩:=h k hk hb;rw[←c];exact hl k hk a
theorem Zxl {m st:Nat} {af:List Nat} {L:List (Bar×Nat)} {cr:List Nat} {b:Bar} {k:Nat} (F:FI m st af L cr) (hst:st < 2 ^ 2 ^ m) (hl:af.length=2 ^ m) (hk1:1≤k) (hk:k < cr.length) (hg:b.good) (may:mayN af st (cr.getD (k - 1) 0) b (2 ^ m)=true) (cv:HQ L k b=false):FI m st af (Fz L k b) (cutC cr (Bh (2 ^ m) b) k):=by
 obtain⟨ma,mb⟩:=(Zo7 hl).mp may;have hlen:(cutC cr (Bh (2 ^ m) b) k).length=cr.length:=Jm _ _ _
 have mk:∀q∈Fz L k b,q=(b,k)∨(q∈L∧(k < q.2∨subB q.1 b=false)):=fun q hq=>by
  unfold Fz at hq
  rcases Hj.mp hq with h | h
  ·unfold Gi at h
   obtain⟨h1,h2⟩:=Fj.mp h;rw[Jb,decide_eq_true_iff,Uq]at h2;exact .inr ⟨h1,h2⟩
  ·exact .inl (Dr.mp h)
 have km:∀q∈L,(k < q.2∨subB q.1 b=false)→q∈Fz L k b:=fun q hq h=>by
  unfold Fz Gi;refine XR _ (Fj.mpr ⟨hq,?_⟩);rw[Jb,decide_eq_true_iff,Uq];exact h
 have bm:(b,k)∈Fz L k b:=by unfold Fz; exact Gs _ (Dr.mpr rfl)
 have sub:∀j,j < cr.length→∀s,((cutC cr (Bh (2 ^ m) b) k).getD j 0).testBit s=true→(cr.getD j 0).testBit s=true:=fun j hj s h=>by
  rw[J0 _ _ _ hj]at h
  split at h
  ·exact(Jp.mp h).1
  ·exact h
 refine⟨by rw[hlen]; exact F.len2,by rw[J0 _ _ _ (by have:=F.len2; omega),if_neg (by omega)]; exact F.st0,fun j h1 h2 s=>?_,fun j hj s t hs ht=>?_,fun s hs q hq=>?_,fun q hq=>?_,?_,fun q hq=>?_⟩
 ·rw[hlen]at h2
  rw[J0 _ _ _ h2]
  by_cases e:j≤k
  ·rw[if_pos ⟨h1,e⟩,Jp,F.kp j h1 h2]
   constructor
   ·rintro⟨⟨a,c⟩,d⟩
    refine⟨a,fun q hq hlq=>?_⟩
    rcases mk q hq with rfl | ⟨z1,_⟩
    ·cases v:lies s b with
     | false=>rfl
     | true=>exact absurd ⟨a,v⟩ d
    ·exact c q z1 hlq
   ·rintro⟨a,c⟩
    have nb:lies s b=false:=c (b,k) bm (by show j≤k; omega);refine⟨⟨a,fun q hq hlq=>?_⟩,fun⟨_,v⟩=>?_⟩
    ·by_cases z:k < q.2∨subB q.1 b=false
     ·exact c q (km q hq z) hlq
     ·cases v:lies s q.1 with
      | false=>rfl
      | true=>
       have hs:subB q.1 b=true:=by
        cases u:subB q.1 b with
        | true=>rfl
        | false=>exact absurd (.inr u) z
       rw[Zpz hs v]at nb
       cases nb
    ·rw[nb]at v; cases v
  ·rw[if_neg (by omega),F.kp j h1 h2]
   constructor
   ·rintro⟨a,c⟩
    refine⟨a,fun q hq hlq=>?_⟩
    rcases mk q hq with rfl | ⟨z1,_⟩
    ·exact absurd hlq e
    ·exact c q z1 hlq
   ·rintro⟨a,c⟩
    exact⟨a,fun q hq hlq=>c q (km q hq (.inl (by omega))) hlq⟩
 ·rw[hlen]at hj
  have hs0:=sub j (by omega) s hs;have ht0:=F.stp j hj s t hs0 ht;rw[J0 _ _ _ hj]
  by_cases e:j+1≤k
  ·rw[if_pos ⟨by omega,e⟩,Jp]
   refine⟨ht0,fun⟨u,v⟩=>?_⟩
   have hsn:s < 2 ^ m∧lies s b=false:=by
    by_cases j0:j=0
    ·subst j0
     rw[F.st0]at hs0;have hsn:=Jo hst hs0;refine⟨hsn,?_⟩
     cases x:lies s b with
     | false=>rfl
     | true=>rw[ma s hsn x]at hs0; cases hs0
    ·have hsn:=((F.kp j (by omega) (by omega) s).mp hs0).1
     refine⟨hsn,?_⟩;rw[J0 _ _ _ (by omega),if_pos ⟨by omega,by omega⟩,Jp]at hs
     cases x:lies s b with
     | false=>rfl
     | true=>exact absurd ⟨hsn,x⟩ hs.2
   have hh:=F.mono hst (k:=k - 1) (show j≤k - 1 by omega) (by omega) hs0;rw[mb s hsn.1 hsn.2 hh t u v]at ht
   cases ht
  ·rw[if_neg (by omega)]; exact ht0
 ·rcases mk q hq with rfl | ⟨z1,_⟩
  ·cases x:lies s b with
   | false=>rfl
   | true=>
    rw[ma s (Jo hst hs) x]at hs
    cases hs
  ·exact F.st1 s hs q z1
 ·rcases mk q hq with rfl | ⟨z1,_⟩
  ·exact hg
  ·exact F.gd q z1
 ·unfold Fz
  rw[Dh,List.nodup_append];refine⟨F.nd.sublist (Zm _ UT),by simp,fun x hx y hy e=>?_⟩;obtain⟨q,hq,rfl⟩:=DY.mp hx
  have hy':y=b:=by simpa using hy
  exact Zpa cv q hq (e.trans hy')
 ·rw[hlen]
  rcases mk q hq with rfl | ⟨z1,_⟩
  ·exact⟨hk1,hk⟩
  ·exact F.lv q z1
theorem ZxN {m st:Nat} {af:List Nat} {L:List (Bar×Nat)} {cr:List Nat} (F:FI m st af L cr) (hb:∀x∈af,x < 2 ^ 2 ^ m):FI m st af L (cr++[2 ^ 2 ^ m - 1]):=by
 have l2:=F.len2
 have g1:∀k,k < cr.length→(cr++[2 ^ 2 ^ m - 1]).getD k 0=cr.getD k 0:=fun k hk=>by
  rw[Cz,Cz,Hm hk]
 have g2:(cr++[2 ^ 2 ^ m - 1]).getD cr.length 0=2 ^ 2 ^ m - 1:=by
  rw[Cz,Gk (Ax _),Gv];rfl
 have hln:(cr++[2 ^ 2 ^ m - 1]).length=cr.length+1:=by rw[Ca]; rfl
 refine⟨by omega,by rw[g1 0 (by omega)]; exact F.st0,fun k h1 h2 s=>?_,fun k hk s t hs ht=>?_,F.st1,F.gd,F.nd,fun q hq=>?_⟩
 ·rcases RQ k cr.length with z | z
  ·rw[g1 k z]; exact F.kp k h1 z s
  ·have e:k=cr.length:=by omega
   subst e;rw[g2,Nx,decide_eq_true_iff];exact⟨fun a=>⟨a,fun q hq hlq=>absurd (F.lv q hq).2 (by omega)⟩,fun a=>a.1⟩
 ·rw[g1 k (by omega)]at hs
  rcases RQ (k+1) cr.length with z | z
  ·rw[g1 _ z]; exact F.stp k z s t hs ht
  ·have e:k+1=cr.length:=by omega
   rw[e,g2,Nx,decide_eq_true_iff];exact Jo (Xo hb (Ef _)) ht
 ·have:=F.lv q hq
  omega
theorem ZwJ {m st:Nat} {af:List Nat} (hst:st < 2 ^ 2 ^ m) (hb:∀x∈af,x < 2 ^ 2 ^ m):FI m st af [] [st,2 ^ 2 ^ m - 1]:=by
 refine⟨by simp,rfl,fun k h1 h2 s=>?_,fun k hk s t hs ht=>?_,(fun s hs q hq=>by cases hq),(fun q hq=>by cases hq),by simp,(fun q hq=>by cases hq)⟩
 ·have e:k=1:=by simp at h2; omega
  subst e;show(2 ^ 2 ^ m - 1).testBit s=true ↔ _;rw[Nx,decide_eq_true_iff];exact⟨fun a=>⟨a,fun q hq=>by cases hq⟩,fun a=>a.1⟩
 ·have e:k=0:=by simp at hk; omega
  subst e;show(2 ^ 2 ^ m - 1).testBit t=true;rw[Nx,decide_eq_true_iff];exact Jo (Xo hb (Ef _)) ht
noncomputable abbrev PSt:=List (Bar×Nat)×List Nat×List (Nat×Bar)
noncomputable def srtB (bs:List Bar):List Bar:=Classical.epsilon fun b=>b.Perm bs∧(b.map ib).Pairwise ple
theorem Vq {b bs:List Bar} (h1:b.Perm bs) (h2:(b.map ib).Pairwise ple):b=srtB bs:=by
 have z:=Classical.epsilon_spec (p:=fun b=>b.Perm bs∧(b.map ib).Pairwise ple) ⟨b,h1,h2⟩;exact ZsU h2 z.2 (h1.trans z.1.symm)
noncomputable def ownB (L:List (Bar×Nat)) (k:Nat):List Bar:=(L.filter fun q=>decide (q.2=k)).map (·.1)
noncomputable def EY (m:Nat) (af:List Nat) (k:Nat) (S:PSt) (b:Bar):PSt:=if behN af (Bh (2 ^ m) b) &&& S.2.1.getD k 0=0 then(setL S.1 b (k+1),HN S.2.1 (Bh (2 ^ m) b) (k+1),S.2.2++[(k,b)]) else S
noncomputable def rowP (m:Nat) (af:List Nat) (k:Nat) (S:PSt):PSt:=(srtB (ownB S.1 k)).foldl (EY m af k) S
noncomputable def Hh (m:Nat) (af:List Nat):Nat→PSt→PSt
 | 0,S=>S
 | n+1,S=>rowP m af (n+1) (Hh m af n S)
def J1 (H:Hp) (T:Aa) (x:Nat×Bar):Prop:=∃pb,H T=some (.tup [.int (x.1:Int),.ref pb])∧Bl H pb x.2
theorem J1.keep {H H':Hp} (s:∀b xs,H b=some (.tup xs)→H' b=some (.tup xs)) {q:Aa} {x:Nat×Bar} (h:J1 H q x):J1 H' q x:=by
 obtain⟨pb,h1,h2⟩:=h;exact⟨pb,s _ _ h1,s _ _ h2⟩
noncomputable def Zv5 (t:Ad):Sp:=fun vs H Q _=>∃(p dx c d l:Aa) (o:Obj) (m st bd:Nat) (af:List Nat) (L:List (Bar×Nat)) (cr:List Nat),vs=[.ref p]∧FrP t H p dx c d l o m st bd af L cr∧GoodC m st bd af∧FI m st af L cr∧L.length < 2081∧cr.length < 100∧
 ∀L' cr' due a ts H',Hh m af (cr.length - 2) (L,cr,[])=(L',cr',due)→OffD p l d H H'→H a=none→FrP t H' p dx c d l o m st bd af L' cr'→FI m st af L' cr'→cr'.length=cr.length→L'.length=L.length→H' a=some (.lst (ts.map V.ref))→Bd (J1 H') ts due→due.length≤2080 * cr.length→Q (.ref a) H'
theorem FrP.put {H H':Hp} {p dx c d l:Aa} {o:Obj} {m st bd:Nat} {af:List Nat} {L L':List (Bar×Nat)} {cr:List Nat} (F:FrP t H p dx c d l o m st bd af L cr) (b:But d H H') (e:H' d=some (.dT (lvK L'))):FrP t H' p dx c d l o m st bd af L' cr:=by
 obtain⟨dy,tp,c1,c2⟩:=F.ch;exact⟨b _ _ (BZ F.ob F.lv (by intro z; cases z)) F.ob,⟨dy,tp,b _ _ (BZ c1 F.lv (by intro z; cases z)) c1,b _ _ (BZ c2 F.lv (by intro z; cases z)) c2⟩,e,b _ _ (BZ F.cw F.lv (by intro z; cases z)) F.cw⟩
theorem FrP.lst {H H':Hp} {p dx c d l a:Aa} {o:Obj} {m st bd:Nat} {af:List Nat} {L:List (Bar×Nat)} {cr:List Nat} {xs:List V} (F:FrP t H p dx c d l o m st bd af L cr) (b:But a H H') (e:H a=some (.lst xs)) (n:l≠a):FrP t H' p dx c d l o m st bd af L cr:=by
 obtain⟨dy,tp,c1,c2⟩:=F.ch;exact⟨b _ _ (BZ F.ob e (by intro z; cases z)) F.ob,⟨dy,tp,b _ _ (BZ c1 e (by intro z; cases z)) c1,b _ _ (BZ c2 e (by intro z; cases z)) c2⟩,b _ _ (BZ F.lv e (by intro z; cases z)) F.lv,b _ _ n F.cw⟩
abbrev IvG (t:Ad) p dx c d l o m st bd af (L:List (Bar×Nat)) (cr:List Nat) pu H i (σ:St) H':=∃L' cr' due ts v2 v3,σ=[some (.ref p),some (.ref pu),v2,v3]∧Hh m af i (L,cr,[])=(L',cr',due)∧OffD p l d H H'∧FrP t H' p dx c d l o m st bd af L' cr'∧FI m st af L' cr'∧cr'.length=cr.length∧L'.length=L.length∧H' pu=some (.lst (ts.map V.ref))∧Bd (J1 H') ts due∧ts.length≤2080 * i
abbrev IvH (t:Ad) p dx c d l o m st bd af (L:List (Bar×Nat)) (cr:List Nat) pu r (i:Nat) (L2:List (Bar×Nat)) cr2 due2 (ps:List Aa) (bs:List Bar) H j (σ:St) H':=∃L' cr' due ts v3,σ=[some (.ref p),some (.ref pu),some (.int ((i+1:Nat):Int)),v3]∧(bs.take j).foldl (EY m af (i+1)) (L2,cr2,due2)=(L',cr',due)∧OffD p l d H H'∧FrP t H' p dx c d l o m st bd af L' cr'∧FI m st af L' cr'∧cr'.length=cr.length∧L'.length=L.length∧H' pu=some (.lst (ts.map V.ref))∧Bd (J1 H') ts due∧ts.length≤2080 * i+j∧H' r=some (.lst (ps.map V.ref))∧Bd (Bl H') ps bs∧∀j' b,j≤j'→bs[j']?=some b→(b,i+1)∈L'
theorem ZkG (T:Txt K mg t):MeS P w K mg base 5 t.Bw "push" ["self"] (spAt (Zv5 t) t.Bw):=by
 refine⟨T.CW,_,_,T.Q6.ok VP (fun vs H Q E h=>?_) (fun _ _ _ _ H vs Q E hr h=>?_),T.Zhb,T.Zhq⟩
 ·obtain⟨⟨p,dx,c,d,l,o,m,st,bd,af,L,cr,rfl,_⟩,_⟩:=h
  rfl
 replace h:=h.1;refine xE12 h fun p dx c d l o m st bd af L cr h1_=>nE7 h1_ fun e0_ F G I h64 hcr q=>?_;clear h h1_;subst e0_;have Io:=Rc (P:=P) (w:=w) (base:=base) T;have D_last:=Rf (P:=P) (w:=w) (base:=base) T;have D_own:=Ztu (P:=P) (w:=w) (base:=base) T;have D_take_out:=Zg4 (P:=P) (w:=w) (base:=base) T;have D_behind:=Xi (P:=P) (w:=w) (base:=base) T;have l2:=I.len2
 refine⟨_,(Aj (ss 1 VP.nd (JB Ag))
   (Aj (Ea Dj rfl (UW rfl T.B.range (Ac Ah (Ac (Jh D_last hr (pv 0)) Ag))) (sg 2 VP.nd)
   (Al (Ea Dj rfl (HB (Fg D_own hr (pv 0) (Ac (pv 2) Ag))) (sg 3 VP.nd)
   (Al (BJ (BV (Dl hr.units) (Ak Cm (Fg D_behind hr (Cw (pv 0) rfl) (Ac (Bc Io hr (Ac (Cw (Cw (pv 0) rfl) rfl) (Ac (pv 3) Ag))) Ag)) (Bm Bu (Cw (pv 0) rfl) (pv 2) (fun _ _=>rfl))) Ah (Br _))
   (Aj (ZJ (Kh (Ug (by decide) _) hr.units) (Cw (pv 0) rfl) (pv 3) (Ak Em (pv 2) Ah) rfl)
   (Aj (Ek (Fg D_take_out hr (pv 0) (Ac (Ak Em (pv 2) Ah) (Ac (pv 3) Ag))))
   (Al (Ek (Ku Ja Kd Ls Jg (pv 1) (Ac (Ge (Ac (pv 2) (Ac (pv 3) Ag))) Ag))))))
   BP)))))
   (Al (Bb (pv 1))))),?_⟩
 walk_at "rd0";refine JG (by simp) fun pu H1 s1 n1 e1=>?_;have npl:l≠pu:=Cj F.cw n1;have npd:d≠pu:=Cj F.lv n1;have F1:=F.same s1;walk_at "";refine⟨p,_,_,_,rfl,F1.ob,rfl,DG _ _ _ _ (by decide) (by decide) (by decide),?_⟩;walk_at "";refine⟨F1.ob,p,dx,c,d,l,o,m,st,bd,af,L,cr,rfl,F1,?_⟩;walk_at "";refine⟨1,_,rfl,by omega,?_⟩;rw[show((cr.length:Int) - 1 - 1).toNat=cr.length - 2 by omega]
 refine U0 (IvG t p dx c d l o m st bd af L cr pu H)
  ⟨L,cr,[],[],_,_,rfl,rfl,OffD.of s1,F1,I,rfl,rfl,e1,.nil,by simp⟩ ?_ ?_
 ·intro i σ H2 hi h_;refine xE6 h_ fun L2 cr2 due2 ts v2 v3 h1_=>nE10 h1_ fun e0_ hP2 o2 F2 I2 c2 ll2 e2 dd2 z2=>?_;clear h_ h1_;subst e0_
  rw[show(1:Int)+(i:Int)=((i+1:Nat):Int) by omega];walk_at "";refine⟨p,_,_,_,rfl,F2.ob,rfl,DG _ _ _ _ (by decide) (by decide) (by decide),?_⟩;walk_at "";refine⟨F2.ob,p,dx,c,d,l,o,m,st,bd,af,L2,cr2,i+1,rfl,F2,by omega,by omega,by omega,fun H3 r s3 n3 hbars=>?_⟩;refine xE2 hbars fun ps bs h1_=>nE4 h1_ fun er hps hperm hsrt=>?_;have hbs:bs=srtB (ownB L2 (i+1)):=Vq hperm hsrt;have nrl:r≠l:=(Cj F2.cw n3).symm;have nrd:r≠d:=(Cj F2.lv n3).symm;have nrp:r≠pu:=(Cj e2 n3).symm
  have own:∀b∈bs,(b,i+1)∈L2:=fun b hb=>by
   obtain⟨q',hq,e⟩:=DY.mp (hperm.mem_iff.mp hb);obtain⟨h1,h2⟩:=Fj.mp hq;have h3:q'.2=i+1:=of_decide_eq_true h2;rw[←e,←h3];exact h1
  have bnd:bs.Nodup:=by
   refine hperm.nodup_iff.mpr ?_;exact I2.nd.sublist (Zm _ UT)
  have bl:bs.length < 2081:=by
   have a:=hperm.length_eq;rw[Az]at a;have b:=Ny (fun q:Bar×Nat=>(fun n k=>decide (n=k)) q.2 (i+1)) L2;omega
  refine seqL (xs:=ps.map V.ref) (IvH t p dx c d l o m st bd af L cr pu r i L2 cr2 due2 ps bs H)
   ⟨L2,cr2,due2,ts,_,rfl,rfl,o2.trans (OffD.of s3),F2.same s3,I2,c2,ll2,s3 _ _ e2,Dm (fun _ _ e=>J1.keep (fun _ _ z=>s3 _ _ z) e) dd2,by omega,er,hps,fun j' b _ hb=>own b (Df hb)⟩ (fun j σ H' _ hp=>by obtain⟨L',cr',due,ts,v3,_,_,_,_,_,_,_,_,_,_,e,_⟩:=hp; exact SqL.of e) ?_ ?_
  ·intro j z σ H4 hz h_;refine xE5 h_ fun L4 cr4 due4 ts4 v3 h1_=>nE13 h1_ fun e0_ hP4 o4 F4 I4 c4 ll4 e4 dd4 z4 er4 hps4 own4=>?_;clear h_ h1_;subst e0_
   refine xE1 (JW hz) fun pb h1_=>nE2 h1_ fun e0_ hpb=>?_;clear h1_;subst e0_;refine xE1 (Hf hps4 hpb) fun b h1_=>nE2 h1_ fun hbj hB=>?_;have hm4:=own4 j b (Ax _) hbj;have hg:=I4.gd _ hm4;refine xE2 (F4.ch) fun dy tp h1_=>nE2 h1_ fun ch1 ch2=>?_;refine xE3 (F4.ch.ins "behind" (by decide) (by decide) (by decide) (by decide)) fun C dxc fsc h1_=>nE3 h1_ fun ec hCc hlc=>?_;have hjl:=(Cr.mp hbj).1;walk_at "";refine⟨p,_,_,_,_,rfl,F4.ob,T.CW,T.JS,S5 _ _ _,?_⟩;walk_at "";refine⟨c,C,dxc,fsc,rfl,ec,hCc,hlc,?_⟩;walk_at "";refine⟨p,_,_,_,_,rfl,F4.ob,T.CW,T.JS,S5 _ _ _,?_⟩;walk_at "";refine⟨c,_,_,_,_,rfl,ch1,T.Dq,T.GK,HH _ _ _ _,?_⟩;walk_at "";refine⟨m,pb,b,rfl,G.m6,hB,hg,?_⟩;walk_at "";refine⟨ec,c,m,st,bd,af,Bh (2 ^ m) b,rfl,F4.ch,by rw[G.ln]; exact Gh G.m6,fun H5 s5=>?_⟩;have F5:=F4.same s5;walk_at "";refine⟨p,_,_,_,_,rfl,F5.ob,T.CW,T.Hd,JZ _ _ _,?_⟩;walk_at "";refine Dk F5.cw (Ez (by omega)) ?_;walk_at "";rw[Dw]
   have nxt:∀L':List (Bar×Nat),(∀q,q∈L4→q.1≠b→q∈L')→∀j' b',j+1≤j'→bs[j']?=some b'→(b',i+1)∈L':=fun L' h j' b' hj' hb'=>by
    refine h _ (own4 j' b' (by omega) hb') fun e=>?_;have e':b'=b:=e;subst e';have:=(UL hjl bnd).mp (hbj.trans hb'.symm);omega
   refine Eg (fun h0=>?_) (fun h0=>?_)
   ·have h0':behN af (Bh (2 ^ m) b) &&& cr4.getD (i+1) 0=0:=by omega
    walk_at "";refine Xq ?_;walk_at "";refine⟨p,_,_,_,_,rfl,F5.ob,T.CW,T.JT,Xk _ _ _,?_⟩;walk_at "";rw[show(((i+1:Nat):Int)+1)=((i+1+1:Nat):Int) by omega];refine qj (k:=kB b) F5.lv (s5 _ _ hB) (by rw[Xr]; omega) fun H6 b6 e6=>?_;rw[Zxh hm4]at e6;have F6:=F5.put b6 e6;have hB6:Bl H6 pb b:=b6 _ _ (BZ (s5 _ _ hB) F5.lv (by intro z; cases z)) (s5 _ _ hB);walk_at "";refine⟨p,_,_,_,rfl,F6.ob,rfl,DG _ _ _ _ (by decide) (by decide) (by decide),?_⟩;walk_at "";rw[show(((i+1:Nat):Int)+1)=((i+1+1:Nat):Int) by omega];refine⟨F6.ob,p,dx,c,d,l,o,m,st,bd,af,_,cr4,i+1+1,pb,b,rfl,F6,G.m6,by omega,hB6,hg,fun H7 b7 e7=>?_⟩;have F7:=F6.cut b7 e7;have eu7:=b7 _ _ npl.symm (b6 _ _ npd.symm (s5 _ _ e4));walk_at "";refine⟨tyL eu7,?_⟩;walk_at "";refine Gf (by simp) fun TT H8 s8 n8 e8=>?_;walk_at "";refine Ky (s8 _ _ eu7) (by rw[Az]; omega) fun H9 b9 e9=>?_;have F9:=(F7.same s8).lst b9 (s8 _ _ eu7) npl;have I9:=Zxe I4 G.ln hm4 (by omega) h0';have er9:=b9 _ _ nrp (s8 _ _ (b7 _ _ nrl (b6 _ _ nrd (s5 _ _ er4))))
    have x9:∀x xs,H4 x=some (.tup xs)→H9 x=some (.tup xs):=fun x xs e=>by
     have a5:=s5 _ _ e;have a6:=b6 _ _ (BZ a5 F5.lv (by intro z; cases z)) a5;have a7:=b7 _ _ (BZ a6 F6.cw (by intro z; cases z)) a6;have a8:=s8 _ _ a7;exact b9 _ _ (BZ a8 (s8 _ _ eu7) (by intro z; cases z)) a8
    have eT9:H9 TT=some (.tup [.int ((i+1:Nat):Int),.ref pb]):=b9 _ _ (Cj eu7 n8).symm e8;walk_at "";refine⟨_,_,due4++[(i+1,b)],ts4++[TT],_,rfl,?_,fun x u h1 h2 h3 e=>?_,F9,I9,by rw[Xu]; exact c4,by rw[ZuP]; exact ll4,by rw[Dh]; exact e9,Rt (Dm (fun _ _ e=>J1.keep x9 e) dd4) ⟨pb,eT9,x9 _ _ hB⟩,by rw[Ca,Ei]; omega,er9,Dm (fun _ _ e=>x9 _ _ e) hps4,nxt _ fun q hq hn=>Xv hq hn⟩
    ·rw[Gr hbj,YcK,hP4]
     show EY m af (i+1) (L4,cr4,due4) b=_;unfold EY;rw[if_pos h0']
    ·exact b9 _ _ (Cj e n1) (s8 _ _ (b7 _ _ h2 (b6 _ _ h3 (s5 _ _ (o4 _ _ h1 h2 h3 e)))))
   ·walk_at ""
    refine⟨L4,cr4,due4,ts4,_,rfl,?_,o4.trans (OffD.of s5),F5,I4,c4,ll4,s5 _ _ e4,Dm (fun _ _ e=>J1.keep (fun _ _ z=>s5 _ _ z) e) dd4,by omega,s5 _ _ er4,Dm (fun _ _ e=>s5 _ _ e) hps4,nxt _ fun q hq _=>hq⟩;rw[Gr hbj,YcK,hP4];show EY m af (i+1) (L4,cr4,due4) b=_;unfold EY;rw[if_neg (fun z=>h0 (by rw[z]; rfl))]
  ·intro σ H4 h_;refine xE5 h_ fun L4 cr4 due4 ts4 v3 h1_=>nE11 h1_ fun e0_ hP4 o4 F4 I4 c4 ll4 e4 dd4 z4 _=>?_;clear h_ h1_;subst e0_
   rw[Az,En hps]at z4;rw[Az,En hps,Ib]at hP4;refine⟨L4,cr4,due4,ts4,_,_,rfl,?_,o4,F4,I4,c4,ll4,e4,dd4,by omega⟩;show rowP m af (i+1) (Hh m af i (L,cr,[]))=_;rw[hP2];unfold rowP;rw[←hbs];exact hP4
 ·intro σ H2 h_;refine xE6 h_ fun L2 cr2 due2 ts v2 v3 h1_=>nE10 h1_ fun e0_ hP2 o2 F2 I2 c2 ll2 e2 dd2 z2=>?_;clear h_ h1_;subst e0_
  walk_at "";have zz:=En dd2;exact q L2 cr2 due2 pu ts H2 hP2 o2 n1 F2 I2 c2 ll2 e2 dd2 (by omega)
theorem ZqH (T:Txt K mg t):∀C,isFr t C→MeS P w K mg base 5 C "push" ["self"] (spAt (Zv5 t) C):=by
 rintro C rfl;exact ZkG T
noncomputable def HR (cr:List Nat):Nat→Nat→Option Nat
 | 0,_=>none
 | n+1,k=>if cr.getD k 0=cr.getD (k+1) 0 then some k else HR cr n (k+1)
noncomputable def MN (cr:List Nat):Option Nat:=HR cr (cr.length - 2) 1
noncomputable def optV:Option Nat→V
 | some k=>.int (k:Int)
 | none=>.non
noncomputable def Zs8 (t:Ad):Sp:=fun vs H Q _=>∃(p dx c d l:Aa) (o:Obj) (m st bd:Nat) (af:List Nat) (L:List (Bar×Nat)) (cr:List Nat),vs=[.ref p]∧FrP t H p dx c d l o m st bd af L cr∧2≤cr.length∧cr.length < 1000∧Q (optV (MN cr)) H
theorem ZjO (T:Txt K mg t):MeS P w K mg base 3 t.Bw "still" ["self"] (spAt (Zs8 t) t.Bw):=by
 refine⟨T.CW,_,_,T.Q7.ok Zf8 (fun vs H Q E h=>?_) (fun _ _ _ _ H vs Q E hr h=>?_),T.ZgJ,T.ZgP⟩
 ·obtain⟨⟨p,dx,c,d,l,o,m,st,bd,af,L,cr,rfl,_⟩,_⟩:=h
  rfl
 replace h:=h.1;refine xE12 h fun p dx c d l o m st bd af L cr h1_=>nE5 h1_ fun e0_ F l2 hcl q=>?_;clear h h1_;subst e0_;have D_last:=Rf (P:=P) (w:=w) (base:=base) T
 refine⟨_,(Aj (Ea Dj rfl (UW rfl T.B.range (Ac Ah (Ac (Jh D_last hr (pv 0)) Ag))) (sg 1 Zf8.nd)
   (Al (BJ (BV (Dl hr.units) (Bm Bu (Cw (pv 0) rfl) (pv 1) (fun _ _=>rfl)) (Bm Bu (Cw (pv 0) rfl) (Ak Em (pv 1) Ah) (fun _ _=>rfl)) (Br _))
   (Al (Bb (pv 1)))
   BP)))
   (Al (Bb G8))),?_⟩
 walk_at "rd0";refine⟨p,_,_,_,rfl,F.ob,rfl,DG _ _ _ _ (by decide) (by decide) (by decide),?_⟩;walk_at "";refine⟨F.ob,p,dx,c,d,l,o,m,st,bd,af,L,cr,rfl,F,?_⟩;walk_at "";refine⟨1,_,rfl,by omega,?_⟩;rw[show((cr.length:Int) - 1 - 1).toNat=cr.length - 2 by omega];refine U0 (fun i σ H'=>H'=H∧MN cr=HR cr (cr.length - 2 - i) (1+i)∧∃v1,σ=[some (.ref p),v1]) ⟨rfl,rfl,_,rfl⟩ ?_ ?_
 ·rintro i σ H' hi ⟨rfl,hs,v1,rfl⟩
  rw[show(1:Int)+(i:Int)=((1+i:Nat):Int) by omega];obtain⟨n,hn⟩ : ∃n,cr.length - 2 - i=n+1:=⟨cr.length - 2 - i - 1,by omega⟩;rw[hn]at hs;unfold HR at hs;walk_at "";refine⟨p,_,_,_,_,rfl,F.ob,T.CW,T.Hd,JZ _ _ _,?_⟩;walk_at "";refine Dk F.cw (Ez (by omega)) ?_;walk_at "";refine⟨p,_,_,_,_,rfl,F.ob,T.CW,T.Hd,JZ _ _ _,?_⟩;walk_at "";rw[show((1+i:Nat):Int)+1=((1+i+1:Nat):Int) by omega];refine Dk F.cw (Ez (by omega)) ?_;walk_at "";refine Eg (fun h0=>?_) (fun h0=>?_)
  ·rw[if_pos (by omega)]at hs
   rw[hs]at q;walk_at "";exact q
  ·rw[if_neg (by omega)]at hs
   walk_at "";refine⟨rfl,?_,_,rfl⟩;rw[hs,show cr.length - 2 - (i+1)=n by omega];rfl
 ·rintro σ H' ⟨rfl,hs,v1,rfl⟩
  rw[Gv]at hs;walk_at "";rw[hs]at q;exact q
theorem ZpH (T:Txt K mg t):∀C,isFr t C→MeS P w K mg base 3 C "still" ["self"] (spAt (Zs8 t) C):=by
 rintro C rfl;exact ZjO T
end
inductive Ev
 | shut (k:Nat) (b:Bar)
 | push (k:Nat) (b:Bar)
 | add (n:Nat)
noncomputable def EvAt (H:Hp) (q:Aa):Ev→Prop
 | .shut k b=>∃pb,H q=some (.tup [.str "shut",.int (k:Int),.ref pb])∧Bl H pb b
 | .push k b=>∃pb,H q=some (.tup [.str "push",.int (k:Int),.ref pb])∧Bl H pb b
 | .add n=>H q=some (.tup [.str "add",.int (n:Int)])
theorem EvAt.keep {H H':Hp} (s:∀b xs,H b=some (.tup xs)→H' b=some (.tup xs)) {q:Aa} {e:Ev} (h:EvAt H q e):EvAt H' q e:=by
 cases e with
 | shut k b=>obtain⟨pb,h1,h2⟩:=h; exact⟨pb,s _ _ h1,s _ _ h2⟩
 | push k b=>obtain⟨pb,h1,h2⟩:=h; exact⟨pb,s _ _ h1,s _ _ h2⟩
 | add n=>exact s _ _ h
noncomputable def bkN (af:List Nat) (bd:Nat):Nat→Nat
 | 0=>bd
 | j+1=>behN af (bkN af bd j)
structure ShOk (m st bd:Nat) (af cr:List Nat) (k:Nat) (b:Bar):Prop where
 k1:1≤k
 kl:k < cr.length
 gd:b.good
 ml:b.1 < 2 ^ m
 my:mayN af st (cr.getD (k - 1) 0) b (2 ^ m)=true
 nw:∀j,b.1.testBit j=true→mayN af st (cr.getD (k - 1) 0) (b.wo j) (2 ^ m)=false
 wt:∃s,s < 2 ^ m∧(cr.getD k 0).testBit s=true∧lies s b=true∧(bkN af bd (cr.length - 1 - k)).testBit s=true
 lb:cr.getD (cr.length - 1) 0 &&& bd≠0
structure SI (m st bd:Nat) (af:List Nat) (L:List (Bar×Nat)) (cr:List Nat):Prop where
 fi:FI m st af L cr
 nb:∀k,k+1 < cr.length→cr.getD k 0 &&& bd=0
 ml:∀q∈L,q.1.1 < 2 ^ m
 ln:cr.length≤2 ^ m+3
inductive Trc (m st bd:Nat) (af:List Nat):List (Bar×Nat)→List Nat→List Ev→Bool→Prop
 | nil:Trc m st bd af [] [st,2 ^ 2 ^ m - 1] [] false
 | shut {L:List (Bar×Nat)} {cr:List Nat} {es:List Ev} {k:Nat} {b:Bar}:Trc m st bd af L cr es false→SI m st bd af L cr→ShOk m st bd af cr k b→Trc m st bd af (Fz L k b) (cutC cr (Bh (2 ^ m) b) k) (es++[.shut k b]) false
 | grow {L L':List (Bar×Nat)} {cr cr':List Nat} {es:List Ev} {due:List (Nat×Bar)}:Trc m st bd af L cr es false→SI m st bd af L cr→cr.getD (cr.length - 1) 0 &&& bd=0→Hh m af (cr.length - 1) (L,cr++[2 ^ 2 ^ m - 1],[])=(L',cr',due)→Trc m st bd af L' cr' (es++.add cr.length::due.map fun x=>.push x.1 x.2) (MN cr').isSome
noncomputable def tri:Nat→Nat
 | 0=>0
 | n+1=>tri n+(n+1)
theorem ZpB {a b:Nat} (h:a≤b):tri a≤tri b:=by
 induction b with
 | zero=>
  rw[show a=0 by omega];exact Ax _
 | succ b ih=>
  by_cases e:a=b+1
  ·rw[e]; exact Ax _
  ·have:=ih (by omega)
   show tri a≤tri b+(b+1);omega
theorem qm:∀(n:Nat) (l:List Nat),l.Nodup→(∀x∈l,x < n)→l.length≤n
 | 0,l,_,h=>by
  cases l with
  | nil=>exact Ax _
  | cons x r=>exact absurd (h x (by simp)) (IW _)
 | n+1,l,nd,h=>by
  by_cases e:n∈l
  ·have:=qm n (l.erase n) (nd.erase n) fun x hx=>by
    have hx2:=(Ycf nd).mp hx;have:=h x hx2.2;have:=hx2.1;omega
   rw[Ycg e]at this;omega
  ·have:=qm n l nd fun x hx=>by
    have h1:=h x hx;have:x≠n:=fun z=>e (by rw[←z]; exact hx);omega
   omega
noncomputable def cdB (b:Bar):Nat:=tri b.1+b.2
theorem qp {b:Bar} (g:b.good):b.2≤b.1:=by
 have:=g.2;rw[←this];exact Nat.and_le_right
theorem Zwp {b c:Bar} (g:b.good) (g':c.good) (h:cdB b=cdB c):b=c:=by
 have h1:=qp g;have h2:=qp g';unfold cdB at h
 have key:∀{x y:Bar},x.2≤x.1→x.1 < y.1→tri x.1+x.2 < tri y.1+y.2:=fun {x y} hx hxy=>by
  have:tri (x.1+1)≤tri y.1:=ZpB hxy;have e:tri (x.1+1)=tri x.1+(x.1+1):=rfl;omega
 rcases Nb b.1 c.1 with z | z | z
 ·have:=key h1 z; omega
 ·rw[z]at h
  exact Iz z (by omega)
 ·have:=key h2 z; omega
theorem SI.few {m st bd:Nat} {af:List Nat} {L:List (Bar×Nat)} {cr:List Nat} (h:SI m st bd af L cr) (hm:m≤6):L.length < 2081:=by
 have h32:2 ^ m≤64:=Hq (n:=2) (by decide) hm
 have nd:(L.map fun q=>cdB q.1).Nodup:=by
  have:=h.fi.nd;rw[List.nodup_iff_pairwise_ne,Li]at this ⊢;exact this.imp_of_mem fun {a b} ha hb hne e=>hne (Zwp (h.fi.gd a ha) (h.fi.gd b hb) e)
 have:=qm (tri 64) _ nd fun x hx=>by
  obtain⟨q,hq,rfl⟩:=DY.mp hx;have h1:=h.ml q hq;have h2:=qp (h.fi.gd q hq);have h3:tri (q.1.1+1)≤tri 64:=ZpB (by omega);have e:tri (q.1.1+1)=tri q.1.1+(q.1.1+1):=rfl;show tri q.1.1+q.1.2 < tri 64;omega
 rw[Az]at this
 have e:tri 64=2080:=by decide
 omega
noncomputable def wS (m:Nat) (cr:List Nat):Nat→Nat
 | 0=>0
 | n+1=>wS m cr n+pc (cr.getD n 0) (2 ^ m)
theorem qt {m:Nat} {cr cr':List Nat}:∀n,(∀k,k < n→pc (cr'.getD k 0) (2 ^ m)≤pc (cr.getD k 0) (2 ^ m))→wS m cr' n≤wS m cr n
 | 0,_=>Ax _
 | n+1,h=>Nat.add_le_add (qt n fun k hk=>h k (by omega)) (h n (by omega))
theorem Zzw {m:Nat} {cr cr':List Nat}:∀n,(∀k,k < n→pc (cr'.getD k 0) (2 ^ m)≤pc (cr.getD k 0) (2 ^ m))→(∃k,k < n∧pc (cr'.getD k 0) (2 ^ m) < pc (cr.getD k 0) (2 ^ m))→wS m cr' n < wS m cr n
 | 0,_,⟨k,hk,_⟩=>absurd hk (IW _)
 | n+1,h,⟨k,hk,hl⟩=>by
  have a:=qt n fun k hk=>h k (by omega);have b:=h n (by omega);show wS m cr' n+_ < wS m cr n+_
  by_cases e:k=n
  ·subst e; omega
  ·have:=Zzw n (fun k hk=>h k (by omega)) ⟨k,by omega,hl⟩
   omega
theorem ZtK {m st:Nat} {af:List Nat} {L:List (Bar×Nat)} {cr:List Nat} (F:FI m st af L cr) {k s:Nat} {b:Bar} (hk1:1≤k) (hk:k < cr.length) (hs:(cr.getD k 0).testBit s=true) (hl:lies s b=true):HQ L k b=false:=by
 cases e:HQ L k b with
 | false=>rfl
 | true=>
  unfold HQ at e;rw[Gn]at e;obtain⟨q,hq,h⟩:=e;rw[DN,decide_eq_true_iff]at h;have:=((F.kp k hk1 hk s).mp hs).2 q hq h.1;rw[Zpz h.2 hl]at this
  cases this
theorem qx {cr:List Nat} {n:Nat} {b:Bar} {i k s:Nat} (hk:k < cr.length) (h:((cutC cr (Bh n b) i).getD k 0).testBit s=true):(cr.getD k 0).testBit s=true:=by
 rw[J0 cr _ k hk]at h
 split at h
 ·exact(Jp.mp h).1
 ·exact h
theorem SI.shut {m st bd:Nat} {af:List Nat} {L:List (Bar×Nat)} {cr:List Nat} {k:Nat} {b:Bar} (G:GoodC m st bd af) (h:SI m st bd af L cr) (S:ShOk m st bd af cr k b):HQ L k b=false∧SI m st bd af (Fz L k b) (cutC cr (Bh (2 ^ m) b) k)∧wS m (cutC cr (Bh (2 ^ m) b) k) cr.length < wS m cr cr.length:=by
 obtain⟨s,hs,hsk,hsl,_⟩:=S.wt;have cv:=ZtK h.fi S.k1 S.kl hsk hsl;refine⟨cv,⟨Zxl h.fi G.st G.ln S.k1 S.kl S.gd S.my cv,fun j hj=>?_,fun q hq=>?_,by rw[Jm]; exact h.ln⟩,?_⟩
 ·rw[Jm]at hj
  rw[Dz];intro x hx;exact Dz.mp (h.nb j hj) x (qx (by omega) hx)
 ·unfold Fz Gi at hq
  rcases Hj.mp hq with hq | hq
  ·exact h.ml q (Fj.mp hq).1
  ·rw[Dr.mp hq]; exact S.ml
 ·refine Zzw _ (fun j hj=>Xf (fun x hx=>qx hj hx) _) ⟨k,S.kl,Xg (k:=s) (fun x hx=>qx S.kl hx) ?_ hsk _ hs⟩
  cases e:((cutC cr (Bh (2 ^ m) b) k).getD k 0).testBit s with
  | false=>rfl
  | true=>
   rw[J0 cr _ k S.kl,if_pos ⟨S.k1,Ax _⟩]at e;exact absurd ⟨hs,hsl⟩ (Jp.mp e).2
structure PuI (cr:List Nat) (L:List (Bar×Nat)) (S:PSt):Prop where
 sb:∀k s,(S.2.1.getD k 0).testBit s=true→(cr.getD k 0).testBit s=true
 ln:S.2.1.length=cr.length
 bs:S.1.map (·.1)=L.map (·.1)
theorem PuI.step {cr:List Nat} {L:List (Bar×Nat)} {S:PSt} {m k:Nat} {af:List Nat} {b:Bar} (h:PuI cr L S):PuI cr L (EY m af k S b):=by
 unfold EY
 split
 ·refine⟨fun j s hj=>?_,by rw[Xu]; exact h.ln,by rw[ql]; exact h.bs⟩
  have hj:((HN S.2.1 (Bh (2 ^ m) b) (k+1)).getD j 0).testBit s=true:=hj
  by_cases hl:j < S.2.1.length
  ·rw[Rh _ _ _ _ hl]at hj
   split at hj
   ·exact h.sb j s (Jp.mp hj).1
   ·exact h.sb j s hj
  ·rw[Cz,RG (by rw[Xu]; omega)]at hj
   simp at hj
 ·exact h
theorem PuI.fold {cr:List Nat} {L:List (Bar×Nat)} {m k:Nat} {af:List Nat}:∀(bs:List Bar) {S:PSt},PuI cr L S→PuI cr L (bs.foldl (EY m af k) S)
 | [],_,h=>h
 | b::bs,_,h=>PuI.fold bs h.step
theorem PuI.push {cr:List Nat} {L:List (Bar×Nat)} {m:Nat} {af:List Nat} {S:PSt} (h:PuI cr L S):∀n,PuI cr L (Hh m af n S)
 | 0=>h
 | n+1=>PuI.fold _ (PuI.push h n)
theorem SI.grow {m st bd:Nat} {af:List Nat} {L L':List (Bar×Nat)} {cr cr':List Nat} {due:List (Nat×Bar)} (h:SI m st bd af L cr) (hl:cr.length≤2 ^ m+2) (hb:cr.getD (cr.length - 1) 0 &&& bd=0) (e:Hh m af (cr.length - 1) (L,cr++[2 ^ 2 ^ m - 1],[])=(L',cr',due)) (fi:FI m st af L' cr'):SI m st bd af L' cr'∧cr'.length=cr.length+1∧wS m cr' cr'.length≤wS m cr cr.length+2 ^ m:=by
 have P:=PuI.push (cr:=cr++[2 ^ 2 ^ m - 1]) (L:=L) (m:=m) (af:=af) (S:=(L,cr++[2 ^ 2 ^ m - 1],[])) ⟨fun _ _ h=>h,rfl,rfl⟩ (cr.length - 1);rw[e]at P
 have l1:cr'.length=cr.length+1:=by have:=P.ln; rw[Ca,Ei]at this; exact this
 have sb:∀k s,k < cr.length→(cr'.getD k 0).testBit s=true→(cr.getD k 0).testBit s=true:=fun k s hk hs=>by
  have:=P.sb k s hs;rw[Cz,Hm hk,←Cz]at this;exact this
 refine⟨⟨fi,fun k hk=>?_,fun q hq=>?_,by omega⟩,l1,?_⟩
 ·rw[l1]at hk
  rw[Dz];intro x hx;have hx2:=sb k x (by omega) hx
  by_cases e2:k+1 < cr.length
  ·exact Dz.mp (h.nb k e2) x hx2
  ·have ek:k=cr.length - 1:=by omega
   rw[ek]at hx2;exact Dz.mp hb x hx2
 ·have hm:q.1∈L'.map (·.1):=Ycq hq
  have:=P.bs;rw[show L'.map (·.1)=L.map (·.1) from this]at hm;obtain⟨q',hq',e2⟩:=DY.mp hm;rw[←e2];exact h.ml q' hq'
 ·rw[l1]
  have a:wS m cr' cr.length≤wS m cr cr.length:=qt _ fun k hk=>Xf (fun x hx=>sb k x hk hx) _;have b:=Mz (cr'.getD cr.length 0) (2 ^ m);show wS m cr' cr.length+pc (cr'.getD cr.length 0) (2 ^ m)≤_;omega
theorem Zv3 {m st bd:Nat} {af:List Nat} {L:List (Bar×Nat)} {cr:List Nat} (h:SI m st bd af L cr):∀(j i s:Nat),i+j < cr.length→(cr.getD i 0).testBit s=true→(bkN af bd j).testBit s=true→∃x,(cr.getD (i+j) 0).testBit x=true∧bd.testBit x=true
 | 0,i,s,_,h1,h2=>⟨s,h1,h2⟩
 | j+1,i,s,hl,h1,h2=>by
  have h2:(behN af (bkN af bd j)).testBit s=true:=h2;rw[MF,DN,decide_eq_true_iff,decide_eq_true_iff]at h2
  obtain⟨x,hx⟩ : ∃x,(af.getD s 0 &&& bkN af bd j).testBit x=true:=by
   rcases Classical.em (∃x,(af.getD s 0 &&& bkN af bd j).testBit x=true) with z | z
   ·exact z
   ·exact absurd (p7 fun k=>by
     cases e:(af.getD s 0 &&& bkN af bd j).testBit k with
     | false=>rfl
     | true=>exact absurd ⟨k,e⟩ z) h2.2
  rw[Do,DN]at hx;have:=Zv3 h j (i+1) x (by omega) (h.fi.stp i (by omega) s x h1 hx.1) hx.2;rw[show i+1+j=i+(j+1) by omega]at this;exact this
theorem Zul {m st bd:Nat} {af:List Nat} {L:List (Bar×Nat)} {cr:List Nat} (h:SI m st bd af L cr) {k s:Nat} (hk1:1≤k) (hk:k < cr.length) (hs:(bkN af bd (cr.length - 1 - k)).testBit s=true):st.testBit s=false:=by
 cases e:st.testBit s with
 | false=>rfl
 | true=>
  obtain⟨x,h1,h2⟩:=Zv3 h (cr.length - 1 - k) 0 s (by omega) (by rw[h.fi.st0]; exact e) hs;rw[Ry]at h1;have:=Dz.mp (h.nb (cr.length - 1 - k) (by omega)) x h1;rw[h2]at this
  cases this
theorem ZoE {m st bd:Nat} {af:List Nat} {L:List (Bar×Nat)} {cr:List Nat} (G:GoodC m st bd af) (h:FI m st af L cr) (hs:∀k,1≤k→k+1 < cr.length→cr.getD k 0≠cr.getD (k+1) 0):∀k,1≤k→k < cr.length→k≤pc (cr.getD k 0) (2 ^ m)+1
 | 0,h1,_=>by omega
 | 1,_,_=>by omega
 | k+2,_,h2=>by
  have ih:=ZoE G h hs (k+1) (by omega) (by omega);have hne:=hs (k+1) (by omega) (by omega);obtain⟨x,hx⟩ : ∃x,(cr.getD (k+1) 0).testBit x≠(cr.getD (k+2) 0).testBit x:=YcL hne;have sub:∀x,(cr.getD (k+1) 0).testBit x=true→(cr.getD (k+2) 0).testBit x=true:=fun x hx=>h.mono G.st (by omega) h2 hx
  have x1:(cr.getD (k+1) 0).testBit x=false:=by
   cases e:(cr.getD (k+1) 0).testBit x with
   | false=>rfl
   | true=>exact absurd (e.trans (sub x e).symm) hx
  have x2:(cr.getD (k+2) 0).testBit x=true:=by
   cases e:(cr.getD (k+2) 0).testBit x with
   | true=>rfl
   | false=>exact absurd (x1.trans e.symm) hx
  have xl:=((h.kp (k+2) (by omega) h2 x).mp x2).1;have:=Xg sub x1 x2 (2 ^ m) xl;omega
theorem Zri {m st bd:Nat} {af:List Nat} {L:List (Bar×Nat)} {cr:List Nat} (G:GoodC m st bd af) (h:FI m st af L cr) (hs:∀k,1≤k→k+1 < cr.length→cr.getD k 0≠cr.getD (k+1) 0):cr.length≤2 ^ m+2:=by
 have l2:=h.len2;have a:=ZoE G h hs (cr.length - 1) (by omega) (by omega);have b:=Mz (cr.getD (cr.length - 1) 0) (2 ^ m);omega
theorem Zpw (bs:List Bar):(srtB bs).Perm bs:=by
 classical
 have tr:∀a b c:Bar,decide (ple (ib a) (ib b))=true→decide (ple (ib b) (ib c))=true→decide (ple (ib a) (ib c))=true:=fun a b c h1 h2=>decide_eq_true (Z9 (of_decide_eq_true h1) (of_decide_eq_true h2))
 have to:∀a b:Bar,(decide (ple (ib a) (ib b)) || decide (ple (ib b) (ib a)))=true:=fun a b=>by
  rw[Jb,decide_eq_true_iff,decide_eq_true_iff];unfold ple;omega
 have pw:=List.pairwise_mergeSort tr to bs;have pm:=List.mergeSort_perm bs fun a b=>decide (ple (ib a) (ib b));rw[←Vq pm (Li.mpr (pw.imp fun h=>of_decide_eq_true h))];exact pm
theorem Ztb {m:Nat} {af:List Nat} {S:PSt} {k:Nat} {b c:Bar} (hb:(c,k)∈S.1) (n:c≠b):(c,k)∈(EY m af k S b).1:=by
 unfold EY
 split
 ·exact Xv hb n
 ·exact hb
theorem Zw6 {L:List (Bar×Nat)} {k:Nat} {b:Bar}:b∈srtB (ownB L k) ↔ (b,k)∈L:=by
 rw[(Zpw _).mem_iff];unfold ownB;rw[DY]
 constructor
 ·rintro⟨q,hq,rfl⟩
  have:=Fj.mp hq;have e:q.2=k:=of_decide_eq_true this.2;rw[←e];exact this.1
 ·intro h
  exact⟨(b,k),Fj.mpr ⟨h,decide_eq_true rfl⟩,rfl⟩
theorem Zsi {L:List (Bar×Nat)} {k:Nat} (nd:(L.map (·.1)).Nodup):(srtB (ownB L k)).Nodup:=by
 rw[(Zpw _).nodup_iff];exact List.Nodup.sublist (Zm _ UT) nd
noncomputable def psB:List (Bar×Nat)→Nat
 | []=>0
 | q::r=>(70 - q.2)+psB r
theorem Zst:∀a b:List (Bar×Nat),psB (a++b)=psB a+psB b
 | [],b=>by show psB b=0+psB b; omega
 | q::a,b=>by
  show(70 - q.2)+psB (a++b)=(70 - q.2)+psB a+psB b;rw[Zst a b];omega
theorem Zxc:∀{a b:List (Bar×Nat)},a.Sublist b→psB a≤psB b:=by
 intro a b h
 induction h with
 | slnil=>exact Ax _
 | cons q _ ih=>exact Eb ih (YcM _ _)
 | cons_cons q _ ih=>exact Ug ih _
theorem ZuE {L:List (Bar×Nat)} {k:Nat} {b:Bar} (hk:1≤k):psB (Fz L k b)≤psB L+69:=by
 unfold Fz;rw[Zst];have h1:psB (Gi L k b)≤psB L:=Zxc UT
 have h2:psB [(b,k)]=70 - k:=by show(70 - k)+0=_; omega
 omega
theorem Zsu:∀{L:List (Bar×Nat)} {b:Bar} {k:Nat},(L.map (·.1)).Nodup→(b,k)∈L→k < 70→psB (setL L b (k+1))+1≤psB L
 | [],_,_,_,h,_=>by cases h
 | q::L,b,k,nd,h,hk=>by
  have nd':=K6.mp (show(q.1::L.map (·.1)).Nodup from nd)
  by_cases e:q.1=b
  ·have hq:q=(b,k):=by
    rcases CZ.mp h with z | z
    ·exact z.symm
    ·exact absurd (DY.mpr ⟨(b,k),z,e.symm⟩) nd'.1
   have rest:setL L b (k+1)=L:=by
    unfold setL;refine(RC fun x hx=>?_).trans (map_id _);rw[if_neg (fun z=>nd'.1 (DY.mpr ⟨x,hx,z.trans e.symm⟩))];rfl
   have hd:setL (q::L) b (k+1)=(b,k+1)::setL L b (k+1):=by
    unfold setL;rw[Cv,if_pos e,hq]
   rw[hd,rest,hq];show(70 - (k+1))+psB L+1≤(70 - k)+psB L;omega
  ·have hd:setL (q::L) b (k+1)=q::setL L b (k+1):=by
    unfold setL;rw[Cv,if_neg e]
   have hm:(b,k)∈L:=by
    rcases CZ.mp h with z | z
    ·rw[←z]at e; exact absurd rfl e
    ·exact z
   have ih:=Zsu (L:=L) nd'.2 hm hk;rw[hd];show(70 - q.2)+psB (setL L b (k+1))+1≤(70 - q.2)+psB L;omega
theorem Zsw {m k:Nat} {af:List Nat} (hk:k < 70):∀(bs:List Bar) {S:PSt},(S.1.map (·.1)).Nodup→bs.Nodup→(∀b∈bs,(b,k)∈S.1)→psB (bs.foldl (EY m af k) S).1+(bs.foldl (EY m af k) S).2.2.length≤psB S.1+S.2.2.length∧(bs.foldl (EY m af k) S).1.map (·.1)=S.1.map (·.1)
 | [],S,_,_,_=>⟨Ax _,rfl⟩
 | b::bs,S,nd,ndb,hm=>by
  have hb:=hm b Ec
  have e1:(EY m af k S b).1.map (·.1)=S.1.map (·.1):=by
   unfold EY
   split
   ·show(setL _ _ _).map (·.1)=_; rw[ql]
   ·rfl
  have e2:psB (EY m af k S b).1+(EY m af k S b).2.2.length≤psB S.1+S.2.2.length:=by
   unfold EY
   split
   ·have:=Zsu nd hb hk
    show psB (setL S.1 b (k+1))+(S.2.2++[(k,b)]).length≤_;rw[Ca,Ei];omega
   ·exact Ax _
  obtain⟨a1,a2⟩:=Zsw (m:=m) (af:=af) hk bs (S:=EY m af k S b) (by rw[e1]; exact nd) (K6.mp ndb).2 fun c hc=>Ztb (hm c (Et _ hc)) fun z=>(K6.mp ndb).1 (z ▸ hc);exact⟨Eb a1 e2,a2.trans e1⟩
theorem Zsx {m:Nat} {af:List Nat} {S:PSt} (nd:(S.1.map (·.1)).Nodup):∀n,n < 70→psB (Hh m af n S).1+(Hh m af n S).2.2.length≤psB S.1+S.2.2.length∧(Hh m af n S).1.map (·.1)=S.1.map (·.1)
 | 0,_=>⟨Ax _,rfl⟩
 | n+1,hn=>by
  obtain⟨a1,a2⟩:=Zsx (m:=m) (af:=af) nd n (by omega)
  have nd2:((Hh m af n S).1.map (·.1)).Nodup:=by rw[a2]; exact nd
  obtain⟨b1,b2⟩:=Zsw (m:=m) (af:=af) hn (srtB (ownB (Hh m af n S).1 (n+1))) (S:=Hh m af n S) nd2 (Zsi nd2) fun b hb=>Zw6.mp hb;exact⟨Eb b1 a1,b2.trans a2⟩
structure HS (sb:Bool) (t:Ad) (H:Hp) (c p dx d l:Aa) (o:Obj) (dl:Aa) (m st bd:Nat) (af:List Nat) (L:List (Bar×Nat)) (cr:List Nat) (es:List Ev):Prop where
 fr:FrP t H p dx c d l o m st bd af L cr
 dy:∃ps,H dl=some (.lst (ps.map V.ref))∧Bd (EvAt H) ps es
 dn:dl≠l
 tr:Trc m st bd af L cr es sb
 si:SI m st bd af L cr
 en:es.length+psB L+71 * wS m cr cr.length≤4545 * cr.length
structure MV (p l dl d0 d':Aa) (H H':Hp):Prop where
 kp:∀b u,b≠p→b≠l→b≠dl→b≠d0→H b=some u→H' b=some u
 nd:d'=d0∨H d'=none
theorem MV.of {p l dl d:Aa} {H H':Hp} (s:Same H H'):MV p l dl d d H H':=⟨fun b u _ _ _ _ e=>s b u e,.inl rfl⟩
theorem MV.trans {p l dl d0 d1 d2:Aa} {H H1 H2:Hp} (a:MV p l dl d0 d1 H H1) (b:MV p l dl d1 d2 H1 H2) (hp:H1 p≠none) (hl:H1 l≠none) (hd:H1 dl≠none):MV p l dl d0 d2 H H2:=by
 refine⟨fun x u h1 h2 h3 h4 e=>b.kp x u h1 h2 h3 (fun z=>?_) (a.kp x u h1 h2 h3 h4 e),?_⟩
 ·rcases a.nd with y | y
  ·exact h4 (z.trans y)
  ·rw[←z,e]at y; cases y
 ·rcases b.nd with y | y
  ·rw[y]; exact a.nd
  ·by_cases z:d2=d0
   ·exact .inl z
   ·refine .inr ?_
    cases e:H d2 with
    | none=>rfl
    | some u=>
     have:=a.kp d2 u (fun q=>hp (by rw[←q]; exact y)) (fun q=>hl (by rw[←q]; exact y)) (fun q=>hd (by rw[←q]; exact y)) z e;rw[y]at this; cases this
theorem HS.same {sb:Bool} {t:Ad} {H H':Hp} {c p dx d l:Aa} {o:Obj} {dl:Aa} {m st bd:Nat} {af:List Nat} {L:List (Bar×Nat)} {cr:List Nat} {es:List Ev} (h:HS sb t H c p dx d l o dl m st bd af L cr es) (s:Same H H'):HS sb t H' c p dx d l o dl m st bd af L cr es:=by
 obtain⟨ps,e,pp⟩:=h.dy;exact⟨h.fr.same s,⟨ps,s _ _ e,Dm (fun _ _ z=>z.keep fun _ _ e=>s _ _ e) pp⟩,h.dn,h.tr,h.si,h.en⟩
theorem HS.ne {sb:Bool} {t:Ad} {H:Hp} {c p dx d l:Aa} {o:Obj} {dl:Aa} {m st bd:Nat} {af:List Nat} {L:List (Bar×Nat)} {cr:List Nat} {es:List Ev} (h:HS sb t H c p dx d l o dl m st bd af L cr es):H p≠none∧H l≠none∧H dl≠none:=by
 obtain⟨ps,ed,_⟩:=h.dy;refine⟨?_,?_,?_⟩
 ·rw[h.fr.ob]; simp
 ·rw[h.fr.cw]; simp
 ·rw[ed]; simp
theorem Zpd {m s:Nat} (hm:m≤6) (hs:s < 2 ^ m):Bar.good (2 ^ m - 1,s):=by
 have h32:2 ^ m≤64:=Hq (n:=2) (by decide) hm;have h0:=Ef m;refine⟨by show 2 ^ m - 1 < 64; omega,?_⟩;show s &&& (2 ^ m - 1)=s;rw[YcN,Nu hs]
theorem qy {m s:Nat} (hm:m≤6) (hs:s < 2 ^ m) {x:Nat} (hx:x < 2 ^ m):lies x (2 ^ m - 1,s)=true ↔ x=s:=by
 rw[←R8 (Zpd hm hs),decide_eq_true_iff];show x &&& (2 ^ m - 1)=s ↔ _;rw[YcN,Nu hx]
theorem Zuc {m s:Nat} {f:Bar} (hm:m≤6) (hs:s < 2 ^ m) (gf:f.good) (h:Less (2 ^ m - 1,s) f):lies s f=true∧f.1 < 2 ^ m:=by
 constructor
 ·rw[←R8 gf,decide_eq_true_iff]
  exact h.2.symm
 ·refine YcF _ fun j hj=>?_
  cases e:f.1.testBit j with
  | false=>rfl
  | true=>
   have:=h.1 j e;have h2:(2 ^ m - 1).testBit j=true:=this;rw[Nx,decide_eq_true_iff]at h2;omega
theorem Zw5 {m st bd held s:Nat} {af:List Nat} (G:GoodC m st bd af) (hm:m≤6) (hs:s < 2 ^ m) (h1:st.testBit s=false) (h2:(held &&& behN af (2 ^ s)) - ((held &&& behN af (2 ^ s)) &&& 2 ^ s)=0):mayN af st held (2 ^ m - 1,s) (2 ^ m)=true:=by
 rw[Zo7 G.ln];refine⟨fun x hx hl=>?_,fun x hx hl hh y hy hyl=>?_⟩
 ·rw[(qy hm hs hx).mp hl]; exact h1
 ·have ey:=(qy hm hs hy).mp hyl
  subst ey
  have hne:x≠y:=fun z=>by
   rw[(qy hm hs hx).mpr z]at hl
   cases hl
  cases e:(af.getD x 0).testBit y with
  | false=>rfl
  | true=>
   have z:((held &&& behN af (2 ^ y)) - ((held &&& behN af (2 ^ y)) &&& 2 ^ y)).testBit x=false:=by rw[h2]; exact Fl x
   have hb:(behN af (2 ^ y)).testBit x=true:=by
    rw[MF,DN,decide_eq_true_iff,decide_eq_true_iff];refine⟨by rw[G.ln]; exact hx,fun q=>?_⟩;have:=Dz.mp q y e;rw[Nat.testBit_two_pow_self]at this
    cases this
   rw[GD,Do,hh,hb,Ng,decide_eq_false (fun q=>hne q.symm)]at z
   cases z
section
variable {P:Ay} {w:Av} {K:Ao} {mg:Str→Option Ab} {base:Ar} {t:Ad}
noncomputable def Zxt (t:Ad):Sp:=fun vs H Q _=>∃(c p dx d l:Aa) (o:Obj) (dl:Aa) (m st bd:Nat) (af:List Nat) (L:List (Bar×Nat)) (cr:List Nat) (es:List Ev) (k s:Nat),vs=[.ref c,.ref p,.ref dl,.int (k:Int),.int (s:Int)]∧HS false t H c p dx d l o dl m st bd af L cr es∧GoodC m st bd af∧m≤6∧1≤k∧k < cr.length∧s < 2 ^ m∧(cr.getD k 0).testBit s=true∧(bkN af bd (cr.length - 1 - k)).testBit s=true∧cr.getD (cr.length - 1) 0 &&& bd≠0∧mayN af st (cr.getD (k - 1) 0) (2 ^ m - 1,s) (2 ^ m)=true∧
 ∀b d' o' H',lies s b=true→ShOk m st bd af cr k b→MV p l dl d d' H H'→HS false t H' c p dx d' l o' dl m st bd af (Fz L k b) (cutC cr (Bh (2 ^ m) b) k) (es++[.shut k b])→Q .non H'
theorem Zl6 (T:Txt K mg t):FnS P w K mg base 7 "shut_stand" ["chart","frames","diary","k","stand"] ((Zxt t)):=by
 refine⟨_,_,T.Qt.ok ZhS (fun vs H Q E h=>?_) (fun _ _ _ _ H vs Q E hr h=>?_),T.ZiG,T.Qt.kp,T.ZiQ⟩
 ·obtain⟨c,p,dx,d,l,o,dl,m,st,bd,af,L,cr,es,k,s0,rfl,h,G,hm,hk1,hk,hs,hsk,hsb,hlb,hmy,q⟩:=h
  rfl
 revert h;intro h0_;refine xE16 h0_ fun c p dx d l o dl m st bd af L cr es k s0 h1_=>nE12 h1_ fun e0_ h G hm hk1 hk hs hsk hsb hlb hmy q=>?_;clear h0_ h1_;subst e0_;have ZqJ:=Zql (P:=P) (w:=w) (base:=base) T;have Ztw:=Zsd (P:=P) (w:=w) (base:=base) T;have D_crowd:=qb (P:=P) (w:=w) (base:=base) T;have D_shut:=ZqI (P:=P) (w:=w) (base:=base) T;have h32:2 ^ m≤64:=Hq (n:=2) (by decide) hm;have hln:=h.si.ln;have F:=h.fr;obtain⟨dy,tp,ch1,ch2⟩:=id F.ch
 refine⟨_,(Aj (ss 5 ZhS.nd (ZvY ZqJ hr (Ac (pv 0) (Ac (Fg D_crowd hr (pv 1) (Ac (Ak Hz (pv 3) Ah) Ag)) (Ac (Bc Ztw hr (Ac (Cw (pv 0) rfl) (Ac (pv 4) Ag))) Ag)))))
   (Aj (Ek (ZyS D_shut hr (pv 1) (Ac (pv 3) (Ac (pv 5) Ag))))
   (Al (Ek (Ku Ja Kd Ls Jg (pv 2) (Ac (Ge (Ac Gd (Ac (pv 3) (Ac (pv 5) Ag)))) Ag)))))),?_⟩
 walk_at "rd0";refine⟨p,_,_,_,rfl,F.ob,rfl,DG _ _ _ _ (by decide) (by decide) (by decide),?_⟩;walk_at "";rw[show(k:Int) - 1=((k - 1:Nat):Int) by omega];refine⟨F.ob,p,dx,c,d,l,o,m,st,bd,af,L,cr,k - 1,rfl,F,by omega,?_⟩;walk_at "";refine⟨c,_,_,_,_,rfl,ch1,T.Dq,T.GK,HH _ _ _ _,?_⟩;walk_at "";refine⟨m,s0,rfl,G.m6,fun pb H1 s1 n1 e1=>?_⟩;walk_at "";refine⟨c,pb,m,st,bd,_,af,_,rfl,(h.same s1).fr.ch,G,e1,Zpd hm hs,fun z=>absurd z (by rw[hmy]; decide),fun _ H2 p2 f s2 hf gf lf mf nf=>?_⟩;obtain⟨hsl,fm⟩:=Zuc hm hs gf lf;have S:ShOk m st bd af cr k f:=⟨hk1,hk,gf,fm,mf,nf,⟨s0,hs,hsk,hsl,hsb⟩,hlb⟩;obtain⟨cv,I2,wl⟩:=h.si.shut G S;have h2:=h.same (s1.trans s2);have F2:=h2.fr;walk_at "";refine⟨p,_,_,_,rfl,F2.ob,rfl,DG _ _ _ _ (by decide) (by decide) (by decide),?_⟩;walk_at "";refine⟨F2.ob,p,dx,c,d,l,o,m,st,bd,af,L,cr,k,p2,f,rfl,F2,G,hk1,hk,by omega,by have:=h.si.few hm; omega,h.si.fi.gd,h.si.fi.nd,hf,gf,fun z=>absurd z (by rw[mf]; decide),fun _ z=>absurd z (by rw[cv]; decide),fun _ _ d' o' H3 hd o3 F3=>?_⟩;obtain⟨ps,ed,pp⟩:=h2.dy;have F2l:H2 l≠none:=h2.ne.2.1;have nlp:dl≠p:=BZ ed F2.ob (by intro z; cases z);have nld:dl≠d:=BZ ed F2.lv (by intro z; cases z);have ed3:=o3 _ _ nlp h.dn nld ed;have tk3:∀b xs,H2 b=some (.tup xs)→H3 b=some (.tup xs):=fun b xs e=>o3 _ _ (BZ e F2.ob (by intro z; cases z)) (BZ e F2.cw (by intro z; cases z)) (BZ e F2.lv (by intro z; cases z)) e;walk_at "";refine⟨tyL ed3,?_⟩;walk_at "";refine Gf (by simp) fun ep H4 s4 n4 e4=>?_;walk_at "";have hpl:=En pp;have hen:=h.en;refine Ky (s4 _ _ ed3) (by rw[Az,hpl]; omega) fun H5 b5 e5=>?_;have F4:=F3.same s4;have tk5:∀b xs,H4 b=some (.tup xs)→H5 b=some (.tup xs):=fun b xs e=>b5 _ _ (BZ e (s4 _ _ ed3) (by intro z; cases z)) e;have F5:=F4.lst b5 (s4 _ _ ed3) h.dn.symm;have hbar:Bl H5 p2 f:=tk5 _ _ (s4 _ _ (tk3 _ _ hf));refine q f d' o' H5 hsl S ⟨fun b u h1 h2' h3 h4 e=>b5 _ _ h3 (s4 _ _ (o3 _ _ h1 h2' h4 ((s1.trans s2) _ _ e))),?_⟩ ⟨F5,⟨ps++[ep],by rw[e5,Dh]; rfl,?_⟩,h.dn,.shut h.tr h.si S,I2,?_⟩
 ·exact .inr ((s1.trans s2).free hd)
 ·exact Xb (Dm (fun _ _ z=>z.keep fun b xs e=>tk5 _ _ (s4 _ _ (tk3 _ _ e))) pp) (.cons ⟨p2,tk5 _ _ e4,hbar⟩ .nil)
 ·have:=ZuE (L:=L) (k:=k) (b:=f) hk1
  rw[Ca,Ei,Jm];omega
end
structure Way (m st bd:Nat) (af:List Nat) (n:Nat) (ws:List Nat):Prop where
 ln:ws.length=n
 hd:∃x,ws[0]?=some x∧st.testBit x=true
 la:∃x,ws[n - 1]?=some x∧bd.testBit x=true
 sp:∀i x y,ws[i]?=some x→ws[i+1]?=some y→(af.getD x 0).testBit y=true
 lt:∀x∈ws,x < 2 ^ m
structure Ask (m bd:Nat) (af cr as:List Nat):Prop where
 ln:as.length+1≤cr.length
 el:∀i x,as[i]?=some x→x < 2 ^ m∧(cr.getD (cr.length - 1 - i) 0).testBit x=true∧(bkN af bd i).testBit x=true
 sp:∀i x y,as[i]?=some x→as[i+1]?=some y→(af.getD y 0).testBit x=true
theorem ZxP {m bd:Nat} {af cr as:List Nat} (A:Ask m bd af cr as) (h:as≠[]):cr.getD (cr.length - 1) 0 &&& bd≠0:=fun e=>by
 cases as with
 | nil=>exact h rfl
 | cons x r=>
  obtain⟨_,h1,h2⟩:=A.el 0 x rfl;have h2:bd.testBit x=true:=h2;have:=Dz.mp e x h1;rw[h2]at this
  cases this
theorem Ask.pop {m st bd:Nat} {af cr as:List Nat} {x:Nat} {b:Bar} (A:Ask m bd af cr (as++[x])):Ask m bd af (cutC cr (Bh (2 ^ m) b) (cr.length - (as.length+1))) as:=by
 have l1:=A.ln;rw[Ca,Ei]at l1;refine⟨by rw[Jm]; omega,fun i y hi=>?_,fun i y z h1 h2=>?_⟩
 ·have hil:=(Cr.mp hi).1
  obtain⟨a1,a2,a3⟩:=A.el i y (by rw[Hm hil]; exact hi);refine⟨a1,?_,a3⟩;rw[Jm,J0 cr _ _ (by omega),if_neg (by omega)];exact a2
 ·have hi1:=(Cr.mp h1).1
  have hi2:=(Cr.mp h2).1;exact A.sp i y z (by rw[Hm hi1]; exact h1) (by rw[Hm hi2]; exact h2)
structure Src (cr af:List Nat) (k x y:Nat):Prop where
 cr:(cr.getD (k - 1) 0).testBit y=true
 sp:(af.getD y 0).testBit x=true
 yl:y < af.length
theorem Zzk {cr af:List Nat} {k x y:Nat} (h:((cr.getD (k - 1) 0 &&& behN af (2 ^ x)) - ((cr.getD (k - 1) 0 &&& behN af (2 ^ x)) &&& 2 ^ x)).testBit y=true):Src cr af k x y:=by
 rw[GD,Do,DN,DN,MF,DN,decide_eq_true_iff,decide_eq_true_iff]at h;refine⟨h.1.1,?_,h.1.2.1⟩
 cases e:(af.getD y 0).testBit x with
 | true=>rfl
 | false=>
  refine absurd (Dz.mpr fun j hj=>?_) h.1.2.2;rw[Ng]
  exact decide_eq_false fun z=>by rw[←z,e]at hj; cases hj
theorem ZxR {af:List Nat} {c x y:Nat} (hy:y < af.length) (h1:(af.getD y 0).testBit x=true) (h2:c.testBit x=true):(behN af c).testBit y=true:=by
 rw[MF,DN,decide_eq_true_iff,decide_eq_true_iff];refine⟨hy,fun e=>?_⟩;have:=Dz.mp e x h1;rw[h2]at this
 cases this
theorem Ask.push {m st bd:Nat} {af cr as:List Nat} {x y:Nat} (A:Ask m bd af cr (as++[x])) (hl:as.length+3≤cr.length) (hy:y < 2 ^ m) (S:Src cr af (cr.length - (as.length+1)) x y):Ask m bd af cr (as++[x]++[y]):=by
 have lx:(as++[x]).length=as.length+1:=by rw[Ca,Ei]
 have gx:(as++[x])[as.length]?=some x:=by rw[Gk (Ax _),Gv]; rfl
 have last:∀{i z},(as++[x]++[y])[i]?=some z→(i < as.length+1∧(as++[x])[i]?=some z)∨(i=as.length+1∧z=y):=fun {i z} h=>by
  by_cases hi:i < as.length+1
  ·rw[Hm (by rw[lx]; exact hi)]at h
   exact .inl ⟨hi,h⟩
  ·rw[Gk (by rw[lx]; omega),lx]at h
   have hi2:i - (as.length+1)=0:=by
    have:=(Cr.mp h).1;simp at this;omega
   rw[hi2]at h;exact .inr ⟨by omega,by simpa using h.symm⟩
 refine⟨by rw[Ca,lx,Ei]; omega,fun i z hi=>?_,fun i z z' h1 h2=>?_⟩
 ·rcases last hi with⟨_,h⟩ | ⟨rfl,rfl⟩
  ·exact A.el i z h
  ·refine⟨hy,?_,?_⟩
   ·have:=S.cr
    rw[show cr.length - (as.length+1) - 1=cr.length - 1 - (as.length+1) by omega]at this;exact this
   ·exact ZxR S.yl S.sp (A.el as.length x gx).2.2
 ·rcases last h2 with⟨_,h⟩ | ⟨e,rfl⟩
  ·rcases last h1 with⟨_,h'⟩ | ⟨e,_⟩
   ·exact A.sp i z z' h' h
   ·omega
  ·have ei:i=as.length:=by omega
   subst ei
   rcases last h1 with⟨_,h'⟩ | ⟨e,_⟩
   ·rw[gx]at h'
    cases h'
    exact S.sp
   ·omega
theorem Ask.way {m st bd:Nat} {af cr as:List Nat} {x y:Nat} (A:Ask m bd af cr (as++[x])) (h0:cr.getD 0 0=st) (hl:as.length+2=cr.length) (hy:y < 2 ^ m) (S:Src cr af (cr.length - (as.length+1)) x y):Way m st bd af cr.length (y::(as++[x]).reverse):=by
 have lx:(as++[x]).length=as.length+1:=by rw[Ca,Ei]
 have gx:(as++[x])[as.length]?=some x:=by rw[Gk (Ax _),Gv]; rfl
 have rv:∀{i z},(as++[x]).reverse[i]?=some z→i < as.length+1∧(as++[x])[as.length - i]?=some z:=fun {i z} h=>by
  have hi:=(Cr.mp h).1;rw[Ul,lx]at hi;rw[za (by rw[lx]; exact hi),lx,show as.length+1 - 1 - i=as.length - i by omega]at h;exact⟨hi,h⟩
 have sc:=S.cr;rw[show cr.length - (as.length+1) - 1=0 by omega,h0]at sc;refine⟨by rw[Ds,Ul,lx]; omega,⟨y,rfl,sc⟩,?_,fun i u v h1 h2=>?_,fun z hz=>?_⟩
 ·obtain⟨z,hz⟩ : ∃z,(as++[x])[0]?=some z:=⟨_,CJ (by rw[lx]; omega)⟩
  refine⟨z,?_,(A.el 0 z hz).2.2⟩;rw[show cr.length - 1=as.length+1 by omega,Zf,za (by rw[lx]; omega),lx,show as.length+1 - 1 - as.length=0 by omega];exact hz
 ·rw[Zf]at h2
  obtain⟨_,g2⟩:=rv h2
  cases i with
  | zero=>
   rw[Nat.sub_zero,gx]at g2
   cases g2
   have:y=u:=by simpa using h1
   subst this;exact S.sp
  | succ i=>
   rw[Zf]at h1;obtain⟨hi,g1⟩:=rv h1;obtain⟨hi2,_⟩:=rv h2;refine A.sp (as.length - (i+1)) v u g2 ?_;rw[show as.length - (i+1)+1=as.length - i by omega];exact g1
 ·rcases CZ.mp hz with rfl | hz
  ·exact hy
  ·obtain⟨i,hi,e⟩:=yh (List.mem_reverse.mp hz)
   exact(A.el i z (by rw[←e]; exact CJ hi)).1
theorem ZxQ {α:Type} (xs:List α) (y:α):atI (xs++[y]) (-1)=some y:=by
 unfold atI ixN;rw[if_neg (by decide),Ca,Ei,if_pos (by omega)]
 have e:((-1:Int)+((xs.length+1:Nat):Int)).toNat=xs.length:=by omega
 show(xs++[y])[((-1:Int)+((xs.length+1:Nat):Int)).toNat]?=some y;rw[e,Gk (Ax _),Gv];rfl
theorem HS.but {sb:Bool} {t:Ad} {H H':Hp} {c p dx d l a:Aa} {o:Obj} {dl:Aa} {m st bd:Nat} {af:List Nat} {L:List (Bar×Nat)} {cr:List Nat} {es:List Ev} {xs:List V} (h:HS sb t H c p dx d l o dl m st bd af L cr es) (b:But a H H') (e:H a=some (.lst xs)) (n1:l≠a) (n2:dl≠a):HS sb t H' c p dx d l o dl m st bd af L cr es:=by
 obtain⟨ps,ed,pp⟩:=h.dy;exact⟨h.fr.lst b e n1,⟨ps,b _ _ n2 ed,Dm (fun _ _ z=>z.keep fun x ys ex=>b _ _ (BZ ex e (by intro z; cases z)) ex) pp⟩,h.dn,h.tr,h.si,h.en⟩
theorem MV.but {p l dl d d' a:Aa} {H H1 H2:Hp} (v:MV p l dl d d' H H1) (b:But a H1 H2) (n:H a=none):MV p l dl d d' H H2:=⟨fun x u h1 h2 h3 h4 e=>b _ _ (Cj e n) (v.kp x u h1 h2 h3 h4 e),v.nd⟩
theorem MV.more {p l dl d d':Aa} {H H1 H2:Hp} (v:MV p l dl d d' H H1) (s:Same H1 H2):MV p l dl d d' H H2:=⟨fun x u h1 h2 h3 h4 e=>s _ _ (v.kp x u h1 h2 h3 h4 e),v.nd⟩
theorem Zun (as:List Nat):((nums as).map V.int).reverse=(nums as.reverse).map V.int:=by
 unfold nums;rw[←YcO,←YcO]
section
variable {P:Ay} {w:Av} {K:Ao} {mg:Str→Option Ab} {base:Ar} {t:Ad}
noncomputable def Zxv (t:Ad):Sp:=fun vs H Q _=>∃(c p dx d l:Aa) (o:Obj) (dl:Aa) (m st bd:Nat) (af:List Nat) (L:List (Bar×Nat)) (cr:List Nat) (es:List Ev) (b0:Nat),vs=[.ref c,.ref p,.ref dl,.int (b0:Int)]∧HS false t H c p dx d l o dl m st bd af L cr es∧GoodC m st bd af∧m≤6∧b0 < 2 ^ m∧(cr.getD (cr.length - 1) 0).testBit b0=true∧bd.testBit b0=true∧
 (∀d' o' L' cr' es' H',MV p l dl d d' H H'→HS false t H' c p dx d' l o' dl m st bd af L' cr' es'→cr'.length=cr.length→wS m cr' cr.length < wS m cr cr.length→Q .non H')∧
 (∀a ws d' o' L' cr' es' H',MV p l dl d d' H H'→HS false t H' c p dx d' l o' dl m st bd af L' cr' es'→cr'.length=cr.length→(H a=none∨a=d)→a≠l→a≠dl→H' a=some (.lst ((nums ws).map V.int))→Way m st bd af cr.length ws→cr'.getD (cr'.length - 1) 0 &&& bd≠0→Q (.ref a) H')
abbrev IvI (t:Ad) c p dx l dl d0 m st bd af cr0 (b0:Nat) al H (mm:Nat) (σ:St) H':=∃d o L cr es as v5 v6 v7 v8,MV p l dl d0 d H H'∧HS false t H' c p dx d l o dl m st bd af L cr es∧cr.length=cr0.length∧H' al=some (.lst ((nums as).map V.int))∧Ask m bd af cr as∧wS m cr cr0.length≤wS m cr0 cr0.length∧(as=[]→wS m cr cr0.length < wS m cr0 cr0.length)∧mm=wS m cr cr0.length * (cr0.length+1)+(cr0.length - as.length)∧σ=[some (.ref c),some (.ref p),some (.ref dl),some (.int (b0:Int)),some (.ref al),v5,v6,v7,v8]
theorem Zse (T:Txt K mg t):FnS P w K mg base 9 "way_to" ["chart","frames","diary","bad"] ((Zxv t)):=by
 refine⟨_,_,T.Qu.ok Oe (fun vs H Q E h=>?_) (fun _ _ _ _ H vs Q E hr h=>?_),T.ZoB,T.Qu.kp,T.Zo5⟩
 ·obtain⟨c,p,dx,d0,l,o0,dl,m,st,bd,af,L0,cr0,es0,b0,rfl,h0,G,hm,hb,hbc,hbb,qn,qw⟩:=h
  rfl
 refine xE15 h fun c p dx d0 l o0 dl m st bd af L0 cr0 es0 b0 h1_=>nE9 h1_ fun e0_ h0 G hm hb hbc hbb qn qw=>?_;clear h h1_;subst e0_;have Zmz:=Zl6 (P:=P) (w:=w) (base:=base) T;have HW:=S8 (P:=P) (w:=w) (base:=base) T;have D_last:=Rf (P:=P) (w:=w) (base:=base) T;have D_crowd:=qb (P:=P) (w:=w) (base:=base) T;have D_behind:=Xi (P:=P) (w:=w) (base:=base) T;have l2:=h0.si.fi.len2;have h32:2 ^ m≤64:=Hq (n:=2) (by decide) hm
 refine⟨_,(Aj (ss 4 Oe.nd (JB (Ac (pv 3) Ag)))
   (Aj (Lw Dj (BV Lx (CV Fp rfl T.B.len Fo (Ac (pv 4) Ag)) Ah (Br _))
   (Aj (ss 5 Oe.nd (Ak Hz (Ak Em (Jh D_last hr (pv 1)) Ah) (CV Fp rfl T.B.len Fo (Ac (pv 4) Ag))))
   (Aj (ss 6 Oe.nd (Bm Bu (pv 4) (Gy Zt Ah) (fun _ _=>rfl)))
   (Aj (ss 7 Oe.nd (Ak DW Ah (pv 6)))
   (Aj (ss 8 Oe.nd (Ak Cm (Ak Cm (Fg D_crowd hr (pv 1) (Ac (Ak Hz (pv 5) Ah) Ag)) (Fg D_behind hr (pv 0) (Ac (pv 7) Ag))) (Gy Ih (pv 7))))
   (Al (BJ (BV (Dl hr.units) (pv 8) Ah (Br _))
   (Aj (Ek (Bc Zmz hr (Ac (pv 0) (Ac (pv 1) (Ac (pv 2) (Ac (pv 5) (Ac (pv 6) Ag)))))))
   (Al (Ek (R0 Ja YaR PySem.F.type_list_pop ZyE (pv 4)))))
   (Al (BJ (BV (Dl hr.units) (pv 5) Ah (Br _))
   (Al (Bb (Ak Em (JB (Ac (Bc HW hr (Ac (pv 8) Ag)) Ag)) (Zqn rfl rfl T.B.list rfl T.B.reversed (pv 4)))))
   (Al (Ek (Ku Ja Kd Ls Jg (pv 4) (Ac (Bc HW hr (Ac (pv 8) Ag)) Ag)))))))))))))
   (Al (Bb G8)))),?_⟩
 walk_at "rd0";refine JG (by simp) fun al H1 s1 n1 e1=>?_;have e1:H1 al=some (.lst ((nums [b0]).map V.int)):=e1;walk_at ""
 refine⟨IvI t c p dx l dl d0 m st bd af cr0 b0 al H,
  ⟨_,d0,o0,L0,cr0,es0,[b0],_,_,_,_,MV.of s1,h0.same s1,rfl,e1,⟨by simp; omega,fun i x hi=>?_,fun i x y h1 h2=>?_⟩,Ax _,(fun z=>by cases z),rfl,rfl⟩,?_⟩
 ·cases i with
  | zero=>
   have:b0=x:=by simpa using hi
   subst this;exact⟨hb,hbc,hbb⟩
  | succ i=>simp at hi
 ·simp at h2
 intro mm σ H2 h_;refine xE10 h_ fun d o L cr es as v5 v6 v7 v8 h1_=>nE9 h1_ fun v2 h2 hcl ea A w1 w2 e0_ e1_=>?_;clear h_ h1_;subst e0_;subst e1_;have F2:=h2.fr;walk_at "";rw[Eo];refine Eg (fun hlen=>?_) (fun hlen=>?_)
 rotate_left
 ·walk_at ""
  have e0:as=[]:=Ud.mp (by omega);exact qn d o L cr es H2 v2 h2 hcl (w2 e0)
 obtain⟨as',x,rfl⟩ : ∃as' x,as=as'++[x]:=by
  rcases List.eq_nil_or_concat as with e | ⟨a,b,e⟩
  ·rw[e]at hlen; simp at hlen
  ·exact⟨a,b,by rw[e,List.concat_eq_append]⟩
 have lx:(as'++[x]).length=as'.length+1:=by rw[Ca,Ei]
 have gx:(as'++[x])[as'.length]?=some x:=by rw[Gk (Ax _),Gv]; rfl
 refine nE3 (A.el _ _ gx) fun x1 x2 x3=>?_;have lA:=A.ln;rw[lx]at lA hlen;have lb:=ZxP A (by simp);refine⟨fun σ' H'=>∃mm',mm' < wS m cr cr0.length * (cr0.length+1)+(cr0.length - (as'++[x]).length)∧IvI t c p dx l dl d0 m st bd af cr0 b0 al H mm' σ' H',fun _ _ z=>z,?_⟩;rw[lx];walk_at "";refine⟨p,_,_,_,rfl,F2.ob,rfl,DG _ _ _ _ (by decide) (by decide) (by decide),?_⟩;walk_at "";refine⟨F2.ob,p,dx,c,d,l,o,m,st,bd,af,L,cr,rfl,F2,?_⟩;walk_at "";rw[Eo,lx,show(cr.length:Int) - 1+1 - ((as'.length+1:Nat):Int)=((cr.length - (as'.length+1):Nat):Int) by omega];generalize hk:cr.length - (as'.length+1)=k;walk_at ""
 have ea2:H2 al=some (.lst ((nums as').map V.int++[V.int (x:Int)])):=by rw[ea,KQ]
 refine Z0 ea2 (ZxQ _ _) ?_;walk_at "";rw[Eh];refine⟨p,_,_,_,rfl,F2.ob,rfl,DG _ _ _ _ (by decide) (by decide) (by decide),?_⟩;walk_at "";rw[show(k:Int) - 1=((k - 1:Nat):Int) by omega];refine⟨F2.ob,p,dx,c,d,l,o,m,st,bd,af,L,cr,k - 1,rfl,F2,by omega,?_⟩;refine xE3 (F2.ch.ins "behind" (by decide) (by decide) (by decide) (by decide)) fun C dxc fsc h1_=>nE3 h1_ fun ec hCc hlc=>?_;walk_at "";refine⟨c,C,dxc,fsc,rfl,ec,hCc,hlc,?_⟩;walk_at "";refine⟨ec,c,m,st,bd,af,2 ^ x,rfl,F2.ch,by rw[G.ln]; exact Gh G.m6,fun H3 s3=>?_⟩;walk_at "";rw[Dw,Hg];have h3:=h2.same s3;have v3:=v2.more s3;have ea3:=s3 _ _ ea2;refine xE1 (h3.dy) fun ps h1_=>nE2 h1_ fun ed _=>?_
 have nal:l≠al:=fun z=>by rw[z]at h0; exact absurd n1 h0.ne.2.1
 have nad:dl≠al:=fun z=>by rw[z]at h0; exact absurd n1 h0.ne.2.2
 have nap:al≠p:=fun z=>by rw[←z]at h0; exact absurd n1 h0.ne.1
 have nav:al≠d:=BZ ea3 h3.fr.lv (by intro z; cases z)
 have x2':(cr.getD k 0).testBit x=true:=by rw[←hk,show cr.length - (as'.length+1)=cr.length - 1 - as'.length by omega]; exact x2
 have x3':(bkN af bd (cr.length - 1 - k)).testBit x=true:=by rw[show cr.length - 1 - k=as'.length by omega]; exact x3
 have sf:∀y,((cr.getD (k - 1) 0 &&& behN af (2 ^ x)) - ((cr.getD (k - 1) 0 &&& behN af (2 ^ x)) &&& 2 ^ x)).testBit y=true→y < 2 ^ m∧Src cr af (cr.length - (as'.length+1)) x y:=fun y hy=>by
  have S:=Zzk hy;rw[hk];exact⟨by rw[←G.ln]; exact S.yl,S⟩
 have om:=fun z=>Zw5 (held:=cr.getD (k - 1) 0) G hm x1 (Zul h2.si (k:=k) (by omega) (by omega) x3') z;generalize (cr.getD (k - 1) 0 &&& behN af (2 ^ x)) - ((cr.getD (k - 1) 0 &&& behN af (2 ^ x)) &&& 2 ^ x)=src at sf om ⊢;refine Eg (fun hz=>?_) (fun hz=>?_)
 ·walk_at ""
  refine⟨c,p,dx,d,l,o,dl,m,st,bd,af,L,cr,es,k,x,rfl,h3,G,hm,by omega,by omega,x1,x2',x3',lb,om (by omega),fun b d' o' H4 hl S v4 h4=>?_⟩;have ea4:=v4.kp al _ nap nal.symm nad.symm nav ea3;have wl:=(h2.si.shut G S).2.2;walk_at "";refine⟨tyL ea4,?_⟩;walk_at "";refine ZzQ ea4 fun H5 b5 e5=>?_;walk_at "";rw[hcl]at wl;refine⟨_,?_,d',o',_,_,_,as',_,_,_,_,(v3.trans v4 h3.ne.1 h3.ne.2.1 h3.ne.2.2).but b5 n1,h4.but b5 ea4 nal nad,by rw[Jm]; exact hcl,e5,by rw[←hk]; exact A.pop (st:=st),by omega,fun _=>by omega,rfl,rfl⟩;have:=Nat.mul_le_mul_right (cr0.length+1) wl;rw[Nat.succ_mul]at this;omega
 ·have hpos:0 < src:=by omega
  refine nE2 (sf _ (SN hpos).1) fun y1 y2=>?_;walk_at "";refine Eg (fun hk1=>?_) (fun hk1=>?_)
  ·walk_at ""
   refine⟨src,rfl,hpos,?_⟩;walk_at "";refine JG (by simp) fun a1 H4 s4 n4 e4=>?_;walk_at "";refine ZrL (SqL.of (s4 _ _ (s3 _ _ ea))) fun a2 H5 s5 n5 e5=>?_;rw[Zun]at e5;refine ZzP (s5 _ _ e4) e5 (by have:=h2.si.ln; simp only [Eo,Ul,Ca,Ds,G3]; omega) fun a3 H6 s6 n6 e6=>?_
   have z1:a3≠p:=fun z=>by rw[z,(s4.trans s5) _ _ h3.fr.ob]at n6; cases n6
   have z2:a3≠l:=fun z=>by rw[z,(s4.trans s5) _ _ h3.fr.cw]at n6; cases n6
   have z3:a3≠dl:=fun z=>by rw[z,(s4.trans s5) _ _ ed]at n6; cases n6
   have hsn:H a3=none∨a3=d0:=by
    by_cases z4:a3=d0
    ·exact .inr z4
    ·refine .inl ?_
     cases e:H a3 with
     | none=>rfl
     | some u=>
      refine absurd n6 ?_;rw[(s4.trans s5) _ _ (v3.kp a3 u z1 z2 z3 z4 e)]; simp
   have W:=A.way (st:=st) h2.si.fi.st0 (by omega) y1 y2;rw[hcl]at W;exact qw a3 (lowN src::(as'++[x]).reverse) d o L cr es H6 (v3.more (s4.trans (s5.trans s6))) (h3.same (s4.trans (s5.trans s6))) hcl hsn z2 z3 e6 W lb
  ·walk_at ""
   refine⟨tyL ea3,?_⟩;walk_at "";refine⟨src,rfl,hpos,?_⟩;walk_at "";refine Ky ea3 (by rw[Ca,Eo,Ei]; have:=h2.si.ln; omega) fun H4 b4 e4=>?_;walk_at "";refine⟨_,?_,d,o,L,cr,es,as'++[x]++[lowN src],_,_,_,_,v3.but b4 n1,h3.but b4 ea3 nal nad,hcl,by rw[e4,KQ,KQ],A.push (st:=st) (by omega) y1 y2,w1,(fun z=>by simp at z),rfl,rfl⟩;rw[Ca,lx,Ei];omega
end
section
variable {P:Ay} {w:Av} {K:Ao} {mg:Str→Option Ab} {base:Ar} {t:Ad}
noncomputable def ZsZ (t:Ad):Sp:=fun vs H Q _=>∃(c p dx d l:Aa) (o:Obj) (dl:Aa) (m st bd:Nat) (af:List Nat) (L:List (Bar×Nat)) (cr:List Nat) (es:List Ev),vs=[.ref c,.ref p,.ref dl]∧HS false t H c p dx d l o dl m st bd af L cr es∧GoodC m st bd af∧m≤6∧
 (∀d' o' L' cr' es' H',MV p l dl d d' H H'→HS false t H' c p dx d' l o' dl m st bd af L' cr' es'→cr'.length=cr.length→cr'.getD (cr'.length - 1) 0 &&& bd=0→Q .non H')∧
 (∀a ws d' o' L' cr' es' H',MV p l dl d d' H H'→HS false t H' c p dx d' l o' dl m st bd af L' cr' es'→cr'.length=cr.length→(H a=none∨a=d)→a≠l→a≠dl→H' a=some (.lst ((nums ws).map V.int))→Way m st bd af cr.length ws→cr'.getD (cr'.length - 1) 0 &&& bd≠0→Q (.ref a) H')
theorem ZwR {m st bd:Nat} {af:List Nat} {L:List (Bar×Nat)} {cr:List Nat} (h:SI m st bd af L cr) {s:Nat} (hs:(cr.getD (cr.length - 1) 0).testBit s=true):s < 2 ^ m:=by
 have l2:=h.fi.len2;exact((h.fi.kp (cr.length - 1) (by omega) (by omega) s).mp hs).1
theorem MV.fresh {p l dl d0 d1 a:Aa} {H H1:Hp} (v:MV p l dl d0 d1 H H1) (h:H1 a=none∨a=d1) (hp:H1 p≠none) (hl:a≠l) (hd:a≠dl) (hap:a≠p):H a=none∨a=d0:=by
 rcases h with h | h
 ·by_cases z:a=d0
  ·exact .inr z
  ·refine .inl ?_
   cases e:H a with
   | none=>rfl
   | some u=>
    have:=v.kp a u hap hl hd z e;rw[h]at this; cases this
 ·rw[h]
  exact v.nd.symm
abbrev IvN (t:Ad) c p dx l dl d0 m st bd af (cr0:List Nat) H mm (σ:St) H':=∃d o L cr es v4,MV p l dl d0 d H H'∧HS false t H' c p dx d l o dl m st bd af L cr es∧cr.length=cr0.length∧mm=wS m cr cr0.length∧σ=[some (.ref c),some (.ref p),some (.ref dl),some (.int ((cr.getD (cr0.length - 1) 0 &&& bd:Nat):Int)),v4]
theorem Zf0 (T:Txt K mg t):FnS P w K mg base 11 "way_while_clearing" ["chart","frames","diary"] ((ZsZ t)):=by
 refine⟨_,_,T.Qv.ok VJ (fun vs H Q E h=>?_) (fun _ _ _ _ H vs Q E hr h=>?_),T.ZdA,T.Qv.kp,T.ZdB⟩
 ·obtain⟨c,p,dx,d0,l,o0,dl,m,st,bd,af,L0,cr0,es0,rfl,h0,G,hm,qn,qw⟩:=h
  rfl
 refine xE14 h fun c p dx d0 l o0 dl m st bd af L0 cr0 es0 h1_=>nE6 h1_ fun e0_ h0 G hm qn qw=>?_;clear h h1_;subst e0_;have Ztx:=Zse (P:=P) (w:=w) (base:=base) T;have HW:=S8 (P:=P) (w:=w) (base:=base) T;have D_last:=Rf (P:=P) (w:=w) (base:=base) T;have D_crowd:=qb (P:=P) (w:=w) (base:=base) T;have l2:=h0.si.fi.len2;have F0:=h0.fr;refine xE2 (F0.ch) fun dy0 tp0 h1_=>nE2 h1_ fun ch0 _=>?_
 refine⟨_,(Aj (ss 3 VJ.nd (Ak Cm (Fg D_crowd hr (pv 1) (Ac (Jh D_last hr (pv 1)) Ag)) (Cw (pv 0) rfl)))
   (Aj (Lw Dj (CK (pv 3) (fun _=>rfl))
   (Aj (ss 4 VJ.nd (Bc Ztx hr (Ac (pv 0) (Ac (pv 1) (Ac (pv 2) (Ac (Bc HW hr (Ac (pv 3) Ag)) Ag))))))
   (Aj (BJ (BV U4 (pv 4) G8 (Br _))
   (Al (Bb (pv 4)))
   BP)
   (Al (ss 3 VJ.nd (Ak Cm (Fg D_crowd hr (pv 1) (Ac (Jh D_last hr (pv 1)) Ag)) (Cw (pv 0) rfl)))))))
   (Al (Bb G8)))),?_⟩
 walk_at "rd0";refine⟨p,_,_,_,rfl,F0.ob,rfl,DG _ _ _ _ (by decide) (by decide) (by decide),?_⟩;walk_at "";refine⟨p,_,_,_,rfl,F0.ob,rfl,DG _ _ _ _ (by decide) (by decide) (by decide),?_⟩;walk_at "";refine⟨F0.ob,p,dx,c,d0,l,o0,m,st,bd,af,L0,cr0,rfl,F0,?_⟩;walk_at "";rw[show(cr0.length:Int) - 1=((cr0.length - 1:Nat):Int) by omega];refine⟨F0.ob,p,dx,c,d0,l,o0,m,st,bd,af,L0,cr0,cr0.length - 1,rfl,F0,by omega,?_⟩;walk_at "";refine⟨c,_,_,_,_,rfl,ch0,T.Dq,T.KJ,Xh _ _ _ _,?_⟩;walk_at "";rw[Dw];refine⟨IvN t c p dx l dl d0 m st bd af cr0 H,⟨_,d0,o0,L0,cr0,es0,_,MV.of (Same.refl _),h0,rfl,rfl,rfl⟩,?_⟩;intro mm σ H1 h_;refine xE6 h_ fun d o L cr es v4 h1_=>nE5 h1_ fun v1 h1 hcl e0_ e1_=>?_;clear h_ h1_;subst e0_;subst e1_;have F1:=h1.fr;walk_at ""
 dsimp only
 by_cases hz:cr.getD (cr0.length - 1) 0 &&& bd=0
 ·refine Bv (by rw[decide_eq_true (by omega)]; rfl) ?_
  walk_at "";exact qn d o L cr es H1 v1 h1 hcl (by rw[hcl]; exact hz)
 refine CN (by rw[decide_eq_false (by omega)]; rfl) ⟨fun σ' H'=>∃mm',mm' < wS m cr cr0.length∧IvN t c p dx l dl d0 m st bd af cr0 H mm' σ' H',fun _ _ z=>z,?_⟩;have hlow:=(SN (Kp hz)).1;rw[Do,DN]at hlow
 have hlow1:(cr.getD (cr.length - 1) 0).testBit (lowN (cr.getD (cr0.length - 1) 0 &&& bd))=true:=by rw[hcl]; exact hlow.1
 walk_at "";refine⟨_,rfl,Kp hz,?_⟩;walk_at "";refine⟨c,p,dx,d,l,o,dl,m,st,bd,af,L,cr,es,_,rfl,h1,G,hm,ZwR h1.si hlow1,hlow1,hlow.2,fun d' o' L' cr' es' H2 v2 h2 hl wl=>?_,fun a ws d' o' L' cr' es' H2 v2 h2 hl ha nal nad ea W wb=>?_⟩
 ·have F2:=h2.fr
  refine xE2 (F2.ch) fun dy2 tp2 h1_=>nE2 h1_ fun ch2 _=>?_;have vv:=v1.trans v2 h1.ne.1 h1.ne.2.1 h1.ne.2.2;walk_at "";refine⟨rfl,?_⟩;walk_at "";refine Bv (by simp) ?_;walk_at "";refine⟨p,_,_,_,rfl,F2.ob,rfl,DG _ _ _ _ (by decide) (by decide) (by decide),?_⟩;walk_at "";refine⟨p,_,_,_,rfl,F2.ob,rfl,DG _ _ _ _ (by decide) (by decide) (by decide),?_⟩;walk_at "";refine⟨F2.ob,p,dx,c,d',l,o',m,st,bd,af,L',cr',rfl,F2,?_⟩;walk_at "";rw[show(cr'.length:Int) - 1=((cr'.length - 1:Nat):Int) by omega];refine⟨F2.ob,p,dx,c,d',l,o',m,st,bd,af,L',cr',cr'.length - 1,rfl,F2,by omega,?_⟩;walk_at "";refine⟨c,_,_,_,_,rfl,ch2,T.Dq,T.KJ,Xh _ _ _ _,?_⟩;walk_at "";rw[Dw];rw[hcl]at wl;exact⟨_,wl,d',o',L',cr',es',_,vv,h2,by omega,rfl,by rw[hl,hcl]⟩
 ·have vv:=v1.trans v2 h1.ne.1 h1.ne.2.1 h1.ne.2.2
  walk_at "";refine⟨rfl,?_⟩;walk_at "";refine CN (by simp) ?_;walk_at "";rw[hcl]at W;exact qw a ws d' o' L' cr' es' H2 vv h2 (by omega) (v1.fresh ha h1.ne.1 nal nad (BZ ea h2.fr.ob (by intro z; cases z))) nal nad ea W wb
noncomputable def Zzg (t:Ad):Sp:=fun vs H Q _=>∃(c p dx d l:Aa) (o:Obj) (dl:Aa) (m st bd:Nat) (af:List Nat) (L:List (Bar×Nat)) (cr:List Nat) (es:List Ev),vs=[.ref p,.ref dl]∧HS false t H c p dx d l o dl m st bd af L cr es∧GoodC m st bd af∧m≤6∧cr.length≤2 ^ m+2∧cr.getD (cr.length - 1) 0 &&& bd=0∧
 ∀L' cr' es' H',MV p l dl d d H H'→HS (MN cr').isSome t H' c p dx d l o dl m st bd af L' cr' es'→cr'.length=cr.length+1→Q .non H'
theorem Zw3 (T:Txt K mg t):FnS P w K mg base 7 "grow" ["frames","diary"] ((Zzg t)):=by
 refine⟨_,_,T.Qw.ok mq (fun vs H Q E h=>?_) (fun _ _ _ _ H vs Q E hr h=>?_),T.Zu8,T.Qw.kp,T.ZvU⟩
 ·obtain⟨c,p,dx,d,l,o,dl,m,st,bd,af,L,cr,es,rfl,h,G,hm,hcl,hb,q⟩:=h
  rfl
 revert h;intro h0_;refine xE14 h0_ fun c p dx d l o dl m st bd af L cr es h1_=>nE7 h1_ fun e0_ h G hm hcl hb q=>?_;clear h0_ h1_;subst e0_;have D_last:=Rf (P:=P) (w:=w) (base:=base) T;have D_add_frame:=Zkk (P:=P) (w:=w) (base:=base) T;have D_push:=ZqH (P:=P) (w:=w) (base:=base) T;have h32:2 ^ m≤64:=Hq (n:=2) (by decide) hm;have l2:=h.si.fi.len2;have F:=h.fr;obtain⟨ps,ed,pp⟩:=h.dy;have hpl:=En pp;have hen:=h.en
 refine⟨_,(Aj (Ek (Jh D_add_frame hr (pv 0)))
   (Aj (Ek (Ku Ja Kd Ls Jg (pv 1) (Ac (Ge (Ac Gd (Ac (Jh D_last hr (pv 0)) Ag))) Ag)))
   (Al (Ea Dj rfl (HB (Jh D_push hr (pv 0))) (RX rfl (Je (sg 2 mq.nd) (Je (sg 3 mq.nd) RW)))
   (Al (Ek (Ku Ja Kd Ls Jg (pv 1) (Ac (Ge (Ac Gd (Ac (pv 2) (Ac (pv 3) Ag)))) Ag)))))))),?_⟩
 walk_at "rd0";refine⟨p,_,_,_,rfl,F.ob,rfl,DG _ _ _ _ (by decide) (by decide) (by decide),?_⟩;walk_at "";refine⟨F.ob,p,dx,c,d,l,o,m,st,bd,af,L,cr,rfl,F,G.m6,by omega,fun H1 b1 e1=>?_⟩;walk_at "";have F1:=F.cut b1 e1;have ed1:=b1 _ _ h.dn ed;have tk1:∀b xs,H b=some (.tup xs)→H1 b=some (.tup xs):=fun b xs e=>b1 _ _ (BZ e F.cw (by intro z; cases z)) e;refine⟨tyL ed1,?_⟩;walk_at "";refine⟨p,_,_,_,rfl,F1.ob,rfl,DG _ _ _ _ (by decide) (by decide) (by decide),?_⟩;walk_at "";refine⟨F1.ob,p,dx,c,d,l,o,m,st,bd,af,L,_,rfl,F1,?_⟩;walk_at "";rw[Ca,Ei,show((cr.length+1:Nat):Int) - 1=(cr.length:Int) by omega];refine Gf (by simp) fun ep H2 s2 n2 e2=>?_;walk_at "";refine Ky (s2 _ _ ed1) (by rw[Az,hpl]; omega) fun H3 b3 e3=>?_;have F3:=(F1.same s2).lst b3 (s2 _ _ ed1) h.dn.symm;have tk3:∀b xs,H2 b=some (.tup xs)→H3 b=some (.tup xs):=fun b xs e=>b3 _ _ (BZ e (s2 _ _ ed1) (by intro z; cases z)) e;walk_at "";refine⟨p,_,_,_,rfl,F3.ob,rfl,DG _ _ _ _ (by decide) (by decide) (by decide),?_⟩;walk_at "";refine⟨F3.ob,p,dx,c,d,l,o,m,st,bd,af,L,_,rfl,F3,G,ZxN h.si.fi G.af,h.si.few hm,by rw[Ca,Ei]; omega,fun L' cr' due a ts H4 hP o4 na F4 I4 c4 ll4 e4 dd4 dl4=>?_⟩;rw[Ca,Ei,show cr.length+1 - 2=cr.length - 1 by omega]at hP;rw[Ca,Ei]at dl4;obtain⟨I5,l5,w5⟩:=h.si.grow hcl hb hP I4
 have psd:psB L'+due.length≤psB L:=by
  have:=(Zsx (m:=m) (af:=af) (S:=(L,cr++[2 ^ 2 ^ m - 1],[])) h.si.fi.nd (cr.length - 1) (by omega)).1;rw[hP]at this;exact this
 have ndp:dl≠p:=BZ ed F.ob (by intro z; cases z);have ndd:dl≠d:=BZ ed F.lv (by intro z; cases z);have ed4:=o4 _ _ ndp h.dn ndd e3;have tk4:∀b xs,H3 b=some (.tup xs)→H4 b=some (.tup xs):=fun b xs e=>o4 _ _ (BZ e F3.ob (by intro z; cases z)) (BZ e F3.cw (by intro z; cases z)) (BZ e F3.lv (by intro z; cases z)) e;have nda:dl≠a:=(Cj e3 na);have hdl:=En dd4;have pp4:Bd (EvAt H4) (ps++[ep]) (es++[.add cr.length]):=Xb (Dm (fun _ _ z=>z.keep fun b xs e=>tk4 _ _ (tk3 _ _ (s2 _ _ (tk1 _ _ e)))) pp) (.cons (tk4 _ _ (tk3 _ _ e2)) .nil)
 refine seqL (xs:=ts.map V.ref) (fun i σ H'=>∃qs v2 v3,But dl H4 H'∧H' dl=some (.lst (qs.map V.ref))∧Bd (EvAt H') qs (es++[.add cr.length]++(due.take i).map fun x=>.push x.1 x.2)∧σ=[some (.ref p),some (.ref dl),v2,v3])
  ⟨ps++[ep],_,_,fun _ _ _ e=>e,by rw[ed4,Dh]; rfl,by rw[IV,Fe,Ed]; exact pp4,rfl⟩ (fun i σ H' _ hp=>by obtain⟨_,_,_,b,_⟩:=hp; exact SqL.of (b _ _ nda.symm e4)) ?_ ?_
 ·rintro i x σ H5 hx ⟨qs,v2,v3,b5,e5,p5,rfl⟩
  obtain⟨y,rfl,hy⟩:=JW hx;obtain⟨⟨kk,bb⟩,hdi,pb,hy1,hy2⟩:=Hf dd4 hy;have hil:=(Cr.mp hdi).1;have tk5:∀b xs,H4 b=some (.tup xs)→H5 b=some (.tup xs):=fun b xs e=>b5 _ _ (BZ e ed4 (by intro z; cases z)) e;have hql:=En p5;rw[Ca,Ca,Az,Fb,Ei]at hql;refine R9 (tk5 _ _ hy1) ?_;walk_at "";refine⟨tyL e5,?_⟩;walk_at "";refine Gf (by simp) fun ep5 H6 s6 n6 e6=>?_;walk_at "";refine Ky (s6 _ _ e5) (by rw[Az]; omega) fun H7 b7 e7=>?_;walk_at "";have tk7:∀b xs,H6 b=some (.tup xs)→H7 b=some (.tup xs):=fun b xs e=>b7 _ _ (BZ e (s6 _ _ e5) (by intro z; cases z)) e;refine⟨qs++[ep5],_,_,fun b u hb e=>b7 _ _ hb (s6 _ _ (b5 _ _ hb e)),by rw[e7,Dh]; rfl,?_,rfl⟩;rw[Gr hdi,Dh,←Du];exact Xb (Dm (fun _ _ z=>z.keep fun b xs e=>tk7 _ _ (s6 _ _ e)) p5) (.cons ⟨pb,tk7 _ _ e6,tk7 _ _ (s6 _ _ (tk5 _ _ hy2))⟩ .nil)
 ·rintro σ H5 ⟨qs,v2,v3,b5,e5,p5,rfl⟩
  walk_at "";rw[Az,hdl,Ib]at p5
  have ee:es++[.add cr.length]++(due.map fun x=>Ev.push x.1 x.2)=es++.add cr.length::due.map fun x=>Ev.push x.1 x.2:=by simp
  rw[ee]at p5;refine q L' cr' _ H5 ⟨fun b u h1 h2 h3 h4 e=>b5 _ _ h3 (o4 _ _ h1 h2 h4 (b3 _ _ h3 (s2 _ _ (b1 _ _ h2 e)))),.inl rfl⟩ ⟨F4.lst b5 ed4 h.dn.symm,⟨qs,e5,p5⟩,h.dn,.grow h.tr h.si hb hP,I5,?_⟩ l5;rw[Ca,Ds,Az,l5];rw[l5]at w5;omega
end
theorem Xw {cr:List Nat}:∀{n k j:Nat},HR cr n k=some j→k≤j∧j < k+n∧cr.getD j 0=cr.getD (j+1) 0∧∀i,k≤i→i < j→cr.getD i 0≠cr.getD (i+1) 0
 | 0,k,j,h=>by cases h
 | n+1,k,j,h=>by
  unfold HR at h
  by_cases e:cr.getD k 0=cr.getD (k+1) 0
  ·rw[if_pos e]at h
   cases h
   exact⟨Ax _,by omega,e,fun i h1 h2=>by omega⟩
  ·rw[if_neg e]at h
   obtain⟨a,b,c,d⟩:=Xw h;refine⟨by omega,by omega,c,fun i h1 h2=>?_⟩
   by_cases z:i=k
   ·rw[z]; exact e
   ·exact d i (by omega) h2
theorem Zlm {cr:List Nat}:∀{n k:Nat},HR cr n k=none→∀i,k≤i→i < k+n→cr.getD i 0≠cr.getD (i+1) 0
 | 0,k,_,i,h1,h2=>by omega
 | n+1,k,h,i,h1,h2=>by
  unfold HR at h
  by_cases e:cr.getD k 0=cr.getD (k+1) 0
  ·rw[if_pos e]at h; cases h
  ·rw[if_neg e]at h
   by_cases z:i=k
   ·rw[z]; exact e
   ·exact Zlm h i (by omega) (by omega)
structure HuntR (m st bd:Nat) (af:List Nat) (H:Hp) (r:Aa) (H':Hp) (dl ep a:Aa) (es:List Ev):Prop where
  sm:Same H H'
  er:H' r=some (.tup [.ref dl,.ref ep])
  dy:∃qs,H' dl=some (.lst (qs.map V.ref))∧Bd (EvAt H') qs es
  nd:H dl=none
  na:H a=none
  ne:dl≠a
  zz:es.length≤1000000
  out:(∃x,st.testBit x=true∧bd.testBit x=true∧x < 2 ^ m∧es=[]∧H' ep=some (.tup [.str "ever",.ref a])∧H' a=some (.lst ((nums [x]).map V.int)))∨
    (st &&& bd=0∧∃L cr sb,Trc m st bd af L cr es sb∧SI m st bd af L cr∧
      ((∃ws,sb=false∧H' ep=some (.tup [.str "ever",.ref a])∧H' a=some (.lst ((nums ws).map V.int))∧Way m st bd af cr.length ws∧cr.getD (cr.length - 1) 0 &&& bd≠0)∨
       (∃k,MN cr=some k∧sb=true∧H' ep=some (.tup [.str "never",.ref a])∧Zu3 H' a ((L.filter fun q=>decide (k≤q.2)).map (·.1)))))
def WvI (m st bd:Nat) (af:List Nat) (H H':Hp) (dl:Aa) (cr:List Nat) (v:V):Prop:=(v=.non∧cr.getD (cr.length - 1) 0 &&& bd=0)∨∃a ws,v=.ref a∧H a=none∧a≠dl∧H' a=some (.lst ((nums ws).map V.int))∧Way m st bd af cr.length ws∧cr.getD (cr.length - 1) 0 &&& bd≠0
section
variable {P:Ay} {w:Av} {K:Ao} {mg:Str→Option Ab} {base:Ar} {t:Ad}
noncomputable def Zzh (t:Ad):Sp:=fun vs H Q _=>∃(c:Aa) (m st bd:Nat) (af:List Nat),vs=[.ref c]∧Dy t H c m st bd af∧GoodC m st bd af∧m≤6∧∀r dl ep a es H',HuntR m st bd af H r H' dl ep a es→Q (.ref r) H'
abbrev IvL (t:Ad) c p dx l dl d0 m st bd af H2 H (σ:St) H':=∃d o L cr es v4 v5,MV p l dl d0 d H2 H'∧HS false t H' c p dx d l o dl m st bd af L cr es∧cr.length≤2 ^ m+2∧WvI m st bd af H H' dl cr v4∧σ=[some (.ref c),some (.ref dl),some (.int ((st &&& bd:Nat):Int)),some (.ref p),some v4,v5]
abbrev IvM (t:Ad) c p dx l dl d0 m st bd af H2 H mm (σ:St) H':=∃d o L cr es v4 v5,MV p l dl d0 d H2 H'∧HS false t H' c p dx d l o dl m st bd af L cr es∧cr.length≤2 ^ m+2∧WvI m st bd af H H' dl cr v4∧mm=2 ^ m+3 - cr.length∧σ=[some (.ref c),some (.ref dl),some (.int ((st &&& bd:Nat):Int)),some (.ref p),some v4,v5]
theorem Zw4 (T:Txt K mg t):FnS P w K mg base 13 "hunt" ["chart"] ((Zzh t)):=by
 refine⟨_,_,T.Qx.ok Mg (fun vs H Q E h=>?_) (fun _ _ _ _ H vs Q E hr h=>?_),T.Zu9,T.Qx.kp,T.ZvV⟩
 ·obtain⟨c,m,st,bd,af,rfl,hC,G,hm,q⟩:=h
  rfl
 refine xE5 h fun c m st bd af h1_=>nE5 h1_ fun e0_ hC G hm q=>?_;clear h h1_;subst e0_;have HW:=S8 (P:=P) (w:=w) (base:=base) T;have Zdz:=Zf0 (P:=P) (w:=w) (base:=base) T;have ZxH:=Zw3 (P:=P) (w:=w) (base:=base) T;have Zty:=Zsb (P:=P) (w:=w) (base:=base) T;have D_still:=ZpH (P:=P) (w:=w) (base:=base) T;have D_bars:=Zmx (P:=P) (w:=w) (base:=base) T;have h32:2 ^ m≤64:=Hq (n:=2) (by decide) hm;obtain⟨dy0,tp0,ch0,_⟩:=id hC
 refine⟨_,(Aj (ss 1 Mg.nd (JB Ag))
   (Aj (ss 2 Mg.nd (Ak Cm (Cw (pv 0) rfl) (Cw (pv 0) rfl)))
   (Aj (BJ (CK (pv 2) (fun _=>rfl))
   (Al (Bb (Ge (Ac (pv 1) (Ac (Ge (Ac Gd (Ac (JB (Ac (Bc HW hr (Ac (pv 2) Ag)) Ag)) Ag))) Ag)))))
   BP)
   (Aj (ss 3 Mg.nd (ZS Zty hr (Ac (pv 0) Ag)))
   (Aj (ss 4 Mg.nd (Bc Zdz hr (Ac (pv 0) (Ac (pv 3) (Ac (pv 1) Ag)))))
   (Aj (Lw Dj (BV Zu (pv 4) G8 (Br _))
   (Aj (Ek (Bc ZxH hr (Ac (pv 3) (Ac (pv 1) Ag))))
   (Aj (ss 5 Mg.nd (Jh D_still hr (pv 3)))
   (Aj (BJ (BV U4 (pv 5) G8 (Br _))
   (Al (Bb (Ge (Ac (pv 1) (Ac (Ge (Ac Gd (Ac (Fg D_bars hr (pv 3) (Ac (pv 5) Ag)) Ag))) Ag)))))
   BP)
   (Al (ss 4 Mg.nd (Bc Zdz hr (Ac (pv 0) (Ac (pv 3) (Ac (pv 1) Ag))))))))))
   (Al (Bb (Ge (Ac (pv 1) (Ac (Ge (Ac Gd (Ac (pv 4) Ag))) Ag))))))))))),?_⟩
 walk_at "rd0";refine JG (by simp) fun dl H1 s1 n1 e1=>?_;walk_at "";refine⟨c,_,_,_,_,rfl,s1 _ _ ch0,T.Dq,T.JV,SX _ _ _ _,?_⟩;walk_at "";refine⟨c,_,_,_,_,rfl,s1 _ _ ch0,T.Dq,T.KJ,Xh _ _ _ _,?_⟩;walk_at "";rw[Dw]
 (try dsimp only)
 by_cases hz:st &&& bd=0
 rotate_left
 ·have hlow:=(SN (Kp hz)).1
  rw[Do,DN]at hlow;refine CN (by rw[decide_eq_false (by omega)]; rfl) ?_;walk_at "";refine⟨_,rfl,Kp hz,?_⟩;walk_at "";refine JG (by simp) fun a H2 s2 n2 e2=>?_;walk_at "";refine Gf (by simp) fun ep H3 s3 n3 e3=>?_;walk_at "";refine Gf (by simp) fun r H4 s4 n4 e4=>?_;exact q r dl ep a [] H4 ⟨s1.trans (s2.trans (s3.trans s4)),e4,⟨[],(s2.trans (s3.trans s4)) _ _ e1,.nil⟩,n1,s1.free n2,Cj e1 n2,Cy _,.inl ⟨_,hlow.1,hlow.2,Jo G.st hlow.1,rfl,s4 _ _ e3,(s3.trans s4) _ _ e2⟩⟩
 refine Bv (by rw[decide_eq_true (by omega)]; rfl) ?_;walk_at "";refine ZtX (hC.mono (Ext.of s1)) G.m6 fun p dx d0 l o0 H2 s2 np nl nd0 npl F2=>?_;have ndl:dl≠l:=Cj e1 nl
 have S0:SI m st bd af [] [st,2 ^ 2 ^ m - 1]:=⟨ZwJ G.st G.af,fun k hk=>by
  have:k=0:=by simp at hk; omega
  subst this
  exact hz,(fun q hq=>by cases hq),by show 2≤2 ^ m+3; have:=Ef m; omega⟩
 have h2:HS false t H2 c p dx d0 l o0 dl m st bd af [] [st,2 ^ 2 ^ m - 1] []:=⟨F2,⟨[],s2 _ _ e1,.nil⟩,ndl,.nil,S0,by
  have a1:=Mz st (2 ^ m);have a2:=Mz (2 ^ 2 ^ m - 1) (2 ^ m);show 0+0+71 * (0+pc st (2 ^ m)+pc (2 ^ 2 ^ m - 1) (2 ^ m))≤4545 * 2
  omega⟩
 have s12:=s1.trans s2;have np':=s1.free np;have nl':=s1.free nl;have nd':=s1.free nd0;have olds:∀{d:Aa} {H':Hp},MV p l dl d0 d H2 H'→Same H H':=fun {d H'} v b u e=>v.kp b u (Cj e np') (Cj e nl') (Cj e n1) (Cj e nd') (s12 _ _ e)
 have fre:∀{a:Aa},(H2 a=none∨a=d0)→H a=none:=fun {a} z=>z.elim (fun z=>s12.free z) fun z=>by rw[z]; exact nd'
 have clr:∀{d o L cr es} {H':Hp} {Q':VK} {E':XK},MV p l dl d0 d H2 H'→HS false t H' c p dx d l o dl m st bd af L cr es→(∀d' o' L' cr' es' H'' v,MV p l dl d0 d' H2 H''→HS false t H'' c p dx d' l o' dl m st bd af L' cr' es'→cr'.length=cr.length→WvI m st bd af H H'' dl cr' v→Q' v H'')→ZsZ t [.ref c,.ref p,.ref dl] H' Q' E':=fun {d o L cr es H' Q' E'} v h k=>
  ⟨c,p,dx,d,l,o,dl,m,st,bd,af,L,cr,es,rfl,h,G,hm,fun d' o' L' cr' es' H'' v' h' hl hb=>k d' o' L' cr' es' H'' .non (v.trans v' h.ne.1 h.ne.2.1 h.ne.2.2) h' hl (.inl ⟨rfl,hb⟩),
   fun a ws d' o' L' cr' es' H'' v' h' hl ha nal nad ea W wb=>k d' o' L' cr' es' H'' (.ref a) (v.trans v' h.ne.1 h.ne.2.1 h.ne.2.2) h' hl (.inr ⟨a,ws,rfl,fre (v.fresh ha h.ne.1 nal nad (BZ ea h'.fr.ob (by intro z; cases z))),nad,ea,by rw[hl]; exact W,wb⟩)⟩
 walk_at "rs";refine MK (IvL t c p dx l dl d0 m st bd af H2 H) ?_ ?_
 rotate_left
 ·intro Kn hK
  walk_at "";refine clr (MV.of (Same.refl _)) h2 fun d' o' L' cr' es' H3 v v3 h3 hl W=>?_;walk_at "";exact hK _ _ ⟨d',o',L',cr',es',v,_,v3,h3,by rw[hl]; exact YcM 2 _,W,rfl⟩
 intro σ H3 h_;refine xE7 h_ fun d o L cr es v4 v5 h1_=>nE5 h1_ fun v3 h3 hcl W3 e0_=>?_;clear h_ h1_;subst e0_;walk_at "";refine⟨IvM t c p dx l dl d0 m st bd af H2 H,⟨_,d,o,L,cr,es,v4,v5,v3,h3,hcl,W3,rfl,rfl⟩,?_⟩;clear h3 v3 W3 hcl;intro mm σ H3 h_;refine xE7 h_ fun d o L cr es v4 v5 h1_=>nE6 h1_ fun v3 h3 hcl W3 e0_ e1_=>?_;clear h_ h1_;subst e0_;subst e1_;walk_at "";refine⟨rfl,?_⟩;walk_at ""
 rcases W3 with⟨rfl,hb⟩ | ⟨a,ws,rfl,na,nad,ea,W,wb⟩
 ·refine CN (by simp) ⟨fun σ' H'=>∃mm',mm' < 2 ^ m+3 - cr.length∧IvM t c p dx l dl d0 m st bd af H2 H mm' σ' H',fun _ _ z=>z,?_⟩
  walk_at "";refine⟨c,p,dx,d,l,o,dl,m,st,bd,af,L,cr,es,rfl,h3,G,hm,hcl,hb,fun L' cr' es' H4 v4 h4 hl4=>?_⟩;have vv:=v3.trans v4 h3.ne.1 h3.ne.2.1 h3.ne.2.2;have F4:=h4.fr;have l24:=h4.si.fi.len2;have ln4:=h4.si.ln;walk_at "";refine⟨p,_,_,_,rfl,F4.ob,rfl,DG _ _ _ _ (by decide) (by decide) (by decide),?_⟩;walk_at "";refine⟨F4.ob,p,dx,c,d,l,o,m,st,bd,af,L',cr',rfl,F4,l24,by omega,?_⟩;walk_at ""
  cases hst:MN cr' with
  | some k=>
   refine nE4 (Xw (show HR cr' (cr'.length - 2) 1=some k from hst)) fun k1 k2 k3 _=>?_;refine⟨rfl,?_⟩;walk_at "";refine CN (by simp[optV]) ?_;walk_at "";refine⟨p,_,_,_,rfl,F4.ob,rfl,DG _ _ _ _ (by decide) (by decide) (by decide),?_⟩;walk_at "";refine⟨F4.ob,p,dx,c,d,l,o,m,st,bd,af,L',cr',k,rfl,F4,k1,by omega,by have:=h4.si.few hm; omega,fun H5 a s5 n5 hbs=>?_⟩;walk_at "";refine Gf (by simp) fun ep H6 s6 n6 e6=>?_;walk_at "";refine Gf (by simp) fun r H7 s7 n7 e7=>?_;have h7:=h4.same (s5.trans (s6.trans s7));obtain⟨qs,ed,pp⟩:=h7.dy;have tr:=h4.tr;rw[hst]at tr
   have ha:H a=none:=by
    cases e:H a with
    | none=>rfl
    | some u=>
     have:=olds vv _ _ e;rw[n5]at this; cases this
   obtain⟨ps,bs',b1,b2,b3,b4⟩:=hbs;have sm67:=s6.trans s7
   have nda:dl≠a:=fun z=>by
    obtain⟨qs4,ed4,_⟩:=h4.dy;rw[←z,ed4]at n5; cases n5
   exact q r dl ep a _ H7 ⟨fun b u e=>(s5.trans sm67) _ _ (olds vv _ _ e),e7,⟨qs,ed,pp⟩,n1,ha,nda,by have y1:=h4.en; have y2:=h4.si.ln; omega,.inr ⟨hz,L',cr',_,tr,h4.si,.inr ⟨k,hst,rfl,s7 _ _ e6,ps,bs',sm67 _ _ b1,Dm (fun _ _ z=>sm67 _ _ z) b2,b3,b4⟩⟩⟩
  | none=>
   refine⟨rfl,?_⟩;walk_at "";refine Bv (by simp[optV]) ?_;have hle:=Zri G h4.si.fi fun k k1 k2=>Zlm (show HR cr' (cr'.length - 2) 1=none from hst) k k1 (by omega)
   have h4':HS false t H4 c p dx d l o dl m st bd af L' cr' es':=by
    have:=h4;rw[hst]at this;exact this
   walk_at "";refine clr vv h4' fun d5 o5 L5 cr5 es5 H5 v v5' h5 hl5 W5=>?_;walk_at "";exact⟨_,by omega,d5,o5,L5,cr5,es5,v,_,v5',h5,by omega,W5,rfl,rfl⟩
 ·refine Bv (by simp) ?_
  walk_at "";refine Gf (by simp) fun ep H4 s4 n4 e4=>?_;walk_at "";refine Gf (by simp) fun r H5 s5 n5 e5=>?_;have h5:=h3.same (s4.trans s5);obtain⟨qs,ed,pp⟩:=h5.dy;exact q r dl ep a _ H5 ⟨fun b u e=>(s4.trans s5) _ _ (olds v3 _ _ e),e5,⟨qs,ed,pp⟩,n1,na,nad.symm,by have y1:=h3.en; have y2:=h3.si.ln; omega,.inr ⟨hz,L,cr,_,h3.tr,h3.si,.inl ⟨ws,rfl,s5 _ _ e4,(s4.trans s5) _ _ ea,W,wb⟩⟩⟩
end
theorem ZmG {af:List Nat} {j:Nat} (h:j < af.length):ahN af (2 ^ j)=af.getD j 0:=by
 unfold ahN;rw[Zpf (j:=j) (fun k hk=>by rw[Ng,decide_eq_false (DX hk),if_neg Cg]) _ h,Ng,decide_eq_true rfl,if_pos rfl]
section
variable {P:Ay} {w:Av} {K:Ao} {mg:Str→Option Ab} {base:Ar} {t:Ad}
noncomputable def ZsW (t:Ad):Sp:=fun vs H Q _=>∃(p:Aa) (m st bd:Int) (af:List Nat) (s:Nat),vs=[.ref p,.int (s:Int)]∧Dy t H p m st bd af∧∀H',Same H H'→Q (.int ((ahN af s:Nat):Int)) H'
theorem ZkD (T:Txt K mg t):MeS P w K mg base 1 t.CP "ahead" ["self","crowd"] (spAt (ZsW t) t.CP):=by
 refine⟨T.Dq,_,_,T.Q8.ok Sx (fun vs H Q E h=>?_) (fun _ _ _ _ H vs Q E hr h=>?_),T.Zg7,T.Zhn⟩
 ·obtain⟨⟨p,m,st,bd,af,s,rfl,_⟩,_⟩:=h
  rfl
 replace h:=h.1;refine xE6 h fun p m st bd af n h1_=>nE3 h1_ fun e0_ hc q=>?_;clear h h1_;subst e0_;obtain⟨dx,tp,e1,e2⟩:=hc
 refine⟨_,(Aj (ss 2 Sx.nd Ah)
   (Aj (Ea Dj rfl (Zsn rfl T.B.enumerate (Cw (pv 0) rfl)) (RX rfl (Je (sg 3 Sx.nd) (Je (sg 4 Sx.nd) RW)))
   (Al (BJ (CK (Ak Cm (Ak Jx (pv 1) (pv 3)) Ah) (fun _=>rfl))
   (Al (ss 2 Sx.nd (Ak Hb (pv 2) (pv 4))))
   BP)))
   (Al (Bb (pv 2))))),?_⟩
 walk_at "rd0";refine⟨p,_,_,_,_,rfl,e1,T.Dq,T.Ra,Zo1 _ _ _ _,?_⟩;refine Zy8 (xs:=(nums af).map V.int) (fun i σ H'=>Same H H'∧∃v v',σ=[some (.ref p),some (.int (n:Int)),some (.int ((orUp (fun k=>if n.testBit k=true then af.getD k 0 else 0) i:Nat):Int)),v,v']) ⟨Same.refl _,_,_,rfl⟩ (fun i σ H' _ hp=>SqT.of (hp.1 _ _ e2)) ?_ ?_
 ·rintro i x T' σ H0 H' hx ⟨s1,v,v',rfl⟩ s2 n2 eT
  obtain⟨hi,rfl⟩:=Zrl hx;refine R9 eT ?_;walk_at "";rw[ZrX];refine Kw (fun h1=>?_) (fun h1=>?_)
  ·walk_at ""
   rw[GQ];refine⟨s1.trans s2,some (.int (i:Int)),some (.int ((af.getD i 0:Nat):Int)),?_⟩
   have e:orUp (fun k=>if n.testBit k=true then af.getD k 0 else 0) (i+1)=orUp (fun k=>if n.testBit k=true then af.getD k 0 else 0) i ||| af.getD i 0:=by
    show orUp _ i ||| (if n.testBit i=true then af.getD i 0 else 0)=_
    rw[if_pos h1]
   rw[e]
   all_goals rfl
  ·walk_at ""
   refine⟨s1.trans s2,some (.int (i:Int)),some (.int ((af.getD i 0:Nat):Int)),?_⟩;rw[Xe (n:=i) (show(if n.testBit i=true then af.getD i 0 else 0)=0 by rw[h1,if_neg Cg])]
   all_goals rfl
 ·rintro σ H' ⟨s1,v,v',rfl⟩
  rw[Eo];walk_at "";exact q H' s1
theorem ZkN (T:Txt K mg t):∀C,isCh t C→MeS P w K mg base 1 C "ahead" ["self","crowd"] (spAt (ZsW t) C):=by
 rintro C rfl;exact ZkD T
noncomputable def Bx (n:Nat) (bs:List Bar):Nat:=bits (fun s=>bs.any (lies s)) n
theorem Xx (n:Nat):Bx n []=0:=by unfold Bx; simp only [any_nil]; exact Vd n
theorem qz (n:Nat) (bs:List Bar) (b:Bar):Bx n (bs++[b])=Bx n bs ||| Bh n b:=by
 unfold Bx Bh;rw[Zwo]
 exact Lz fun s hs=>by rw[List.any_append,Yi,any_nil,Rr]
theorem q9 (n:Nat) (bs:List Bar):Bx n bs < 2 ^ n:=JD _ _
noncomputable def Zs6:Sp:=fun vs H Q _=>∃(m:Nat) (l:Aa) (ps:List Aa) (bs:List Bar),vs=[.int (m:Int),.ref l]∧m≤6∧H l=some (.lst (ps.map V.ref))∧Bd (Bl H) ps bs∧(∀b∈bs,b.good)∧Q (.int ((Bx (2 ^ m) bs:Nat):Int)) H
theorem ZjS (T:Txt K mg t):FnS P w K mg base 2 "shut_out" ["many","bars"] (Zs6):=by
 refine⟨_,_,T.Qg.ok VH (fun vs H Q E h=>?_) (fun _ _ _ _ H vs Q E hr h=>?_),T.ZkZ,T.Qg.kp,T.Zle⟩
 ·obtain⟨m,l,ps,bs,rfl,hm,hl,hb,hg,q⟩:=h
  rfl
 refine xE4 h fun m l ps bs h1_=>nE6 h1_ fun e0_ hm hl hb hg q=>?_;clear h h1_;subst e0_;have Io:=Rc (P:=P) (w:=w) (base:=base) T
 refine⟨_,(Aj (ss 2 VH.nd Ah)
   (Aj (Ea Dj rfl (HB (pv 1)) (sg 3 VH.nd)
   (Al (ss 2 VH.nd (Ak Hb (pv 2) (Bc Io hr (Ac (pv 0) (Ac (pv 3) Ag)))))))
   (Al (Bb (pv 2))))),?_⟩
 walk_at "rd0";refine seqL (xs:=ps.map V.ref) (fun i σ H'=>H'=H∧∃v,σ=[some (.int (m:Int)),some (.ref l),some (.int ((Bx (2 ^ m) (bs.take i):Nat):Int)),v]) ⟨rfl,_,by rw[IV,Xx]; rfl⟩ (fun i σ H' _ hp=>by obtain⟨rfl,_⟩:=hp; exact SqL.of hl) ?_ ?_
 ·rintro i x σ H' hx ⟨rfl,v,rfl⟩
  obtain⟨p,rfl,hx'⟩:=JW hx;obtain⟨b,hbi,hbp⟩:=Hf hb hx';walk_at "";refine⟨m,p,b,rfl,hm,hbp,hg b (Df hbi),?_⟩;walk_at "";refine⟨rfl,some (.ref p),?_⟩;rw[GQ,Gr hbi,qz]
  all_goals rfl
 ·rintro σ H' ⟨rfl,v,rfl⟩
  walk_at "";rw[Az,En hb,Ib];exact q
inductive Flt where
 | ok
 | start (s:Nat)
 | step (s t:Nat)
 | bad (s:Nat)
noncomputable def Xy (H:Hp):Flt→V→Prop
 | .ok,x=>x=.non
 | .start s,x=>∃p,x=.ref p∧H p=some (.tup [.str "start",.int (s:Int)])
 | .step s t,x=>∃p,x=.ref p∧H p=some (.tup [.str "step",.int (s:Int),.int (t:Int)])
 | .bad s,x=>∃p,x=.ref p∧H p=some (.tup [.str "bad",.int (s:Int)])
noncomputable def srcN (af:List Nat) (c:Nat):Nat:=behN af c - (behN af c &&& c)
noncomputable def KZ (af:List Nat) (st bd c:Nat):Flt:=if st &&& c≠0 then .start (lowN (st &&& c)) else if srcN af c≠0 then .step (lowN (srcN af c)) (lowN (af.getD (lowN (srcN af c)) 0 &&& c)) else if bd - (bd &&& c)≠0 then .bad (lowN (bd - (bd &&& c))) else .ok
theorem rn (af:List Nat) (c k:Nat):(srcN af c).testBit k=true ↔ k < af.length∧af.getD k 0 &&& c≠0∧c.testBit k=false:=by
 unfold srcN;rw[GD,DN];unfold behN;rw[Gp,DN,decide_eq_true_iff,decide_eq_true_iff]
 constructor
 ·rintro⟨⟨h1,h2⟩,h3⟩
  exact⟨h1,h2,by simpa using h3⟩
 ·rintro⟨h1,h2,h3⟩
  exact⟨⟨h1,h2⟩,by rw[h3]; rfl⟩
noncomputable def Zxp (t:Ad):Sp:=fun vs H Q _=>∃(p:Aa) (m st bd c:Nat) (af:List Nat),vs=[.ref p,.int (c:Int)]∧Dy t H p m st bd af∧GoodC m st bd af∧c < 2 ^ 2 ^ m∧(srcN af c=0→∀H',Same H H'→Q .non H')∧(srcN af c≠0→∀x H',Same H H'→Xy H' (.step (lowN (srcN af c)) (lowN (af.getD (lowN (srcN af c)) 0 &&& c))) x→Q x H')
theorem Zik (T:Txt K mg t):FnS P w K mg base 2 "first_crossing" ["chart","inside"] ((Zxp t)):=by
 refine⟨_,_,T.Qh.ok lu (fun vs H Q E h=>?_) (fun _ _ _ _ H vs Q E hr h=>?_),T.ZfA,T.Qh.kp,T.ZfD⟩
 ·obtain⟨p,m,st,bd,c,af,rfl,hC,hG,hc,q1,q2⟩:=h
  rfl
 refine xE6 h fun p m st bd c af h1_=>nE6 h1_ fun e0_ hC hG hc q1 q2=>?_;clear h h1_;subst e0_;have HW:=S8 (P:=P) (w:=w) (base:=base) T;have D_ahead:=ZkN (P:=P) (w:=w) (base:=base) T;have D_behind:=Xi (P:=P) (w:=w) (base:=base) T;have hp:=Gh hG.m6;have ln:=hG.ln;obtain⟨C,dx,fs,ei,hi,lk⟩:=hC.ins "ahead" (by decide) (by decide) (by decide) (by decide);obtain⟨C',dx',fs',ei',hi',lk'⟩:=hC.ins "behind" (by decide) (by decide) (by decide) (by decide)
 refine⟨_,(Aj (ss 2 lu.nd (Ak Cm (Fg D_behind hr (pv 0) (Ac (pv 1) Ag)) (Gy Ih (pv 1))))
   (Aj (BJ (BV (Dl hr.units) (pv 2) Ah (Br _))
   (Al (Bb G8))
   BP)
   (Aj (ss 3 lu.nd (Bc HW hr (Ac (pv 2) Ag)))
   (Al (Bb (Ge (Ac Gd (Ac (pv 3) (Ac (Bc HW hr (Ac (Ak Cm (Fg D_ahead hr (pv 0) (Ac (Ak DW Ah (pv 3)) Ag)) (pv 1)) Ag)) Ag))))))))),?_⟩
 walk_at "rd0";refine⟨p,C',dx',fs',rfl,ei',hi',lk',?_⟩;walk_at "";refine⟨ei',p,_,_,_,af,_,rfl,hC,by omega,fun H1 s1=>?_⟩;walk_at "";rw[Hg]
 change (if decide (((srcN af c:Nat):Int)=0)=true then _ else _)
 refine Eg (fun h1=>?_) (fun h1=>?_)
 ·walk_at ""
  exact q1 (by omega) H1 s1
 ·have hs:srcN af c≠0:=by omega
  have hb:=(SN (Kp hs)).1;obtain⟨b1,b2,b3⟩:=(rn af c _).mp hb;walk_at "";refine⟨srcN af c,rfl,Kp hs,?_⟩;walk_at "";refine⟨p,C,dx,fs,rfl,s1 _ _ ei,hi,lk,?_⟩;walk_at "";rw[Eh];refine⟨s1 _ _ ei,p,_,_,_,af,_,rfl,hC.mono (Ext.of s1),fun H2 s2=>?_⟩;rw[ZmG b1];walk_at "";rw[Dw];refine⟨_,rfl,Kp b2,?_⟩;walk_at "";refine Gf (Ln rfl) fun px H3 s3 n3 e3=>?_;exact q2 hs _ H3 (s1.trans (s2.trans s3)) ⟨px,rfl,e3⟩
noncomputable def ZuV (t:Ad):Sp:=fun vs H Q _=>∃(p:Aa) (m st bd c:Nat) (af:List Nat),vs=[.ref p,.int (c:Int)]∧Dy t H p m st bd af∧GoodC m st bd af∧c < 2 ^ 2 ^ m∧∀x H',Same H H'→Xy H' (KZ af st bd c) x→Q x H'
theorem Zfa (T:Txt K mg t):FnS P w K mg base 3 "fault_of_crowd" ["chart","inside"] ((ZuV t)):=by
 refine⟨_,_,T.Qi.ok lw (fun vs H Q E h=>?_) (fun _ _ _ _ H vs Q E hr h=>?_),T.Zfz,T.Qi.kp,T.ZfC⟩
 ·obtain⟨p,m,st,bd,c,af,rfl,hC,hG,hc,q⟩:=h
  rfl
 refine xE6 h fun p m st bd c af h1_=>nE5 h1_ fun e0_ hC hG hc q=>?_;clear h h1_;subst e0_;have HW:=S8 (P:=P) (w:=w) (base:=base) T;have ZiV:=Zik (P:=P) (w:=w) (base:=base) T;obtain⟨dy,tp,c1,c2⟩:=id hC
 refine⟨_,(Aj (BJ (CK (Ak Cm (Cw (pv 0) rfl) (pv 1)) (fun _=>rfl))
   (Al (Bb (Ge (Ac Gd (Ac (Bc HW hr (Ac (Ak Cm (Cw (pv 0) rfl) (pv 1)) Ag)) Ag)))))
   BP)
   (Aj (ss 2 lw.nd (Bc ZiV hr (Ac (pv 0) (Ac (pv 1) Ag))))
   (Aj (BJ (BV U4 (pv 2) G8 (Br _))
   (Al (Bb (pv 2)))
   BP)
   (Aj (ss 3 lw.nd (Ak Cm (Cw (pv 0) rfl) (Gy Ih (pv 1))))
   (Aj (BJ (CK (pv 3) (fun _=>rfl))
   (Al (Bb (Ge (Ac Gd (Ac (Bc HW hr (Ac (pv 3) Ag)) Ag)))))
   BP)
   (Al (Bb G8))))))),?_⟩
 walk_at "rd0";refine⟨p,_,_,_,_,rfl,c1,T.Dq,T.JV,SX _ _ _ _,?_⟩;walk_at "";rw[Dw];refine NT (fun h1=>?_) (fun h1=>?_)
 ·have h1':st &&& c≠0:=by omega
  walk_at "";refine⟨p,_,_,_,_,rfl,c1,T.Dq,T.JV,SX _ _ _ _,?_⟩;walk_at "";rw[Dw];refine⟨_,rfl,Kp h1',?_⟩;walk_at "";refine Gf (Ln rfl) fun px H3 s3 n3 e3=>?_;refine q _ H3 s3 ?_;unfold KZ;rw[if_pos h1'];exact⟨px,rfl,e3⟩
 ·have h1' : ¬st &&& c≠0:=by omega
  walk_at "";refine⟨p,m,st,bd,c,af,rfl,hC,hG,hc,fun h2 H1 s1=>?_,fun h2 x H1 s1 hx=>?_⟩
  ·walk_at ""
   refine⟨rfl,?_⟩;walk_at "";refine Bv (by simp) ?_;walk_at "";refine⟨p,_,_,_,_,rfl,s1 _ _ c1,T.Dq,T.KJ,Xh _ _ _ _,?_⟩;walk_at "";rw[Hg];refine NT (fun h3=>?_) (fun h3=>?_)
   ·have h3':bd - (bd &&& c)≠0:=by omega
    walk_at "";refine⟨_,rfl,Kp h3',?_⟩;walk_at "";refine Gf (Ln rfl) fun px H3 s3 n3 e3=>?_;refine q _ H3 (s1.trans s3) ?_;unfold KZ;rw[if_neg h1',if_neg (fun z=>z h2),if_pos h3'];exact⟨px,rfl,e3⟩
   ·walk_at ""
    refine q _ H1 s1 ?_;unfold KZ;rw[if_neg h1',if_neg (fun z=>z h2),if_neg (by omega)];rfl
  ·walk_at ""
   refine⟨rfl,?_⟩;walk_at "";have hx':=hx;obtain⟨px,rfl,_⟩:=hx;refine CN (by simp) ?_;walk_at "";refine q _ H1 s1 ?_;unfold KZ;rw[if_neg h1',if_pos h2];exact hx'
noncomputable def Zxq (t:Ad):Sp:=fun vs H Q _=>∃(p l:Aa) (m st bd:Nat) (af:List Nat) (ps:List Aa) (bs:List Bar),vs=[.ref p,.ref l]∧Dy t H p m st bd af∧GoodC m st bd af∧H l=some (.lst (ps.map V.ref))∧Bd (Bl H) ps bs∧(∀b∈bs,b.good)∧∀x H',Same H H'→Xy H' (KZ af st bd (Bx (2 ^ m) bs)) x→Q x H'
theorem Zuq (T:Txt K mg t):FnS P w K mg base 4 "fault" ["chart","bars"] ((Zxq t)):=by
 refine⟨_,_,T.Qj.ok ZuM (fun vs H Q E h=>?_) (fun _ _ _ _ H vs Q E hr h=>?_),T.ZqU,T.Qj.kp,T.Zr3⟩
 ·obtain⟨p,l,m,st,bd,af,ps,bs,rfl,hC,hG,hl,hb,hg,q⟩:=h
  rfl
 refine xE8 h fun p l m st bd af ps bs h1_=>nE7 h1_ fun e0_ hC hG hl hb hg q=>?_;clear h h1_;subst e0_;have sr:=ZjS (P:=P) (w:=w) (base:=base) T;have tu:=Zfa (P:=P) (w:=w) (base:=base) T;obtain⟨dy,tp,c1,c2⟩:=id hC;refine⟨_,(Al (Bb (Bc tu hr (Ac (pv 0) (Ac (Bc sr hr (Ac (Cw (pv 0) rfl) (Ac (pv 1) Ag))) Ag))))),?_⟩;walk_at "rd0";refine⟨p,_,_,_,_,rfl,c1,T.Dq,T.GK,HH _ _ _ _,?_⟩;walk_at "";refine⟨m,l,ps,bs,rfl,hG.m6,hl,hb,hg,?_⟩;walk_at "";exact⟨p,m,st,bd,_,af,rfl,hC,hG,q9 _ _,q⟩
noncomputable def fenB (af:List Nat) (st bd c:Nat):Bool:=decide (st &&& c=0∧srcN af c=0∧bd - (bd &&& c)=0)
theorem Zvg {af:List Nat} {st bd c:Nat}:fenB af st bd c=true ↔ (st &&& c=0∧srcN af c=0∧bd - (bd &&& c)=0):=decide_eq_true_iff
theorem Zrh {H:Hp} {af:List Nat} {st bd c:Nat} {x:V} (h:Xy H (KZ af st bd c) x):decide (x=.non)=fenB af st bd c:=by
 unfold KZ at h
 by_cases h1:st &&& c=0
 ·rw[if_neg (fun z=>z h1)]at h
  by_cases h2:srcN af c=0
  ·rw[if_neg (fun z=>z h2)]at h
   by_cases h3:bd - (bd &&& c)=0
   ·rw[if_neg (fun z=>z h3)]at h
    have h:x=.non:=h;rw[h,decide_eq_true rfl,Zvg.mpr ⟨h1,h2,h3⟩]
   ·rw[if_pos h3]at h
    obtain⟨p,rfl,_⟩:=h;rw[decide_eq_false (by intro z; cases z)];exact(decide_eq_false fun z=>h3 z.2.2).symm
  ·rw[if_pos h2]at h
   obtain⟨p,rfl,_⟩:=h;rw[decide_eq_false (by intro z; cases z)];exact(decide_eq_false fun z=>h2 z.2.1).symm
 ·rw[if_pos h1]at h
  obtain⟨p,rfl,_⟩:=h;rw[decide_eq_false (by intro z; cases z)];exact(decide_eq_false fun z=>h1 z.1).symm
theorem and0 {x y:Nat}:x &&& y=0 ↔ ∀k,x.testBit k=true→y.testBit k=false:=by
 constructor
 ·intro h k hk
  have:(x &&& y).testBit k=false:=by rw[h]; exact Fl k
  rw[Do,hk,Hw]at this;exact this
 ·intro h
  apply DQ;intro k;rw[Do,Fl]
  cases e:x.testBit k with
  | false=>rfl
  | true=>rw[h k e]; rfl
theorem sub0 {x y:Nat}:x - (x &&& y)=0 ↔ ∀k,x.testBit k=true→y.testBit k=true:=by
 constructor
 ·intro h k hk
  have:(x - (x &&& y)).testBit k=false:=by rw[h]; exact Fl k
  rw[GD,hk,Hw]at this
  simpa using this
 ·intro h
  apply DQ;intro k;rw[GD,Fl]
  cases e:x.testBit k with
  | false=>rfl
  | true=>rw[h k e]; rfl
theorem Tc {af:List Nat} {st bd c:Nat}:fenB af st bd c=true ↔ (∀k,st.testBit k=true→c.testBit k=false)∧(∀k x,c.testBit k=false→(af.getD k 0).testBit x=true→c.testBit x=false)∧(∀k,bd.testBit k=true→c.testBit k=true):=by
 rw[Zvg,and0,sub0];refine and_congr_right fun _=>and_congr_left fun _=>?_
 constructor
 ·intro h k x hk hx
  cases e:c.testBit x with
  | false=>rfl
  | true=>
   have kl:k < af.length:=by
    rcases RQ k af.length with z | z
    ·exact z
    ·rw[Cz,RG z]at hx
     rw[show(Option.none:Option Nat).getD 0=0 from rfl,Fl]at hx
     cases hx
   have:(srcN af c).testBit k=true:=(rn af c k).mpr ⟨kl,(fun z=>by have:=and0.mp z x hx; rw[e]at this; cases this),hk⟩;rw[h,Fl]at this
   cases this
 ·intro h
  apply DQ;intro k;rw[Fl]
  cases e:(srcN af c).testBit k with
  | false=>rfl
  | true=>
   obtain⟨_,h2,h3⟩:=(rn af c k).mp e;exact absurd (and0.mpr fun x hx=>h k x h3 hx) h2
theorem Zx3 {af:List Nat} {st bd c d:Nat} (h1:fenB af st bd c=true) (h2:fenB af st bd d=true):fenB af st bd (c ||| d)=true:=by
 obtain⟨a1,a2,a3⟩:=Tc.mp h1;obtain⟨b1,b2,b3⟩:=Tc.mp h2;refine Tc.mpr ⟨fun k hk=>by rw[Fv,a1 k hk,b1 k hk]; rfl,fun k x hk hx=>?_,fun k hk=>by rw[Fv,a3 k hk]; rfl⟩;rw[Fv,Bool.or_eq_false_iff]at hk ⊢;exact⟨a2 k x hk.1 hx,b2 k x hk.2 hx⟩
theorem Td (n:Nat) (b:Bar) (k:Nat):(Bh n b).testBit k=(decide (k < n) && lies k b):=Gp _ _ _
theorem MP (n:Nat) (bs:List Bar) (k:Nat):(Bx n bs).testBit k=(decide (k < n) && bs.any (lies k)):=Gp _ _ _
noncomputable def Zz2 (t:Ad):Sp:=fun vs H Q _=>∃(p l:Aa) (m st bd:Nat) (af:List Nat) (ps:List Aa) (bs:List Bar),vs=[.ref p,.ref l]∧Dy t H p m st bd af∧GoodC m st bd af∧H l=some (.lst (ps.map V.ref))∧Bd (Bl H) ps bs∧(∀b∈bs,b.good)∧∀H',Same H H'→Q (.bl (fenB af st bd (Bx (2 ^ m) bs))) H'
theorem ZjQ (T:Txt K mg t):FnS P w K mg base 5 "is_fence" ["chart","bars"] ((Zz2 t)):=by
 refine⟨_,_,T.Qk.ok Zop (fun vs H Q E h=>?_) (fun _ _ _ _ H vs Q E hr h=>?_),T.ZkW,T.Qk.kp,T.Zlb⟩
 ·obtain⟨p,l,m,st,bd,af,ps,bs,rfl,hC,hG,hl,hb,hg,q⟩:=h
  rfl
 refine xE8 h fun p l m st bd af ps bs h1_=>nE7 h1_ fun e0_ hC hG hl hb hg q=>?_;clear h h1_;subst e0_;have Zwe:=Zuq (P:=P) (w:=w) (base:=base) T;refine⟨_,(Al (Bb (Jf Zu (Bc Zwe hr (Ac (pv 0) (Ac (pv 1) Ag))) G8 (Br _)))),?_⟩;walk_at "rd0";refine⟨p,l,m,st,bd,af,ps,bs,rfl,hC,hG,hl,hb,hg,fun x H1 s1 hx=>?_⟩;walk_at "";refine⟨rfl,?_⟩;rw[Zrh hx];exact q H1 s1
theorem Zna {b f:Bar} (gb:b.good) (gf:f.good) (h:Less b f) {s:Nat} (hs:lies s b=true):lies s f=true:=by
 rw[←R8 gb,decide_eq_true_iff]at hs;rw[←R8 gf,decide_eq_true_iff,h.2,←hs,YcP]
 congr 1
 apply DQ;intro k;rw[Do]
 cases e:f.1.testBit k with
 | false=>rw[Fw]
 | true=>rw[h.1 k e]; rfl
theorem Zqf {a b c:Bar} (h1:Less a b) (h2:Less b c):Less a c:=by
 refine⟨fun k hk=>h1.1 k (h2.1 k hk),?_⟩;rw[h2.2,h1.2,YcP]
 congr 1
 apply DQ;intro k;rw[Do]
 cases e:c.1.testBit k with
 | false=>rw[Fw]
 | true=>rw[h2.1 k e]; rfl
theorem ZrU {b f:Bar} (h:Less b f):f.1≤b.1:=by
 have:f.1=b.1 &&& f.1:=by
  apply DQ;intro k;rw[Do]
  cases e:f.1.testBit k with
  | false=>rw[Fw]
  | true=>rw[h.1 k e]; rfl
 rw[this];exact TY
theorem ZwT {b f:Bar} (g:b.good) (h:Less b f) (e:f.1=b.1):f=b:=Iz e (by rw[h.2,e,g.2])
theorem Zzy {b f:Bar} {k:Nat} (h:b.1.testBit k=true):f.wo k≠b:=fun e=>by
 have:=wo1 f k k;rw[e,h,decide_eq_true rfl,G7,Fw]at this
 cases this
noncomputable def Zxx (t:Ad):Sp:=fun vs H Q _=>∃(p pb:Aa) (m st bd c:Nat) (af:List Nat) (b:Bar),vs=[.ref p,.int (c:Int),.ref pb]∧Dy t H p m st bd af∧GoodC m st bd af∧c < 2 ^ 2 ^ m∧Bl H pb b∧b.good∧
 ∀H' p' f,Same H H'→Bl H' p' f→f.good→Less b f→(f=b∨fenB af st bd (c ||| Bh (2 ^ m) f)=true)→(f=b→∀k,b.1.testBit k=true→fenB af st bd (c ||| Bh (2 ^ m) (b.wo k))=false)→Q (.ref p') H'
theorem Zni (T:Txt K mg t):FnS P w K mg base 4 "wider_bar" ["chart","inside","bar"] ((Zxx t)):=by
 refine⟨_,_,T.Ql.ok Ss (fun vs H Q E h=>?_) (fun _ _ _ _ H vs Q E hr h=>?_),T.Zjn,T.Ql.kp,T.ZjI⟩
 ·obtain⟨p,pb,m,st,bd,c,af,b,rfl,hC,hG,hc,hb,hg,q⟩:=h
  rfl
 refine xE8 h fun p pb m st bd c af b h1_=>nE7 h1_ fun e0_ hC hG hc hb hg q=>?_;clear h h1_;subst e0_;have qg:=ZjP (P:=P) (w:=w) (base:=base) T;have qi:=Zlg (P:=P) (w:=w) (base:=base) T;have Io:=Rc (P:=P) (w:=w) (base:=base) T;have tu:=Zfa (P:=P) (w:=w) (base:=base) T
 refine⟨_,(Aj (ss 3 Ss.nd (pv 2))
   (Aj (Ea Dj rfl (HB (Bc qg hr (Ac (pv 2) Ag))) (sg 4 Ss.nd)
   (Aj (ss 5 Ss.nd (Bc qi hr (Ac (pv 3) (Ac (pv 4) Ag))))
   (Al (BJ (BV Zu (Bc tu hr (Ac (pv 0) (Ac (Ak Hb (pv 1) (Bc Io hr (Ac (Cw (pv 0) rfl) (Ac (pv 5) Ag)))) Ag))) G8 (Br _))
   (Al (ss 3 Ss.nd (pv 5)))
   BP))))
   (Al (Bb (pv 3))))),?_⟩
 walk_at "rd0";refine⟨pb,b,rfl,hb,hg.1,fun l H1 s1 n1 e1=>?_⟩;refine seqL (xs:=(Ip b).map vi) (fun i σ H'=>∃(f:Bar) (fp:Aa) (v4 v5:Option V),Same H1 H'∧Bl H' fp f∧f.good∧Less b f∧(f=b∨fenB af st bd (c ||| Bh (2 ^ m) f)=true)∧(f=b→∀j k,j < i→(Ip b)[j]?=some k→fenB af st bd (c ||| Bh (2 ^ m) (b.wo k))=false)∧σ=[some (.ref p),some (.int (c:Int)),some (.ref pb),some (.ref fp),v4,v5]) ⟨b,pb,_,_,Same.refl _,s1 _ _ hb,hg,Rg hg,.inl rfl,fun _ j k hj=>absurd hj (IW _),rfl⟩ (fun i σ H' _ hp=>by obtain⟨_,_,_,_,z,_⟩:=hp; exact SqL.of (z _ _ e1)) ?_ ?_
 ·rintro i x σ H' hx ⟨f,fp,v4,v5,sm,hf,gf,lf,ff,fx,rfl⟩
  obtain⟨k,rfl,hki⟩ : ∃k:Nat,x=.int (k:Int)∧(Ip b)[i]?=some k:=by
   rw[CQ]at hx
   cases e:(Ip b)[i]? with
   | none=>rw[e]at hx; cases hx
   | some k=>rw[e]at hx; exact⟨k,(De hx).symm,rfl⟩
  have hbk:=(Xn hg).mp (Df hki);have hk6:k < 6:=N6 hg hbk;have hC':=hC.mono (Ext.of (s1.trans sm));walk_at "";refine⟨fp,f,k,rfl,by omega,hf,fun f2 H2 s2 n2 e2=>?_⟩;have hC2:=hC'.mono (Ext.of s2);obtain⟨dy,tp,c1,c2⟩:=id hC2;walk_at "";refine⟨p,_,_,_,_,rfl,c1,T.Dq,T.GK,HH _ _ _ _,?_⟩;walk_at "";refine⟨m,f2,f.wo k,rfl,hG.m6,e2,MJ gf k,?_⟩;walk_at "";rw[GQ];refine⟨p,m,st,bd,_,af,rfl,hC2,hG,Nv hc (JD _ _),fun x H3 s3 hx=>?_⟩;walk_at "";refine⟨rfl,?_⟩;walk_at "";rw[Zrh hx];refine Kw (fun h1=>?_) (fun h1=>?_)
  ·walk_at ""
   exact⟨f.wo k,f2,_,_,sm.trans (s2.trans s3),s3 _ _ e2,MJ gf k,S6 lf k,.inr h1,fun z=>absurd z (Zzy hbk),rfl⟩
  ·walk_at ""
   refine⟨f,fp,_,_,sm.trans (s2.trans s3),s3 _ _ (s2 _ _ hf),gf,lf,ff,fun z j k' hj hkj=>?_,rfl⟩
   by_cases e:j=i
   ·subst e
    rw[hki]at hkj
    cases hkj
    rw[z]at h1;exact h1
   ·exact fx z j k' (by omega) hkj
 ·rintro σ H' ⟨f,fp,v4,v5,sm,hf,gf,lf,ff,fx,rfl⟩
  walk_at "";refine q H' fp f (s1.trans sm) hf gf lf ff fun z k hk=>?_;obtain⟨j,hj⟩:=Ig.mp ((Xn hg).mpr hk);exact fx z j k (by rw[Az]; exact(Cr.mp hj).1) hj
structure WFL (m st bd:Nat) (af:List Nat) (bs fs:List Bar):Prop where
 ln:fs.length=bs.length
 le:∀(i:Nat) (b f:Bar),bs[i]?=some b→fs[i]?=some f→Less b f∧f.good
 fe:fenB af st bd (Bx (2 ^ m) bs)=true→fenB af st bd (Bx (2 ^ m) fs)=true
 fx:fs=bs→∀b∈bs,∀k,b.1.testBit k=true→fenB af st bd (Bx (2 ^ m) bs ||| Bh (2 ^ m) (b.wo k))=false
theorem Xz {x y:Nat} (h:∀k,y.testBit k=true→x.testBit k=true):x ||| y=x:=by
 apply DQ;intro k;rw[Fv]
 cases e:y.testBit k with
 | false=>rw[Rr]
 | true=>rw[h k e]; rfl
theorem ZoH {n:Nat} {bs:List Bar} {b:Bar} (h:b∈bs) {k:Nat} (hk:(Bh n b).testBit k=true):(Bx n bs).testBit k=true:=by
 rw[Td,DN]at hk;rw[MP,hk.1,Hw];exact Gn.mpr ⟨b,h,hk.2⟩
theorem XC {n:Nat} {bs cs:List Bar} (h:∀b∈bs,b∈cs) {k:Nat} (hk:(Bx n bs).testBit k=true):(Bx n cs).testBit k=true:=by
 rw[MP,DN]at hk ⊢;obtain⟨b,hb,hl⟩:=Gn.mp hk.2;exact⟨hk.1,Gn.mpr ⟨b,h b hb,hl⟩⟩
noncomputable def Zz5 (t:Ad):Sp:=fun vs H Q _=>∃(p l:Aa) (m st bd:Nat) (af:List Nat) (ps:List Aa) (bs:List Bar),vs=[.ref p,.ref l]∧Dy t H p m st bd af∧GoodC m st bd af∧H l=some (.lst (ps.map V.ref))∧Bd (Bl H) ps bs∧(∀b∈bs,b.good)∧bs.length≤5000∧
 ∀a ps' fs H',Same H H'→H a=none→H' a=some (.lst (ps'.map V.ref))→Bd (Bl H') ps' fs→WFL m st bd af bs fs→Q (.ref a) H'
theorem ZgY (T:Txt K mg t):FnS P w K mg base 5 "with_fewer_lamps" ["chart","bars"] ((Zz5 t)):=by
 refine⟨_,_,T.Qm.ok Od (fun vs H Q E h=>?_) (fun _ _ _ _ H vs Q E hr h=>?_),T.Zet,T.Qm.kp,T.ZeF⟩
 ·obtain⟨p,l,m,st,bd,af,ps,bs,rfl,hC,hG,hl,hb,hg,hz,q⟩:=h
  rfl
 refine xE8 h fun p l m st bd af ps bs h1_=>nE8 h1_ fun e0_ hC hG hl hb hg hz q=>?_;clear h h1_;subst e0_;have sr:=ZjS (P:=P) (w:=w) (base:=base) T;have ZnH:=Zni (P:=P) (w:=w) (base:=base) T;have Io:=Rc (P:=P) (w:=w) (base:=base) T;obtain⟨dy,tp,c1,c2⟩:=id hC;have pl:=En hb
 refine⟨_,(Aj (ss 2 Od.nd (Bc sr hr (Ac (Cw (pv 0) rfl) (Ac (pv 1) Ag))))
   (Aj (ss 3 Od.nd (JB Ag))
   (Aj (Ea Dj rfl (HB (pv 1)) (sg 4 Od.nd)
   (Aj (ss 5 Od.nd (Bc ZnH hr (Ac (pv 0) (Ac (pv 2) (Ac (pv 4) Ag)))))
   (Aj (ss 2 Od.nd (Ak Hb (pv 2) (Bc Io hr (Ac (Cw (pv 0) rfl) (Ac (pv 5) Ag)))))
   (Al (Ek (Ku Ja Kd Ls Jg (pv 3) (Ac (pv 5) Ag)))))))
   (Al (Bb (pv 3)))))),?_⟩
 walk_at "rd0";refine⟨p,_,_,_,_,rfl,c1,T.Dq,T.GK,HH _ _ _ _,?_⟩;walk_at "";refine⟨m,l,ps,bs,rfl,hG.m6,hl,hb,hg,?_⟩;walk_at "";refine JG (by simp) fun a H1 s1 n1 e1=>?_;walk_at "";refine seqL (xs:=ps.map V.ref) (fun i σ H'=>∃(ps':List Aa) (fs:List Bar) (v4 v5:Option V),Same H H'∧H' a=some (.lst (ps'.map V.ref))∧Bd (Bl H') ps' fs∧fs.length=i∧(∀(j:Nat) (b f:Bar),bs[j]?=some b→fs[j]?=some f→Less b f∧f.good)∧(fenB af st bd (Bx (2 ^ m) bs)=true→fenB af st bd (Bx (2 ^ m) bs ||| Bx (2 ^ m) fs)=true)∧(fs=bs.take i→∀(j:Nat) (b:Bar),j < i→bs[j]?=some b→∀k,b.1.testBit k=true→fenB af st bd (Bx (2 ^ m) bs ||| Bh (2 ^ m) (b.wo k))=false)∧σ=[some (.ref p),some (.ref l),some (.int ((Bx (2 ^ m) bs ||| Bx (2 ^ m) fs:Nat):Int)),some (.ref a),v4,v5]) ⟨[],[],_,_,s1,e1,.nil,rfl,(fun j b f _ h=>by cases h),(fun h=>by rw[Xx,Zk]; exact h),(fun _ j b hj=>absurd hj (IW _)),by rw[Xx,Zk]⟩ (fun i σ H' _ hp=>by obtain⟨_,_,_,_,z,_⟩:=hp; exact SqL.of (z _ _ hl)) ?_ ?_
 ·rintro i x σ H' hx ⟨ps',fs,v4,v5,sm,ea,hp,ln,le,fe,fx,rfl⟩
  obtain⟨pb,rfl,hpb⟩:=JW hx;obtain⟨b,hbi,hB⟩:=Hf hb hpb;have hbm:=Df hbi;have hi:=(Cr.mp hbi).1;walk_at "";refine⟨p,pb,m,st,bd,_,af,b,rfl,hC.mono (Ext.of sm),hG,Nv (q9 _ _) (q9 _ _),sm _ _ hB,hg b hbm,fun H2 p2 f s2 hf gf lf ff fx2=>?_⟩;have sm2:=sm.trans s2;walk_at "";refine⟨p,_,_,_,_,rfl,sm2 _ _ c1,T.Dq,T.GK,HH _ _ _ _,?_⟩;walk_at "";refine⟨m,p2,f,rfl,hG.m6,hf,gf,?_⟩;walk_at "";rw[GQ];refine⟨tyL (s2 _ _ ea),?_⟩;walk_at "";have pl2:=En hp;refine Ky (s2 _ _ ea) (by rw[Az]; omega) fun H3 b3 e3=>?_;have k3:∀x xs,H2 x=some (.tup xs)→H3 x=some (.tup xs):=fun x xs z=>b3 _ _ (BZ z (s2 _ _ ea) (by intro y; cases y)) z;walk_at ""
  have eo:Bx (2 ^ m) bs ||| Bx (2 ^ m) fs ||| Bh (2 ^ m) f=Bx (2 ^ m) bs ||| Bx (2 ^ m) (fs++[f]):=by rw[qz,Yao]
  refine⟨ps'++[p2],fs++[f],_,_,b3.same n1 sm2,by rw[Dh]; exact e3,Rt (Dm (fun _ _ z=>k3 _ _ (s2 _ _ z)) hp) (k3 _ _ hf),by rw[Ca,ln]; rfl,fun j b' f' h1 h2=>?_,fun h=>?_,fun z j b' hj hbj k hk=>?_,by rw[eo]⟩
  ·by_cases e:j < fs.length
   ·rw[Hm e]at h2
    exact le j b' f' h1 h2
   ·have ej:j=i:=by
     have:=(Cr.mp h2).1;rw[Ca,Ei]at this;omega
    subst ej;rw[hbi]at h1;rw[Gk (by omega),ln,Gv]at h2
    cases h1
    cases h2
    exact⟨lf,gf⟩
  ·rw[←eo]
   rcases ff with rfl | ff
   ·rw[Xz fun k hk=>by rw[Fv,ZoH hbm hk]; rfl]
    exact fe h
   ·exact ff
  ·rw[Gr hbi]at z
   have l1:fs.length=(bs.take i).length:=by rw[Fb]; omega
   obtain⟨z1,z2⟩:=List.append_inj z l1;have z2:f=b:=(Ju z2).1
   by_cases e:j=i
   ·subst e
    rw[hbi]at hbj
    cases hbj
    have:=fx2 z2 k hk;rw[Xz (y:=Bx (2 ^ m) fs) fun k hk=>by rw[z1]at hk; exact XC (fun b hb=>Rz hb) hk]at this;exact this
   ·exact fx z1 j b' (by omega) hbj k hk
 ·rintro σ H' ⟨ps',fs,v4,v5,sm,ea,hp,ln,le,fe,fx,rfl⟩
  rw[Az,pl]at ln fx;walk_at "";refine q a ps' fs H' sm n1 ea hp ⟨ln,le,fun h=>?_,fun z b hb k hk=>?_⟩
  ·have:=fe h
   rw[Yk,Xz fun k hk=>?_]at this
   ·exact this
   ·rw[MP,DN]at hk ⊢
    obtain⟨b,hb',hlb⟩:=Gn.mp hk.2;obtain⟨j,hj⟩:=Ig.mp hb';have jl:=(Cr.mp hj).1;obtain⟨f,hfj⟩ : ∃f,fs[j]?=some f:=⟨fs[j]'(by omega),CJ (by omega)⟩;obtain⟨lf,gf⟩:=le j b f hj hfj;exact⟨hk.1,Gn.mpr ⟨f,Df hfj,Zna (hg b hb') gf lf hlb⟩⟩
  ·obtain⟨j,hj⟩:=Ig.mp hb
   exact fx (by rw[Ib]; exact z) j b (Cr.mp hj).1 hj k hk
structure WFB (m st bd:Nat) (af:List Nat) (bs fs:List Bar):Prop where
 su:fs.Sublist bs
 fe:fenB af st bd (Bx (2 ^ m) bs)=true→fenB af st bd (Bx (2 ^ m) fs)=true
 fx:fs=bs→∀b∈bs,fenB af st bd (Bx (2 ^ m) (bs.filter fun c=>!decide (c=b)))=false
theorem t7 {a b:Bar}:decide (ib a=ib b)=decide (a=b):=decide_eq_decide.mpr ⟨fun h=>by
 unfold ib at h;have h1:=(UJ h).1;have h2:=(UJ h).2
 exact Iz (by omega) (by omega),fun h=>by rw[h]⟩
noncomputable def Zz4 (t:Ad):Sp:=fun vs H Q _=>∃(p l:Aa) (m st bd:Nat) (af:List Nat) (ps:List Aa) (bs:List Bar),vs=[.ref p,.ref l]∧Dy t H p m st bd af∧GoodC m st bd af∧H l=some (.lst (ps.map V.ref))∧Bd (Bl H) ps bs∧(∀b∈bs,b.good)∧bs.length≤5000∧
 ∀a ps' fs H',Same H H'→H a=none→H' a=some (.lst (ps'.map V.ref))→Bd (Bl H') ps' fs→WFB m st bd af bs fs→Q (.ref a) H'
theorem ZhG (T:Txt K mg t):FnS P w K mg base 6 "with_fewer_bars" ["chart","bars"] ((Zz4 t)):=by
 refine⟨_,_,T.Qn.ok Su (fun vs H Q E h=>?_) (fun _ _ _ _ H vs Q E hr h=>?_),T.Ze3,T.Qn.kp,T.Ze9⟩
 ·obtain⟨p,l,m,st,bd,af,ps,bs,rfl,hC,hG,hl,hb,hg,hz,q⟩:=h
  rfl
 refine xE8 h fun p l m st bd af ps bs h1_=>nE8 h1_ fun e0_ hC hG hl hb hg hz q=>?_;clear h h1_;subst e0_;have t8:=ZjQ (P:=P) (w:=w) (base:=base) T;have pl:=En hb
 refine⟨_,(Aj (ss 2 Su.nd (Vb ZZ rfl T.B.list LC (Ac (pv 1) Ag)))
   (Aj (Ea Dj rfl (HB (pv 1)) (sg 3 Su.nd)
   (Aj (Zsv 4 Su.nd (sc:=Bf Vx) (N:=["chart","bars","found","bar","others"]) (ns:=["bar"]) (ix:=[3]) rfl rfl (by decide +kernel) rfl (HB (pv 2)) (fun _ _ _ _=>(R6 (BV (Gq hr.units) (pv 0) (pv 1) (Br _)))) (fun _ _ _ _=>(pv 0)))
   (Al (BJ (CK (Bc t8 hr (Ac (pv 0) (Ac (pv 4) Ag))) (fun _=>rfl))
   (Al (ss 2 Su.nd (pv 4)))
   BP))))
   (Al (Bb (pv 2))))),?_⟩
 walk_at "rd0";refine Z1 (.inl (SqL.of hl)) fun a0 H1 s1 n1 e1=>?_;walk_at "";refine seqL (xs:=ps.map V.ref) (fun i σ H'=>∃(a:Aa) (ps':List Aa) (fs:List Bar) (v3 v4:Option V),Same H H'∧H a=none∧H' a=some (.lst (ps'.map V.ref))∧Bd (Bl H') ps' fs∧fs.Sublist bs∧(fenB af st bd (Bx (2 ^ m) bs)=true→fenB af st bd (Bx (2 ^ m) fs)=true)∧(fs=bs→∀(j:Nat) (b:Bar),j < i→bs[j]?=some b→fenB af st bd (Bx (2 ^ m) (bs.filter fun c=>!decide (c=b)))=false)∧σ=[some (.ref p),some (.ref l),some (.ref a),v3,v4]) ⟨a0,ps,bs,_,_,s1,n1,e1,Dm (fun _ _ z=>s1 _ _ z) hb,YcQ _,fun h=>h,fun _ j b hj=>absurd hj (IW _),rfl⟩ (fun i σ H' _ hp=>by obtain⟨_,_,_,_,_,z,_⟩:=hp; exact SqL.of (z _ _ hl)) ?_ ?_
 ·rintro i x σ H' hx ⟨a,ps',fs,v3,v4,sm,na,ea,hp,su,fe,fx,rfl⟩
  obtain⟨pb,rfl,hpb⟩:=JW hx;obtain⟨b,hbi,hB⟩:=Hf hb hpb;have hbm:=Df hbi;have hBt:Bl H' pb b:=sm _ _ hB;have pl2:=En hp;have sl:=su.length_le;walk_at "";refine .inl ⟨a,_,rfl,SqL.of ea,?_⟩;refine Kz (fun i ys=>∃qs,ys=qs.map V.ref∧Bd (Bl H') qs ((fs.take i).filter fun c=>!decide (c=b))) (Vi (SqL.of ea)) (by rw[Az]; omega) ⟨[],rfl,.nil⟩ ?_ ?_
  ·rintro j x ys acc H2 hx2 s2 hacc ea2 ⟨qs,rfl,hq⟩ _ R kk
   obtain⟨pc,rfl,hpc⟩:=JW hx2;obtain⟨cb,hcj,hCb⟩:=Hf hp hpc;simp only [subS,Cv,Fe];walk_at "";refine Zyf (k:=ib cb) (k':=ib b) (s2 _ _ hCb) (s2 _ _ hBt) ?_;rw[t7];walk_at "";refine kk _ H2 (Same.refl _) (fun h=>⟨qs,rfl,?_⟩) fun h R2 k2=>?_
   ·rw[Gr hcj,Ld,Le,h]
    simpa using hq
   ·walk_at ""
    refine k2 _ H2 (Same.refl _) ⟨qs++[pc],by rw[Dh]; rfl,?_⟩;rw[Gr hcj,Ld,Le,h,if_pos rfl,T4];exact Rt hq hCb
  ·rintro acc ys H2 n2 s2 e2 ⟨qs,rfl,hq⟩
   rw[Az,pl2,Ib]at hq;have sm2:=sm.trans s2;have nacc:H acc=none:=sm.free n2;have hq2:Bd (Bl H2) qs (fs.filter fun c=>!decide (c=b)):=Dm (fun _ _ z=>s2 _ _ z) hq;walk_at "";refine⟨p,acc,m,st,bd,af,qs,_,rfl,hC.mono (Ext.of sm2),hG,e2,hq2,fun c hc=>hg c (su.mem (Fj.mp hc).1),fun H3 s3=>?_⟩;walk_at "";refine Kw (fun h1=>?_) (fun h1=>?_)
   ·walk_at ""
    refine⟨acc,qs,_,_,_,sm2.trans s3,nacc,s3 _ _ e2,Dm (fun _ _ z=>s3 _ _ z) hq2,UT.trans su,fun _=>h1,fun z=>?_,rfl⟩
    exfalso
    have:b∈fs.filter fun c=>!decide (c=b):=by rw[z]; exact hbm
    have:=(Fj.mp this).2;simp at this
   ·walk_at ""
    refine⟨a,ps',fs,_,_,sm2.trans s3,na,s3 _ _ (s2 _ _ ea),Dm (fun _ _ z=>s3 _ _ (s2 _ _ z)) hp,su,fe,fun z j b' hj hbj=>?_,rfl⟩
    by_cases e:j=i
    ·subst e
     rw[hbi]at hbj
     cases hbj
     rw[z]at h1;exact h1
    ·exact fx z j b' (by omega) hbj
 ·rintro σ H' ⟨a,ps',fs,v3,v4,sm,na,ea,hp,su,fe,fx,rfl⟩
  rw[Az,pl]at fx;walk_at "";refine q a ps' fs H' sm na ea hp ⟨su,fe,fun z b hb=>?_⟩;obtain⟨j,hj⟩:=Ig.mp hb;exact fx z j b (Cr.mp hj).1 hj
structure TgR (m st bd:Nat) (af:List Nat) (bs F:List Bar):Prop where
 fr:∀f∈F,f.good∧∃b∈bs,Less b f
 so:(F.map ib).Pairwise ple
 nd:F.Nodup
 ln:F.length≤bs.length
 fe:fenB af st bd (Bx (2 ^ m) F)=true
 lp:∀b∈F,∀k,b.1.testBit k=true→fenB af st bd (Bx (2 ^ m) F ||| Bh (2 ^ m) (b.wo k))=false
 br:∀b∈F,fenB af st bd (Bx (2 ^ m) (F.filter fun c=>!decide (c=b)))=false
theorem ZqX {H:Hp}:∀{ps:List Aa} {ks:List (Int×Int)},Bd (Ex H) ps ks→(∀j∈ks,∃b:Bar,j=ib b)→∃bs:List Bar,Bd (Bl H) ps bs∧ks=bs.map ib
 | _,_,.nil,_=>⟨[],.nil,rfl⟩
 | _,_,.cons r q,h=>by
  obtain⟨b,hb⟩:=h _ Ec;obtain⟨bs,h1,h2⟩:=ZqX q fun j hj=>h j (Et _ hj);subst hb;exact⟨b::bs,.cons r h1,by rw[h2]; rfl⟩
theorem ZvK {b:Bar} {bs:List Bar}:ib b∈bs.map ib ↔ b∈bs:=by
 rw[DY]
 constructor
 ·rintro⟨c,hc,e⟩
  have:=of_decide_eq_true (t7.symm.trans (decide_eq_true e));rw[←this];exact hc
 ·exact fun h=>⟨b,h,rfl⟩
theorem ZrM {H:Hp} {Q:VK} {p:Aa} {ps:List Aa} {bs:List Bar} (e:H p=some (.lst (ps.map V.ref))) (hp:Bd (Bl H) ps bs) (hz:bs.length≤4900) (k:∀(l:Aa) (ps':List Aa) (fs:List Bar) (H':Hp),Same H H'→H l=none→H' l=some (.lst (ps'.map V.ref))→Bd (Bl H') ps' fs→(∀b,b∈fs ↔ b∈bs)→fs.Nodup→(fs.map ib).Pairwise ple→fs.length≤bs.length→Q (.ref l) H'):Sh K (.ref p) H Q:=by
 have pl:=En hp;refine Zt1 e (KN hp) (by omega) fun l ps' ks' H' s1 n1 e1 p1 m1 nd pw ln=>?_
 obtain⟨fs,h1,rfl⟩:=ZqX p1 fun j hj=>by
  obtain⟨b,_,rfl⟩:=DY.mp ((m1 j).mp hj);exact⟨b,rfl⟩
 refine k l ps' fs H' s1 n1 e1 (Dm (fun _ _ z=>s1 _ _ z) h1) (fun b=>?_) ((Li.mp nd).imp fun h e=>h (by rw[e])) pw (by have:=En h1; omega);rw[←ZvK,m1,ZvK]
noncomputable def sum1:List Bar→Nat
 | []=>0
 | b::r=>b.1+sum1 r
theorem ZnB:∀{bs fs:List Bar},fs.length=bs.length→(∀b∈bs,b.good)→(∀(i:Nat) (b f:Bar),bs[i]?=some b→fs[i]?=some f→Less b f∧f.good)→sum1 fs≤sum1 bs∧(sum1 fs=sum1 bs→fs=bs)
 | [],[],_,_,_=>⟨Ax _,fun _=>rfl⟩
 | [],_::_,h,_,_=>by cases h
 | _::_,[],h,_,_=>by cases h
 | b::bs,f::fs,h,hg,hl=>by
  obtain⟨h1,_⟩:=hl 0 b f rfl rfl;obtain⟨a1,a2⟩:=ZnB (bs:=bs) (fs:=fs) (by simpa using h) (fun c hc=>hg c (Et _ hc)) fun i c d hc hd=>hl (i+1) c d (by simpa using hc) (by simpa using hd);have l1:=ZrU h1;refine⟨by show f.1+sum1 fs≤b.1+sum1 bs; omega,fun e=>?_⟩;have e:f.1+sum1 fs=b.1+sum1 bs:=e;rw[ZwT (hg b Ec) h1 (by omega),a2 (by omega)]
theorem ZsT {n:Nat} {bs cs:List Bar} (h:∀b,b∈bs ↔ b∈cs):Bx n bs=Bx n cs:=by
 apply DQ;intro k;rw[GX];exact⟨XC fun b hb=>(h b).mp hb,XC fun b hb=>(h b).mpr hb⟩
theorem Zr6 {a b:List Bar}:decide (a.map ib=b.map ib)=decide (a=b):=decide_eq_decide.mpr ⟨fun h=>by
 refine YcJ (f:=ib) (fun x y e=>of_decide_eq_true (t7.symm.trans (decide_eq_true e))) |>.mp h,fun h=>by rw[h]⟩
noncomputable def Zxu (t:Ad):Sp:=fun vs H Q E=>∃(p l:Aa) (m st bd:Nat) (af:List Nat) (ps:List Aa) (bs:List Bar),vs=[.ref p,.ref l]∧Dy t H p m st bd af∧GoodC m st bd af∧H l=some (.lst (ps.map V.ref))∧Bd (Bl H) ps bs∧(∀b∈bs,b.good)∧bs.length≤4900∧
 (fenB af st bd (Bx (2 ^ m) bs)=false→∀H',Same H H'→E (.ref t.Hc) none H')∧
 (fenB af st bd (Bx (2 ^ m) bs)=true→∀a ps' F H',Same H H'→H a=none→H' a=some (.lst (ps'.map V.ref))→Bd (Bl H') ps' F→TgR m st bd af bs F→Q (.ref a) H')
abbrev IvO p l m st bd af (bs:List Bar) H mm (σ:St) H':=∃(ga fa:Aa) (pg pf:List Aa) (g fs:List Bar),Same H H'∧H' ga=some (.lst (pg.map V.ref))∧Bd (Bl H') pg g∧H' fa=some (.lst (pf.map V.ref))∧Bd (Bl H') pf fs∧(∀f∈g,f.good∧∃b∈bs,Less b f)∧g.length≤bs.length∧fenB af st bd (Bx (2 ^ m) g)=true∧WFL m st bd af g fs∧mm=sum1 g∧σ=[some (.ref p),some (.ref l),some (.ref ga),some (.ref fa)]
abbrev IvP p l m st bd af (f3:List Bar) H mm (σ:St) H':=∃(ga fa:Aa) (pg pf:List Aa) (G fs:List Bar),Same H H'∧H ga=none∧H fa=none∧H' ga=some (.lst (pg.map V.ref))∧Bd (Bl H') pg G∧H' fa=some (.lst (pf.map V.ref))∧Bd (Bl H') pf fs∧G.Sublist f3∧fenB af st bd (Bx (2 ^ m) G)=true∧WFB m st bd af G fs∧mm=G.length∧σ=[some (.ref p),some (.ref l),some (.ref ga),some (.ref fa)]
theorem Zus (T:Txt K mg t):FnS1 P w K mg base 7 "tight" ["chart","bars"] ((Zxu t)):=by
 refine⟨_,_,T.Qo.ok1 JP (fun vs H Q E h=>?_) (fun _ _ _ _ H vs Q E hr h=>?_),T.ZqW,T.Qo.kp,T.Zr5⟩
 ·obtain⟨p,l,m,st,bd,af,ps,bs,rfl,hC,hG,hl,hb,hg,hz,q1,q2⟩:=h
  rfl
 refine xE8 h fun p l m st bd af ps bs h1_=>nE9 h1_ fun e0_ hC hG hl hb hg hz q1 q2=>?_;clear h h1_;subst e0_;have t8:=ZjQ (P:=P) (w:=w) (base:=base) T;have Zeq:=ZgY (P:=P) (w:=w) (base:=base) T;have Ze1:=ZhG (P:=P) (w:=w) (base:=base) T
 refine⟨_,(Aj (BJ (PT.nox (DR (CK (Bc t8 hr (Ac (pv 0) (Ac (pv 1) Ag))) (fun _=>rfl))))
   (Al (cj rfl cg T.Znr.own rfl T.Znb (PA.nox (Ac Gd Ag))))
   (PSs.nox BP))
   (PSs.nox (Aj (ss 2 JP.nd (ZjV hr.units rfl rfl T.B.sorted rfl T.B.set (pv 1)))
   (Aj (ss 3 JP.nd (Bc Zeq hr (Ac (pv 0) (Ac (pv 2) Ag))))
   (Aj (Lw Dj (BV (Gq hr.units) (pv 3) (pv 2) (Br _))
   (Aj (ss 2 JP.nd (pv 3))
   (Al (ss 3 JP.nd (Bc Zeq hr (Ac (pv 0) (Ac (pv 2) Ag)))))))
   (Aj (ss 2 JP.nd (ZjV hr.units rfl rfl T.B.sorted rfl T.B.set (pv 2)))
   (Aj (ss 3 JP.nd (Bc Ze1 hr (Ac (pv 0) (Ac (pv 2) Ag))))
   (Aj (Lw Dj (BV (Gq hr.units) (pv 3) (pv 2) (Br _))
   (Aj (ss 2 JP.nd (pv 3))
   (Al (ss 3 JP.nd (Bc Ze1 hr (Ac (pv 0) (Ac (pv 2) Ag)))))))
   (Al (Bb (pv 2))))))))))),?_⟩
 walk_at "rd0";refine⟨p,l,m,st,bd,af,ps,bs,rfl,hC,hG,hl,hb,hg,fun H1 s1=>?_⟩;walk_at "";refine Kw (fun h1=>?_) (fun h1=>?_)
 ·refine ZrB ?_
  walk_at "";exact⟨by decide,q1 (by simpa using h1) H1 s1⟩
 have hf0:fenB af st bd (Bx (2 ^ m) bs)=true:=by simpa using h1
 have q2:=q2 hf0;walk_at "";refine ZoU ?_;walk_at "";refine ZrM (s1 _ _ hl) (Dm (fun _ _ z=>s1 _ _ z) hb) hz fun l2 ps2 f2 H2 s2 n2 e2 p2 m2 nd2 so2 ln2=>?_;have fr2:∀f∈f2,f.good∧∃b∈bs,Less b f:=fun f hf=>⟨hg f ((m2 f).mp hf),f,(m2 f).mp hf,Rg (hg f ((m2 f).mp hf))⟩;have sm2:=s1.trans s2
 have fe2:fenB af st bd (Bx (2 ^ m) f2)=true:=by rw[ZsT m2]; exact hf0
 walk_at "";refine⟨p,l2,m,st,bd,af,ps2,f2,rfl,hC.mono (Ext.of sm2),hG,e2,p2,fun b hb=>(fr2 b hb).1,by omega,fun l3 ps3 f3 H3 s3 n3 e3 p3 w3=>?_⟩;walk_at "";refine⟨IvO p l m st bd af bs H,⟨_,l2,l3,ps2,ps3,f2,f3,sm2.trans s3,s3 _ _ e2,Dm (fun _ _ z=>s3 _ _ z) p2,e3,p3,fr2,ln2,fe2,w3,rfl,rfl⟩,?_⟩;clear w3 p3 e3 n3 s3 H3 f3 ps3 l3 fe2 sm2 fr2 ln2 so2 nd2 m2 p2 e2 n2 s2 H2 f2 ps2 l2;intro mm σ H2 h_;refine xE6 h_ fun ga fa pg pf g fs h1_=>nE11 h1_ fun s2 eg hgp ef hfp fr lng feg wf e0_ e1_=>?_;clear h_ h1_;subst e0_;subst e1_;walk_at "";refine ZvA ef eg (KN hfp) (KN hgp) ?_;rw[Zr6];walk_at ""
 by_cases hne:fs=g
 rotate_left
 ·refine nE2 (ZnB wf.ln (fun b hb=>(fr b hb).1) wf.le) fun u1 u2=>?_
  have lt:sum1 fs < sum1 g:=by
   rcases Uw u1 with z | z
   ·exact z
   ·exact absurd (u2 z) hne
  have frf:∀f∈fs,f.good∧∃b∈bs,Less b f:=fun f hf=>by
   obtain⟨j,hj⟩:=Ig.mp hf;have jl:=(Cr.mp hj).1;have wl:=wf.ln;obtain⟨b,hbj⟩ : ∃b,g[j]?=some b:=⟨g[j]'(by omega),CJ (by omega)⟩;obtain⟨lf,gf⟩:=wf.le j b f hbj hj;obtain⟨_,c,hc,lc⟩:=fr b (Df hbj);exact⟨gf,c,hc,Zqf lc lf⟩
  have wl:=wf.ln;refine CN (by rw[decide_eq_false hne]; rfl) ⟨fun σ' H'=>∃mm',mm' < sum1 g∧IvO p l m st bd af bs H mm' σ' H',fun _ _ z=>z,?_⟩;walk_at "";refine⟨p,fa,m,st,bd,af,pf,fs,rfl,hC.mono (Ext.of s2),hG,ef,hfp,fun b hb=>(frf b hb).1,by omega,fun l3 ps3 f3 H3 s3 n3 e3 p3 w3=>?_⟩;walk_at "";exact⟨_,lt,fa,l3,pf,ps3,fs,f3,s2.trans s3,s3 _ _ ef,Dm (fun _ _ z=>s3 _ _ z) hfp,e3,p3,frf,by omega,wf.fe feg,w3,rfl,rfl⟩
 refine Bv (by rw[decide_eq_true hne]; rfl) ?_;have lpg:=wf.fx hne;clear wf hfp ef hne fs pf;walk_at "";refine ZoU ?_;walk_at "";refine ZrM eg hgp (by omega) fun l3 ps3 f3 H3 s3 n3 e3 p3 m3 nd3 so3 ln3=>?_;have sm3:=s2.trans s3;have fr3:∀f∈f3,f.good∧∃b∈bs,Less b f:=fun f hf=>fr f ((m3 f).mp hf);have sh3:Bx (2 ^ m) f3=Bx (2 ^ m) g:=ZsT m3;have nl3:H l3=none:=s2.free n3;walk_at "";refine⟨p,l3,m,st,bd,af,ps3,f3,rfl,hC.mono (Ext.of sm3),hG,e3,p3,fun b hb=>(fr3 b hb).1,by omega,fun l4 ps4 f4 H4 s4 n4 e4 p4 w4=>?_⟩;walk_at "";refine⟨IvP p l m st bd af f3 H,⟨_,l3,l4,ps3,ps4,f3,f4,sm3.trans s4,nl3,sm3.free n4,s4 _ _ e3,Dm (fun _ _ z=>s4 _ _ z) p3,e4,p4,YcQ _,by rw[sh3]; exact feg,w4,rfl,rfl⟩,?_⟩;clear w4 p4 e4 n4 s4 H4 f4 ps4 l4;intro mm σ H4 h_;refine xE6 h_ fun ga' fa pg' pf G fs h1_=>nE12 h1_ fun s4 na nf eG hGp ef hfp su feG wf e0_ e1_=>?_;clear h_ h1_;subst e0_;subst e1_;walk_at "";refine ZvA ef eG (KN hfp) (KN hGp) ?_;rw[Zr6];walk_at "";have sl:=su.length_le
 by_cases hne:fs=G
 rotate_left
 ·have lt:fs.length < G.length:=by
   rcases Uw wf.su.length_le with z | z
   ·exact z
   ·exact absurd (wf.su.eq_of_length z) hne
  refine CN (by rw[decide_eq_false hne]; rfl) ⟨fun σ' H'=>∃mm',mm' < G.length∧IvP p l m st bd af f3 H mm' σ' H',fun _ _ z=>z,?_⟩;walk_at "";refine⟨p,fa,m,st,bd,af,pf,fs,rfl,hC.mono (Ext.of s4),hG,ef,hfp,fun b hb=>(fr3 b (su.mem (wf.su.mem hb))).1,by omega,fun l5 ps5 f5 H5 s5 n5 e5 p5 w5=>?_⟩;walk_at "";exact⟨_,lt,fa,l5,pf,ps5,fs,f5,s4.trans s5,nf,s4.free n5,s5 _ _ ef,Dm (fun _ _ z=>s5 _ _ z) hfp,e5,p5,wf.su.trans su,wf.fe feG,w5,rfl,rfl⟩
 refine Bv (by rw[decide_eq_true hne]; rfl) ?_;walk_at "";refine q2 ga' pg' G H4 s4 na eG hGp ⟨fun f hf=>fr3 f (su.mem hf),so3.sublist (Zm _ su),nd3.sublist su,by omega,feG,fun b hb k hk=>?_,wf.fx hne⟩
 cases e:fenB af st bd (Bx (2 ^ m) G ||| Bh (2 ^ m) (b.wo k)) with
 | false=>rfl
 | true=>
  have h2:=lpg b ((m3 b).mp (su.mem hb)) k hk;have h3:=Zx3 (d:=Bx (2 ^ m) g) e feg
  rw[show Bx (2 ^ m) G ||| Bh (2 ^ m) (b.wo k) ||| Bx (2 ^ m) g=Bx (2 ^ m) g ||| Bh (2 ^ m) (b.wo k) by
   have gg:Bx (2 ^ m) g ||| Bx (2 ^ m) G=Bx (2 ^ m) g:=Xz fun k hk=>by rw[←sh3]; exact XC (fun b hb=>su.mem hb) hk
   rw[Yao,Yk (Bh (2 ^ m) (b.wo k)),←Yao,Yk (Bx (2 ^ m) G),gg],h2]at h3
  cases h3
end
end LW
open PySem L2
namespace LW
open PySem L2 EM
open List (any_map any_nil map_id map_set)
theorem uc (f:Nat→Nat) (k:Nat):∀n,(orUp f n).testBit k=true→∃s,s < n∧(f s).testBit k=true
 | 0,h=>by rw[show orUp f 0=0 from rfl,Fl]at h; cases h
 | n+1,h=>by
  rw[show orUp f (n+1)=orUp f n ||| f n from rfl,Fv,Jb]at h
  rcases h with h | h
  ·obtain⟨s,hs,hb⟩:=uc f k n h
   exact⟨s,by omega,hb⟩
  ·exact⟨n,by omega,h⟩
theorem Zu6 {af:List Nat} {c y:Nat} (h:∀s t,c.testBit s=true→(af.getD s 0).testBit t=true→y.testBit t=true):∀t,(ahN af c).testBit t=true→y.testBit t=true:=fun t ht=>by
 unfold ahN at ht;obtain⟨s,_,hb⟩:=uc _ _ _ ht
 by_cases e:c.testBit s=true
 ·rw[if_pos e]at hb
  exact h s t e hb
 ·rw[if_neg e,Fl]at hb
  cases hb
theorem subz {x y:Nat} (h:∀s,x.testBit s=true→y.testBit s=true):x - (x &&& y)=0:=by
 apply DQ;intro k;rw[GD,Fl]
 cases e:x.testBit k with
 | false=>rfl
 | true=>rw[h k e]; rfl
theorem ZvW {x z y:Nat} (h:∀s,x.testBit s=true→y.testBit s=true) (k:∀s,z.testBit s=true→y.testBit s=true):∀s,(x ||| z).testBit s=true→y.testBit s=true:=fun s hs=>by
 rw[Fv,Jb]at hs;exact hs.elim (h s) (k s)
noncomputable abbrev FS:=List (Bar×Nat)×List Nat
structure Snd (m st bd:Nat) (af:List Nat) (S:FS):Prop where
 fi:FI m st af S.1 S.2
 nb:∀k,k+1 < S.2.length→S.2.getD k 0 &&& bd=0
 ml:∀q∈S.1,q.1.1 < 2 ^ m
theorem Zpe (f:Nat→Nat) (k:Nat):∀n s,s < n→(f s).testBit k=true→(orUp f n).testBit k=true
 | 0,s,h,_=>by omega
 | n+1,s,h,hb=>by
  rw[show orUp f (n+1)=orUp f n ||| f n from rfl,Fv,Jb]
  by_cases e:s=n
  ·subst e; exact .inr hb
  ·exact .inl (Zpe f k n s (by omega) hb)
theorem ud {af:List Nat} {c s x:Nat} (hs:s < af.length) (h1:c.testBit s=true) (h2:(af.getD s 0).testBit x=true):(ahN af c).testBit x=true:=by
 unfold ahN;refine Zpe _ _ _ s hs ?_;rw[if_pos h1];exact h2
theorem XD {af:List Nat} {s x:Nat} (h:(af.getD s 0).testBit x=true):s < af.length:=by
 rcases RQ s af.length with z | z
 ·exact z
 ·rw[Cz,RG z]at h
  rw[show(Option.none:Option Nat).getD 0=0 from rfl,Fl]at h
  cases h
theorem Ztq {m st bd:Nat} {af:List Nat} {n:Nat} {ws:List Nat} (W:Way m st bd af n ws):∀(i x:Nat),ws[i]?=some x→(layN af st i).testBit x=true
 | 0,x,h=>by
  obtain⟨y,hy,hs⟩:=W.hd;rw[hy]at h
  cases h
  exact hs
 | i+1,x,h=>by
  have hi:=(Cr.mp h).1;obtain⟨y,hy⟩ : ∃y,ws[i]?=some y:=⟨_,CJ (show i < ws.length by omega)⟩;have hsp:=W.sp i y x hy h;show(layN af st i ||| ahN af (layN af st i)).testBit x=true;rw[Fv,Jb];exact .inr (ud (XD hsp) (Ztq W i y hy) hsp)
theorem ZoY {af:List Nat} {st:Nat}:∀{i j:Nat},i≤j→∀s,(layN af st i).testBit s=true→(layN af st j).testBit s=true
 | i,0,h,s,hs=>by
  rw[show i=0 by omega]at hs;exact hs
 | i,j+1,h,s,hs=>by
  by_cases e:i=j+1
  ·rw[←e]; exact hs
  ·show(layN af st j ||| ahN af (layN af st j)).testBit s=true
   rw[Fv,Jb];exact .inl (ZoY (by omega) s hs)
theorem XF {af:List Nat} {st X:Nat} (h0:∀s,st.testBit s=true→X.testBit s=true) (h1:∀s x,X.testBit s=true→(af.getD s 0).testBit x=true→X.testBit x=true):∀i s,(layN af st i).testBit s=true→X.testBit s=true
 | 0,s,hs=>h0 s hs
 | i+1,s,hs=>ZvW (XF h0 h1 i) (Zu6 fun a b ha hb=>h1 a b (XF h0 h1 i a ha) hb) s (show(layN af st i ||| ahN af (layN af st i)).testBit s=true from hs)
theorem ZvQ {m st bd:Nat} {af:List Nat} {S:FS} (h:Snd m st bd af S) (hst:st < 2 ^ 2 ^ m):∀j,j < S.2.length→∀s,(layN af st j).testBit s=true→(S.2.getD j 0).testBit s=true
 | 0,_,s,hs=>by rw[h.fi.st0]; exact hs
 | j+1,hj,s,hs=>by
  have ih:=ZvQ h hst j (by omega);exact ZvW (fun s hs=>h.fi.mono hst (Ia j) hj (ih s hs)) (Zu6 fun x y hx hy=>h.fi.stp j hj x y (ih x hx) hy) s (show(layN af st j ||| ahN af (layN af st j)).testBit s=true from hs)
theorem Zt9 {m st:Nat} {af:List Nat} (hb:∀x∈af,x < 2 ^ 2 ^ m) (hst:st < 2 ^ 2 ^ m) {n:Nat} (hne : ¬layN af st n ||| ahN af (layN af st n)=layN af st n):pc (layN af st n) (2 ^ m) < pc (layN af st (n+1)) (2 ^ m):=by
 obtain⟨x,hx⟩ : ∃x,(layN af st (n+1)).testBit x≠(layN af st n).testBit x:=YcL hne
 have sub:∀x,(layN af st n).testBit x=true→(layN af st (n+1)).testBit x=true:=fun x hx=>by
  show(layN af st n ||| ahN af (layN af st n)).testBit x=true;rw[Fv,hx]; rfl
 have x1:(layN af st n).testBit x=false:=by
  cases e:(layN af st n).testBit x with
  | false=>rfl
  | true=>exact absurd ((sub x e).trans e.symm) hx
 have x2:(layN af st (n+1)).testBit x=true:=by
  cases e:(layN af st (n+1)).testBit x with
  | true=>rfl
  | false=>exact absurd (e.trans x1.symm) hx
 exact Xg sub x1 x2 (2 ^ m) (Jo (ZrT hb hst (n+1)) x2)
def Shy (af:List Nat) (st bd n:Nat):Prop:=layN af st n &&& bd=0∧∀s x,(layN af st n).testBit s=true→(af.getD s 0).testBit x=true→(layN af st n).testBit x=true
section
variable {P:Ay} {w:Av} {K:Ao} {mg:Str→Option Ab} {base:Ar} {t:Ad}
theorem Ztc {m st bd:Nat} {af:List Nat} {L:List (Bar×Nat)} {cr:List Nat} (G:GoodC m st bd af) (h:SI m st bd af L cr) {k:Nat} (hk:MN cr=some k) {bs:List Bar} (hm:∀b,b∈bs ↔ ∃n,(b,n)∈L∧k≤n):fenB af st bd (Bx (2 ^ m) bs)=true:=by
 obtain⟨k1,k2,k3,_⟩:=Xw (show HR cr (cr.length - 2) 1=some k from hk)
 have kl:k+1 < cr.length:=by omega
 have key:∀s,s < 2 ^ m→((Bx (2 ^ m) bs).testBit s=false ↔ (cr.getD k 0).testBit s=true):=fun s hs=>by
  rw[h.fi.kp k k1 (by omega) s,MP,decide_eq_true hs,Hw]
  constructor
  ·intro z
   refine⟨hs,fun q hq hl=>?_⟩
   cases e:lies s q.1 with
   | false=>rfl
   | true=>
    have:bs.any (lies s)=true:=Gn.mpr ⟨q.1,(hm q.1).mpr ⟨q.2,hq,hl⟩,e⟩;rw[this]at z
    cases z
  ·rintro⟨_,z⟩
   cases e:bs.any (lies s) with
   | false=>rfl
   | true=>
    obtain⟨b,hb,hl⟩:=Gn.mp e;obtain⟨n,h1,h2⟩:=(hm b).mp hb;have:=z _ h1 h2;rw[hl]at this
    cases this
 have off:∀s,2 ^ m≤s→(Bx (2 ^ m) bs).testBit s=false:=fun s hs=>by
  rw[MP,decide_eq_false (by omega),M5]
 refine Tc.mpr ⟨fun s hs=>(key s (Jo G.st hs)).mpr (h.fi.mono G.st (Cy k) (by omega) (by rw[h.fi.st0]; exact hs)),fun s x hs hx=>?_,fun s hs=>?_⟩
 ·have hsl:s < 2 ^ m:=by
   have:=XD hx;rw[G.ln]at this;exact this
  have h1:=(key s hsl).mp hs;have h2:=h.fi.stp k kl s x h1 hx;rw[←k3]at h2;exact(key x ((h.fi.kp k k1 (by omega) x).mp h2).1).mpr h2
 ·cases e:(Bx (2 ^ m) bs).testBit s with
  | true=>rfl
  | false=>
   have h1:=(key s (Jo G.bd hs)).mp e;have h2:=Dz.mp (h.nb k kl) s h1;rw[hs]at h2
   cases h2
def AnsR (m st bd:Nat) (af:List Nat) (H:Hp) (r a:Aa) (H':Hp):Prop:=Same H H'∧H a=none∧
  ((∃n ws,H' r=some (.tup [.str "ever",.ref a])∧H' a=some (.lst ((nums ws).map V.int))∧Way m st bd af (n+1) ws∧n≤100∧(∀j,j < n→layN af st j &&& bd=0)∧layN af st n &&& bd≠0)∨
   (∃ps bs F,H' r=some (.tup [.str "never",.ref a])∧H' a=some (.lst (ps.map V.ref))∧Bd (Bl H') ps F∧TgR m st bd af bs F∧F.length≤4900∧(∀f∈F,f.1 < 2 ^ m)∧∀n,layN af st n &&& bd=0))
noncomputable def Zz0 (t:Ad):Sp:=fun vs H Q _=>∃(c:Aa) (m st bd:Nat) (af:List Nat),vs=[.ref c]∧Dy t H c m st bd af∧GoodC m st bd af∧m≤6∧∀r a H',AnsR m st bd af H r a H'→Q (.ref r) H'
theorem Zsc (T:Txt K mg t):FnS P w K mg base 14 "answer" ["chart"] ((Zz0 t)):=by
 refine⟨_,_,T.Qy.ok Znt (fun vs H Q E h=>?_) (fun _ _ _ _ H vs Q E hr h=>?_),T.Zoz,T.Qy.kp,T.Zo3⟩
 ·obtain⟨c,m,st,bd,af,rfl,hC,G,hm,q⟩:=h
  rfl
 refine xE5 h fun c m st bd af h1_=>nE5 h1_ fun e0_ hC G hm q=>?_;clear h h1_;subst e0_;have ZxI:=Zw4 (P:=P) (w:=w) (base:=base) T;have Zwf:=Zus (P:=P) (w:=w) (base:=base) T;have h64:2 ^ m≤64:=Hq (n:=2) (by decide) hm
 refine⟨_,(Aj (ss 1 Znt.nd (Bm Bu (Bc ZxI hr (Ac (pv 0) Ag)) Ah (fun _ _=>rfl)))
   (Aj (BJ (BV (Dl hr.units) (Bm Bu (pv 1) Ah (fun _ _=>rfl)) Gd (Br _))
   (Al (Bb (pv 1)))
   BP)
   (Al (Bb (Ge (Ac Gd (Ac (ZvY Zwf hr (Ac (pv 0) (Ac (Bm Bu (pv 1) Ah (fun _ _=>rfl)) Ag))) Ag))))))),?_⟩
 walk_at "rd0";refine⟨c,m,st,bd,af,rfl,hC,G,hm,fun r dl ep a es H1 R=>?_⟩;walk_at "";refine CG R.er (v:=.ref ep) rfl ?_;walk_at ""
 rcases R.out with⟨x,x1,x2,x3,x4,x5,x6⟩ | ⟨hz,L,cr,sb,tr,si,⟨ws,hsb,e1,ea,W,hbad⟩ | ⟨k,hk,hsb,e1,hB⟩⟩
 ·refine CG x5 (v:=.str "ever") rfl ?_
  walk_at "";refine CN (decide_eq_true rfl) ?_;walk_at "";refine q ep a H1 ⟨R.sm,R.na,.inl ⟨0,[x],x5,x6,⟨rfl,⟨x,rfl,x1⟩,⟨x,rfl,x2⟩,fun i a b h1 h2=>by simp at h2,fun y hy=>by rw[Dr.mp hy]; exact x3⟩,by omega,fun j hj=>absurd hj (IW _),fun z=>?_⟩⟩;have z:st &&& bd=0:=z;have:=Dz.mp z x x1;rw[x2]at this
  cases this
 ·refine CG e1 (v:=.str "ever") rfl ?_
  walk_at "";refine CN (decide_eq_true rfl) ?_;walk_at "";have l2:=si.fi.len2;have ll:=si.ln;have nb:∀j,j < cr.length - 1→layN af st j &&& bd=0:=fun j hj=>Dz.mpr fun s hs=>Dz.mp (si.nb j (by omega)) s (ZvQ (S:=(L,cr)) ⟨si.fi,si.nb,si.ml⟩ G.st j (show j < cr.length by omega) s hs);obtain⟨x,hx,hxb⟩:=W.la;have h1:=Ztq W _ x hx;refine q ep a H1 ⟨R.sm,R.na,.inl ⟨cr.length - 1,ws,e1,ea,by rw[show cr.length - 1+1=cr.length by omega]; exact W,by omega,nb,fun z=>?_⟩⟩;have:=Dz.mp z x h1;rw[hxb]at this
  cases this
 ·refine CG e1 (v:=.str "never") rfl ?_
  walk_at "";refine Bv (decide_eq_false (by decide)) ?_;walk_at "";refine CG e1 (v:=.ref a) rfl ?_;walk_at "";obtain⟨ps,bs,eb,pr,pm,_⟩:=hB;have few:=si.few hm
  have bl:bs.length≤L.length:=by
   have z:=pm.length_eq;rw[Az]at z;have z2:=Ny (fun q:Bar×Nat=>decide (k≤q.2)) L;omega
  have bm:∀b,b∈bs ↔ ∃n,(b,n)∈L∧k≤n:=fun b=>by
   rw[pm.mem_iff]
   constructor
   ·intro h
    obtain⟨x,hx,rfl⟩:=DY.mp h;obtain⟨h1,h2⟩:=Fj.mp hx;exact⟨x.2,h1,of_decide_eq_true h2⟩
   ·rintro⟨n,h1,h2⟩
    exact DY.mpr ⟨(b,n),Fj.mpr ⟨h1,decide_eq_true h2⟩,rfl⟩
  have hf:=Ztc G si hk bm
  have bg:∀b∈bs,b.good∧b.1 < 2 ^ m:=fun b hb=>by obtain⟨n,h1,_⟩:=(bm b).mp hb; exact⟨si.fi.gd _ h1,si.ml _ h1⟩
  obtain⟨k1,k2,k3,_⟩:=Xw (show HR cr (cr.length - 2) 1=some k from hk);have nolay:∀n,layN af st n &&& bd=0:=fun n=>Dz.mpr fun s hs=>Dz.mp (si.nb k (by omega)) s (XF (X:=cr.getD k 0) (fun s hs=>si.fi.mono G.st (Cy _) (by omega) (by rw[si.fi.st0]; exact hs)) (fun s x h1 h2=>by rw[k3]; exact si.fi.stp k (by omega) s x h1 h2) n s hs);refine⟨c,a,m,st,bd,af,ps,bs,rfl,hC.mono (Ext.of R.sm),G,eb,pr,fun b hb=>(bg b hb).1,by omega,fun z=>absurd z (by rw[hf]; decide),fun _ a2 ps2 F H2 s2 n2 e2 p2 TR=>?_⟩;walk_at "";refine Gf (by simp) fun r3 H3 s3 n3 e3=>?_;walk_at "";refine q r3 a2 H3 ⟨R.sm.trans (s2.trans s3),R.sm.free n2,.inr ⟨ps2,bs,F,e3,s3 _ _ e2,Dm (fun _ _ z=>s3 _ _ z) p2,TR,by have:=TR.ln; omega,fun f hf=>?_,nolay⟩⟩;obtain⟨_,b,hb,lf⟩:=TR.fr f hf;have:=(bg b hb).2;have:=ZrU lf;omega
end
section
variable {P:Ay} {w:Av} {K:Ao} {mg:Str→Option Ab} {base:Ar} {t:Ad}
structure BL (H:Hp) (l:Aa) (ps:List Aa) (bs:List Bar):Prop where
 fl:H l=some (.lst (ps.map V.ref))
 pr:Bd (Bl H) ps bs
 gd:∀b∈bs,b.good
theorem BL.mono {H H':Hp} {l:Aa} {ps:List Aa} {bs:List Bar} (h:BL H l ps bs) (s:Same H H'):BL H' l ps bs:=⟨s _ _ h.fl,Zwn (Ext.of s) h.pr,h.gd⟩
noncomputable def spAh:Sp:=fun vs H Q _=>∃(l:Aa) (af:List Nat) (s:Nat),vs=[.ref l,.int (s:Int)]∧H l=some (.lst ((nums af).map V.int))∧af.length≤64∧Q (.int ((ahN af s:Nat):Int)) H
theorem Zpb (T:Txt K mg t):FnS P w K mg base 1 "_law_ahead" ["_law_after","_law_crowd"] (spAh):=by
 refine⟨_,_,T.QJ.ok VN (fun vs H Q E h=>?_) (fun _ _ _ _ H vs Q E hr h=>?_),T.ZiB,T.QJ.kp,T.ZiL⟩
 ·obtain⟨l,af,n,rfl,hl,h64,q⟩:=h
  rfl
 obtain⟨l,af,n,rfl,hl,h64,q⟩:=h
 refine⟨_,(Aj (ss 2 VN.nd Ah)
   (Aj (Ea Dj rfl (Hy rfl T.B.range (Ac (CV Fp rfl T.B.len Fo (Ac (pv 0) Ag)) Ag)) (sg 3 VN.nd)
   (Al (BJ (BV (Dl hr.units) (Ak Cm (Ak Jx (pv 1) (pv 3)) Ah) Ah (Br _))
   (Al (ss 2 VN.nd (Ak Hb (pv 2) (Bm Bu (pv 0) (pv 3) (fun _ _=>rfl)))))
   BP)))
   (Al (Bb (pv 2))))),?_⟩
 walk_at "rd0";rw[Eo];refine⟨_,rfl,by omega,by omega,?_⟩;rw[Ft];refine JF (fun i σ H'=>H'=H∧∃v,σ=[some (.ref l),some (.int (n:Int)),some (.int ((orUp (fun k=>if n.testBit k=true then af.getD k 0 else 0) i:Nat):Int)),v]) ⟨rfl,_,rfl⟩ ?_ ?_
 ·rintro i σ H' hi ⟨rfl,v,rfl⟩
  walk_at "";rw[ou];refine Kw (fun h1=>?_) (fun h1=>?_)
  ·walk_at ""
   refine Dk hl (Ez hi) ?_;walk_at "";rw[GQ];refine⟨rfl,some (.int (i:Int)),?_⟩
   have e:orUp (fun k=>if n.testBit k=true then af.getD k 0 else 0) (i+1)=orUp (fun k=>if n.testBit k=true then af.getD k 0 else 0) i ||| af.getD i 0:=by
    show orUp _ i ||| (if n.testBit i=true then af.getD i 0 else 0)=_
    rw[if_pos h1]
   rw[e]
  ·walk_at ""
   refine⟨rfl,some (.int (i:Int)),?_⟩;rw[Xe (n:=i) (show(if n.testBit i=true then af.getD i 0 else 0)=0 by rw[h1,if_neg Cg])]
 ·rintro σ H' ⟨rfl,v,rfl⟩
  walk_at "";exact q
noncomputable def ZuX:Sp:=fun vs H Q _=>∃(n:Nat) (b:Bar),vs=[.int (n:Int),.int (b.1:Int),.int (b.2:Int)]∧n≤64∧b.good∧∀H',Same H H'→Q (.int ((Bh n b:Nat):Int)) H'
theorem Zng (T:Txt K mg t):FnS P w K mg base 2 "_law_inside" ["_law_size","_law_asks","_law_lit"] (ZuX):=by
 refine⟨_,_,T.QQ.ok ZkL (fun vs H Q E h=>?_) (fun _ _ _ _ H vs Q E hr h=>?_),T.Zhe,T.QQ.kp,T.ZhB⟩
 ·obtain⟨n,b,rfl,hn,hg,q⟩:=h
  rfl
 refine xE2 h fun n b h1_=>nE4 h1_ fun e0_ hn hg q=>?_;clear h h1_;subst e0_;refine⟨_,(Al (Bb (CV (Zq3 rfl) rfl T.B.sum ZxW (Ac (N5 (sc:=Bf Vz) (N:=["_law_size","_law_asks","_law_lit"]) (ns:=["_law_lit","_law_asks"]) (ix:=[2,1]) rfl rfl (by decide +kernel) rfl (Hy rfl T.B.range (Ac (pv 0) Ag)) (fun _ _ _ _=>(R6 (BV (Dl hr.units) (Ak Cm (pv 0) (pv 2)) (pv 1) (Br _)))) (fun _ _ _ _=>(Ak DW Ah (pv 0)))) Ag)))),?_⟩;walk_at "rd0";refine⟨_,rfl,by omega,by omega,?_⟩;rw[Ft];refine Kz (fun i ys=>∃ns:List Int,ys=ns.map V.int∧ns.sum=((Bh i b:Nat):Int)) (Vh 0 n H) (by simp; omega) ⟨[],rfl,rfl⟩ ?_ ?_
 ·rintro i x ys acc H' hx s1 hacc ea ⟨ns,rfl,hy⟩ _ R kk
  obtain⟨hi,rfl⟩:=Xd hx;rw[Rv]at kk ⊢
  have li:decide (Hl (i:Int) (b.1:Int)=(b.2:Int))=lies i b:=by
   rw[Dw,←R8 hg];exact decide_eq_decide.mpr (by omega)
  simp only [subS,Cv,Fe];walk_at "";rw[li];refine kk _ H' (Same.refl _) (fun z=>⟨ns,rfl,?_⟩) fun z R2 k2=>?_
  ·rw[hy]
   unfold Bh;rw[ZmN (fun s=>lies s b) i z]
  ·walk_at ""
   rw[Eh];refine k2 _ H' (Same.refl _) ⟨ns++[((2 ^ i:Nat):Int)],by rw[Dh]; rfl,?_⟩;unfold Bh;rw[ZtH (fun s=>lies s b) i z,List.sum_append,hy];simp[Bh]
 ·rintro acc ys H' hacc s1 ea ⟨ns,rfl,hy⟩
  rw[Az,G5]at hy;refine ZzO (SqL.of ea) ?_;rw[hy];exact q H' s1
noncomputable def ZuZ:Sp:=fun vs H Q _=>∃(i:Int),vs=[.int i]∧Q (.bl true) H
theorem Zpc (T:Txt K mg t):FnS P w K mg base 1 "_law_whole" ["_law_found"] (ZuZ):=by
 refine⟨_,_,T.QK.ok Zmm (fun vs H Q E h=>?_) (fun _ _ _ _ H vs Q E hr h=>?_),T.ZiE,T.QK.kp,T.ZiO⟩
 ·obtain⟨i,rfl,q⟩:=h
  rfl
 obtain⟨i,rfl,q⟩:=h;refine⟨_,(Al (Bb (Jw (CV Ji rfl T.B.isinstance Jj (Ac (pv 0) (Ac (Jd (v:=.ty "int") rfl T.B.int Zva rfl) Ag))) (Kq (Zsk (CV Ji rfl T.B.isinstance Jj (Ac (pv 0) (Ac (Jd (v:=.ty "bool") rfl T.B.bool ZqY rfl) Ag)))))))),?_⟩;walk_at "rd0";refine CN rfl ?_;walk_at "";exact q
theorem Zyz (s k:Nat):decide (Hl ((s:Int) / 2 ^ ((k:Int)).toNat) 1=0) = !s.testBit k:=by
 rw[Xc]
 cases s.testBit k <;> decide
noncomputable def Zzj:Sp:=fun vs H Q _=>∃(a l:Aa) (m st bd n:Nat) (af ws:List Nat),vs=[.ref a,.int (st:Int),.int (bd:Int),.ref l,.int (n:Int)]∧H a=some (.lst ((nums ws).map V.int))∧AF l af m H∧Way m st bd af (n+1) ws∧n≤1000∧Q (.bl true) H
theorem ZyH (T:Txt K mg t):FnS P w K mg base 2 "_law_way" ["_law_way_here","_law_starts","_law_bads","_law_after","_law_steps"] (Zzj):=by
 refine⟨_,_,T.QL.ok Zj9 (fun vs H Q E h=>?_) (fun _ _ _ _ H vs Q E hr h=>?_),T.ZkR,T.QL.kp,T.Zk6⟩
 ·obtain⟨a,l,m,st,bd,n,af,ws,rfl,ha,A,W,hn,q⟩:=h
  rfl
 refine xE8 h fun a l m st bd n af ws h1_=>nE6 h1_ fun e0_ ha A W hn q=>?_;clear h h1_;subst e0_;have XH:=Zpc (P:=P) (w:=w) (base:=base) T;have hfl:=A.fl;have hln:=W.ln
 refine⟨_,(Aj (BJ (PW.pt (Gx (DR (CK (CV Ji rfl T.B.isinstance Jj (Ac (pv 0) (Ac (Jd (v:=.ty "list") rfl T.B.list LC rfl) Ag))) (fun _=>rfl))) (Hx (BV (Gq hr.units) (CV Fp rfl T.B.len Fo (Ac (pv 0) Ag)) (Ak Em (pv 4) Ah) (Br _)))))
   (Al (Bb Ej))
   BP)
   (Aj (Ea Dj rfl (Hy rfl T.B.range (Ac (CV Fp rfl T.B.len Fo (Ac (pv 0) Ag)) Ag)) (sg 5 Zj9.nd)
   (Aj (BJ (PW.pt (Gx (DR (CK (Bc XH hr (Ac (Bm Bu (pv 0) (pv 5) (fun _ _=>rfl)) Ag)) (fun _=>rfl))) (Hx (DR (Zpl U3 Kr Ah (Bm Bu (pv 0) (pv 5) (fun _ _=>rfl)) (CV Fp rfl T.B.len Fo (Ac (pv 3) Ag)))))))
   (Al (Bb Ej))
   BP)
   (Al (BJ (PW.pt (RV (BV Lx (pv 5) Ah (Br _)) (RT (BV (Dl hr.units) (Ak Cm (Ak Jx (Bm Bu (pv 3) (Bm Bu (pv 0) (Ak Hz (pv 5) Ah) (fun _ _=>rfl)) (fun _ _=>rfl)) (Bm Bu (pv 0) (pv 5) (fun _ _=>rfl))) Ah) Ah (Br _)))))
   (Al (Bb Ej))
   BP))))
   (Al (Bb (Jw (Jf (Dl hr.units) (Ak Cm (Ak Jx (pv 1) (Bm Bu (pv 0) Ah (fun _ _=>rfl))) Ah) Ah (Br _)) (Kq (Jf (Dl hr.units) (Ak Cm (Ak Jx (pv 2) (Bm Bu (pv 0) (Gy Zt Ah) (fun _ _=>rfl))) Ah) Ah (Br _)))))))),?_⟩
 walk_at "rd0";refine Bv rfl ?_;walk_at "";rw[Eo,hln];refine Bv (by rw[decide_eq_true (by omega)]; rfl) ?_;walk_at "";rw[Eo,hln];refine⟨_,rfl,by omega,by omega,?_⟩;rw[Ft];refine JF (n:=n+1) (fun i σ H'=>H'=H∧∃v5,σ=[some (.ref a),some (.int (st:Int)),some (.int (bd:Int)),some (.ref l),some (.int (n:Int)),v5]) ⟨rfl,_,rfl⟩ ?_ ?_
 ·rintro i σ H' hi ⟨rfl,v5,rfl⟩
  have hw:∀j,j < n+1→ws[j]?=some (ws.getD j 0):=fun j hj=>by
   rw[Cz,CJ (by omega)];rfl
  have hlt:ws.getD i 0 < 2 ^ m:=W.lt _ (Df (hw i hi));have hal:=A.len;walk_at "";refine Dk ha (Ez (by omega)) ?_;walk_at "";refine⟨_,rfl,?_⟩;walk_at "";refine Bv rfl ?_;walk_at "";refine Dk ha (Ez (by omega)) ?_;walk_at "";refine CN (decide_eq_true (by omega)) ?_;walk_at "";rw[Eo];refine Bv (by rw[decide_eq_true (by omega)]; rfl) ?_;walk_at ""
  by_cases h0:i=0
  ·refine Bv (decide_eq_false (by omega)) ?_
   refine Bv rfl ?_;walk_at "";exact⟨rfl,_,rfl⟩
  ·refine CN (decide_eq_true (by omega)) ?_
   have hlt2:ws.getD (i - 1) 0 < 2 ^ m:=W.lt _ (Df (hw (i - 1) (by omega)));have hsp:=W.sp (i - 1) _ _ (hw (i - 1) (by omega)) (show ws[i - 1+1]?=some (ws.getD i 0) by rw[show i - 1+1=i by omega]; exact hw i hi);walk_at "";rw[show((i:Int) - 1)=((i - 1:Nat):Int) by omega];refine Dk ha (Ez (by omega)) ?_;walk_at "";refine Dk A.fl (Ez (by omega)) ?_;walk_at "";refine Dk ha (Ez (by omega)) ?_;walk_at "";rw[Zyz,hsp];refine Bv rfl ?_;walk_at "";exact⟨rfl,_,rfl⟩
 ·rintro σ H' ⟨rfl,v5,rfl⟩
  obtain⟨x,hx,hxs⟩:=W.hd;obtain⟨y,hy,hyb⟩:=W.la;rw[show n+1 - 1=n by omega]at hy
  have ex:ws.getD 0 0=x:=by rw[Cz,hx]; rfl
  have ey:ws.getD n 0=y:=by rw[Cz,hy]; rfl
  walk_at "";have g0:atI ((nums ws).map V.int) ((0:Nat):Int)=some (.int ((ws.getD 0 0:Nat):Int)):=ZD (Ez (by omega));refine Z0 ha g0 ?_;walk_at "";rw[ex,ou,hxs];refine CN rfl ?_;walk_at "";refine Z0 ha (ZtG (n:=n) (by rw[Eo]; omega) (Ez (by omega))) ?_;walk_at "";rw[ey,ou,hyb];exact q
noncomputable def Zs0:Sp:=fun vs H Q _=>∃(c:Int) (m:Nat),vs=[.int c,.int ((2 ^ m:Nat):Int)]∧m≤6∧∀r:Nat,r < 2 ^ 2 ^ m→Q (.int (r:Int)) H
theorem Zn8 (T:Txt K mg t):FnS P w K mg base 1 "_law_crowd_by" ["_law_cell","_law_size"] (Zs0):=by
 refine⟨_,_,T.QF.ok VL (fun vs H Q E h=>?_) (fun _ _ _ _ H vs Q E hr h=>?_),T.ZfN,T.QF.kp,T.ZfX⟩
 ·obtain⟨c,m,rfl,hm,q⟩:=h
  rfl
 obtain⟨c,m,rfl,hm,q⟩:=h;have hp:=Gh hm;have hp0:0 < 2 ^ m:=Ef m;have h2p:0 < 2 ^ 2 ^ m:=Ef _;obtain⟨a,ha,la⟩:=KY (c / 5) m;obtain⟨b,hb,lb⟩:=KY (c / 5 / ((2 ^ m:Nat):Int)) m;obtain⟨d,hd,ld⟩:=KY (c / 5) (2 ^ m)
 refine⟨_,(Aj (ss 2 VL.nd (Ak JN (pv 0) Ah))
   (Aj (BJ (BV (Dl hr.units) (Ak El (pv 0) Ah) Ah (Br _))
   (Al (Bb (Ak El (pv 2) (Ak DW Ah (pv 1)))))
   BP)
   (Aj (BJ (BV (Dl hr.units) (Ak El (pv 0) Ah) Ah (Br _))
   (Al (Bb Ah))
   BP)
   (Aj (ss 3 VL.nd (Ak DW Ah (Ak El (pv 2) (pv 1))))
   (Aj (BJ (BV (Dl hr.units) (Ak El (pv 0) Ah) Ah (Br _))
   (Al (ss 3 VL.nd (Ak Hb (pv 3) (Ak DW Ah (Ak El (Ak JN (pv 2) (pv 1)) (pv 1))))))
   BP)
   (Al (Bb (pv 3)))))))),?_⟩
 walk_at "rd0";refine Eg (fun h1=>?_) (fun h1=>?_)
 ·walk_at ""
  rw[Eh];refine i_rI (by show(0:Int) < _; omega) ?_;rw[hd];exact q _ ld
 walk_at "";refine Eg (fun h3=>?_) (fun h3=>?_)
 ·walk_at ""
  exact q 0 h2p
 walk_at "";rw[ha];walk_at "";rw[Eh];refine Eg (fun h2=>?_) (fun h2=>?_)
 ·walk_at ""
  rw[hb];walk_at "";rw[Eh,GQ];exact q _ (Nv (JX la) (JX lb))
 ·walk_at ""
  exact q _ (JX la)
noncomputable def Zs7:Sp:=fun vs H Q _=>∃(c:Int) (s m:Nat),vs=[.int c,.int (s:Int),.int ((2 ^ m:Nat):Int)]∧m≤6∧∀r:Nat,r < 2 ^ 2 ^ m→Q (.int (r:Int)) H
theorem Zob (T:Txt K mg t):FnS P w K mg base 1 "_law_steps_by" ["_law_cell","_law_s","_law_size"] (Zs7):=by
 refine⟨_,_,T.QG.ok VM (fun vs H Q E h=>?_) (fun _ _ _ _ H vs Q E hr h=>?_),T.ZfO,T.QG.kp,T.ZfY⟩
 ·obtain⟨c,s0,m,rfl,hm,q⟩:=h
  rfl
 refine xE3 h fun c s0 m h1_=>nE3 h1_ fun e0_ hm q=>?_;clear h h1_;subst e0_;have hp:=Gh hm;have hp0:0 < 2 ^ m:=Ef m;have h2p:0 < 2 ^ 2 ^ m:=Ef _;obtain⟨a,ha,la⟩:=KY ((s0:Int)+1+c / 6) m;obtain⟨b,hb,lb⟩:=KY (c / 6 / ((2 ^ m:Nat):Int)+c % 6) m;obtain⟨d,hd,ld⟩:=KY (c / 6) (2 ^ m)
 refine⟨_,(Aj (ss 3 VM.nd (Ak JN (pv 0) Ah))
   (Aj (BJ (BV (Dl hr.units) (Ak El (pv 0) Ah) Ah (Br _))
   (Al (Bb Ah))
   BP)
   (Aj (BJ (BV (Dl hr.units) (Ak El (pv 0) Ah) Ah (Br _))
   (Al (Bb (Ak El (pv 3) (Ak DW Ah (pv 2)))))
   BP)
   (Aj (ss 4 VM.nd (Ak DW Ah (Ak El (Ak Em (Ak Em (pv 1) Ah) (pv 3)) (pv 2))))
   (Aj (BJ (BV Lx (Ak El (pv 0) Ah) Ah (Br _))
   (Al (ss 4 VM.nd (Ak Hb (pv 4) (Ak DW Ah (Ak El (Ak Em (Ak JN (pv 3) (pv 2)) (Ak El (pv 0) Ah)) (pv 2))))))
   BP)
   (Al (Bb (pv 4)))))))),?_⟩
 walk_at "rd0";refine Eg (fun h1=>?_) (fun h1=>?_)
 ·walk_at ""
  exact q 0 h2p
 walk_at "";refine Eg (fun h3=>?_) (fun h3=>?_)
 ·walk_at ""
  rw[Eh];refine i_rI (by show(0:Int) < _; omega) ?_;rw[hd];exact q _ ld
 walk_at "";rw[ha];walk_at "";rw[Eh];refine Eg (fun h2=>?_) (fun h2=>?_)
 ·walk_at ""
  rw[hb];walk_at "";rw[Eh,GQ];exact q _ (Nv (JX la) (JX lb))
 ·walk_at ""
  exact q _ (JX la)
noncomputable def ZsV (K:Ao):Sp:=fun vs H Q _=>∃(sc:Aa) (ns:List Int) (m:Nat),vs=[.ref sc,.int ((2 ^ m:Nat):Int)]∧SqL K H sc (ns.map V.int)∧ns.length≤1000∧m≤6∧∀l H' af,Same H H'→H l=none→AF l af m H'→Q (.ref l) H'
theorem Zn6 (T:Txt K mg t):FnS P w K mg base 2 "_law_after_by" ["_law_script","_law_size"] ((ZsV K)):=by
 refine⟨_,_,T.QH.ok Jk (fun vs H Q E h=>?_) (fun _ _ _ _ H vs Q E hr h=>?_),T.ZfL,T.QH.kp,T.ZfV⟩
 ·obtain⟨sc,ns,m,rfl,hS,hns,hm,q⟩:=h
  rfl
 refine xE3 h fun sc ns m h1_=>nE5 h1_ fun e0_ hS hns hm q=>?_;clear h h1_;subst e0_;have Ri:=Zlf (P:=P) (w:=w) (base:=base) T;have Zje:=Zob (P:=P) (w:=w) (base:=base) T;have hp:=Gh hm;have hp0:0 < 2 ^ m:=Ef m;have h2p:0 < 2 ^ 2 ^ m:=Ef _
 refine⟨_,(Aj (ss 2 Jk.nd (Bc Ri hr (Ac (pv 0) (Ac Ah Ag))))
   (Aj (ss 3 Jk.nd (JB Ag))
   (Aj (Ea Dj rfl (Hy rfl T.B.range (Ac (pv 1) Ag)) (sg 4 Jk.nd)
   (Aj (ss 5 Jk.nd Ah)
   (Aj (BJ (BV Kr (Ak Em (pv 4) Ah) (CV Fp rfl T.B.len Fo (Ac (pv 0) Ag)) (Br _))
   (Al (ss 5 Jk.nd (Bc Zje hr (Ac (Bc Ri hr (Ac (pv 0) (Ac (Ak Em (pv 4) Ah) Ag))) (Ac (pv 4) (Ac (pv 1) Ag))))))
   (Al (BJ (PW.pt (RV (BV (Dl hr.units) (Ak El (pv 2) Ah) Ah (Br _)) (RT (BV Kr (Ak Em (pv 4) Ah) (pv 1) (Br _)))))
   (Al (ss 5 Jk.nd (Ak DW Ah (Ak Em (pv 4) Ah))))
   (Al (BJ (BV (Dl hr.units) (Ak El (pv 2) Ah) Ah (Br _))
   (Aj (ss 6 Jk.nd (Ak Em (Ak Em (Ak Ve (pv 4) (Ak Em Ah (Ak Ve Ah (Ak JN (pv 2) Ah)))) Ah) (Ak Ve (Ak JN (Ak JN (pv 2) Ah) (pv 1)) Ah)))
   (Al (ss 5 Jk.nd (Ak DW Ah (Ak El (pv 6) (pv 1))))))
   (Al (BJ (BV (Dl hr.units) (Ak El (pv 2) Ah) Ah (Br _))
   (Al (ss 5 Jk.nd (Ak DW Ah (Ak ZyQ (pv 4) (Ak El (Ak JN (pv 2) Ah) (pv 1))))))
   BP)))))))
   (Al (Ek (Ku Ja Kd Ls Jg (pv 3) (Ac (pv 5) Ag)))))))
   (Al (Bb (pv 3)))))),?_⟩
 walk_at "rd0";refine⟨sc,ns,3,rfl,hS,?_⟩;generalize cell ns 3 % 10 ^ 45=y3;walk_at "";refine JG (by simp) fun l H1 s1 n1 e1=>?_;walk_at "";refine⟨_,rfl,by omega,by omega,?_⟩;rw[Ft];refine JF (n:=2 ^ m) (fun i σ H'=>∃(af:List Nat) (v4 v5 v6:Option V),Same H H'∧H' l=some (.lst ((nums af).map V.int))∧af.length=i∧(∀x∈af,x < 2 ^ 2 ^ m)∧σ=[some (.ref sc),some (.int ((2 ^ m:Nat):Int)),some (.int y3),some (.ref l),v4,v5,v6]) ⟨[],_,_,_,s1,e1,rfl,(fun x hx=>by cases hx),rfl⟩ ?_ ?_
 ·rintro i σ H2 hi ⟨af,v4,v5,v6,s2,e2,hl,hb,rfl⟩
  have al:((nums af).map V.int).length < 1000000:=by rw[Eo]; omega
  obtain⟨c,hc,lc⟩:=KY ((i:Int) * (1+4 * (y3 / 4))+1+y3 / 4 / ((2 ^ m:Nat):Int) * 2) m;obtain⟨d,hd,ld⟩:=KY (y3 / 4) m;walk_at "rs";refine Kv ?_;walk_at "rs";refine MK (fun σ H'=>∃(v:Nat) (v6:Option V),H'=H2∧v < 2 ^ 2 ^ m∧σ=[some (.ref sc),some (.int ((2 ^ m:Nat):Int)),some (.int y3),some (.ref l),some (.int (i:Int)),some (.int (v:Int)),v6]) ?_ ?_
  rotate_left
  ·intro Kn hK
   walk_at "";refine ZX (s2.seq hS) ?_;rw[Az];walk_at "";refine Eg (fun h1=>?_) (fun h1=>?_)
   ·walk_at ""
    rw[show(i:Int)+4=((i+4:Nat):Int) by omega];refine⟨sc,ns,i+4,rfl,s2.seq hS,?_⟩;walk_at "";refine⟨_,i,m,rfl,hm,fun r hr=>?_⟩;walk_at "";exact hK _ _ ⟨r,_,rfl,hr,rfl⟩
   walk_at "";refine Eg (fun h2=>?_) (fun h2=>?_)
   ·walk_at ""
    refine Eg (fun h3=>?_) (fun h3=>?_)
    ·walk_at ""
     rw[show(i:Int)+1=((i+1:Nat):Int) by omega,Eh];exact hK _ _ ⟨_,_,rfl,JX (by omega),rfl⟩
    ·walk_at ""
     refine Bv (decide_eq_false (by omega)) ?_;walk_at "";refine Bv (decide_eq_false (by omega)) ?_;walk_at "";exact hK _ _ ⟨0,_,rfl,h2p,rfl⟩
   ·refine Bv rfl ?_
    walk_at "";refine Eg (fun h3=>?_) (fun h3=>?_)
    ·walk_at ""
     refine Vf (by first | exact .inl ⟨by omega,by omega⟩ | exact .inr ⟨by omega,by omega⟩) ?_;walk_at "";refine Vf (by first | exact .inl ⟨by omega,by omega⟩ | exact .inr ⟨by omega,by omega⟩) ?_;walk_at "";refine Vf (by first | exact .inl ⟨by omega,by omega⟩ | exact .inr ⟨by omega,by omega⟩) ?_;walk_at "";rw[hc];walk_at "";rw[Eh];exact hK _ _ ⟨_,_,rfl,JX lc,rfl⟩
    ·walk_at ""
     refine Eg (fun h4=>?_) (fun h4=>?_)
     ·walk_at ""
      rw[hd];walk_at "";rw[ZxG];have xl:i ^^^ d < 2 ^ m:=Nat.xor_lt_two_pow hi ld;walk_at "";rw[Eh];exact hK _ _ ⟨_,_,rfl,JX xl,rfl⟩
     ·walk_at ""
      exact hK _ _ ⟨0,_,rfl,h2p,rfl⟩
  intro σ H3 h_;refine xE2 h_ fun v w6 h1_=>nE3 h1_ fun e0_ hv e1_=>?_;clear h_ h1_;subst e0_;subst e1_;walk_at "";refine⟨tyL e2,?_⟩;walk_at "";refine Ky e2 al fun H4 b4 e4=>?_;walk_at "";refine⟨af++[v],_,_,_,b4.same n1 s2,by rw[KQ]; exact e4,by rw[Ca,hl]; rfl,fun x hx=>?_,rfl⟩
  rcases Hj.mp hx with h | h
  ·exact hb x h
  ·rw[Dr.mp h]; exact hv
 ·rintro σ H2 ⟨af,v4,v5,v6,s2,e2,hl,hb,rfl⟩
  walk_at "";exact q l H2 af s2 n1 ⟨e2,hl,hb⟩
end
theorem Zyy {a b:Bar} (h:ple (ib a) (ib b)) (n:a≠b):HT.lexLt [(a.1:Int),(a.2:Int)] [(b.1:Int),(b.2:Int)]=true:=by
 rw[HT.lexLt_cons,HT.lexLt_cons,HT.lexLt_nil_nil];have h:(a.1:Int) < (b.1:Int)∨((a.1:Int)=(b.1:Int)∧(a.2:Int)≤(b.2:Int)):=h
 rcases h with h | ⟨h1,h2⟩
 ·rw[if_neg (by omega)]; exact decide_eq_true h
 ·rw[if_pos h1]
  have:(a.2:Int)≠(b.2:Int):=fun z=>n (Iz (by omega) (by omega));rw[if_neg this]; exact decide_eq_true (by omega)
section
variable {P:Ay} {w:Av} {K:Ao} {mg:Str→Option Ab} {base:Ar} {t:Ad}
theorem ZuU {n k:Nat} {F:List Bar} (nd:F.Nodup) {f:Bar} (hf:F[k]?=some f) {o:Nat} (ho:∀s,o.testBit s=true ↔ ∃j b,j≠k∧F[j]?=some b∧(Bh n b).testBit s=true):o=Bx n (F.filter fun c=>!decide (c=f)):=by
 apply DQ;intro s;rw[GX,ho,MP,DN]
 constructor
 ·rintro⟨j,b,hj,hb,hs⟩
  rw[Td,DN]at hs;refine⟨hs.1,Gn.mpr ⟨b,Fj.mpr ⟨Df hb,?_⟩,hs.2⟩⟩
  have:b≠f:=fun z=>by
   rw[z]at hb;exact hj ((UL (Cr.mp hb).1 nd).mp (hb.trans hf.symm))
  rw[decide_eq_false this];rfl
 ·rintro⟨h1,h2⟩
  obtain⟨b,hb,hl⟩:=Gn.mp h2;obtain⟨hb1,hb2⟩:=Fj.mp hb;obtain⟨j,hj⟩:=Ig.mp hb1;refine⟨j,b,fun z=>?_,hj,by rw[Td,h1,hl]; rfl⟩;rw[z,hf]at hj
  cases hj
  simp at hb2
theorem Zwu {m st bd c:Nat} {af:List Nat} (hst:st < 2 ^ 2 ^ m) (hbd:bd < 2 ^ 2 ^ m) (ln:af.length=2 ^ m) {lf:Nat} (hl:lf=(2 ^ 2 ^ m - 1) - ((2 ^ 2 ^ m - 1) &&& c)):fenB af st bd c=true ↔ (c &&& st=0∧bd &&& lf=0∧ahN af lf &&& c=0):=by
 have lb:∀s,lf.testBit s=true ↔ (s < 2 ^ m∧c.testBit s=false):=fun s=>by
  rw[hl,GD,Nx,DN,decide_eq_true_iff,Uq]
 rw[Tc]
 constructor
 ·rintro⟨a1,a2,a3⟩
  refine⟨by rw[YcR]; exact and0.mpr a1,and0.mpr fun s hs=>?_,and0.mpr fun x hx=>?_⟩
  ·cases e:lf.testBit s with
   | false=>rfl
   | true=>have:=(lb s).mp e; rw[a3 s hs]at this; cases this.2
  ·cases e:c.testBit x with
   | false=>rfl
   | true=>
    unfold ahN at hx;obtain⟨s,_,hb⟩:=uc _ _ _ hx
    by_cases z:lf.testBit s=true
    ·rw[if_pos z]at hb
     have:=a2 s x ((lb s).mp z).2 hb;rw[e]at this
     cases this
    ·rw[if_neg z,Fl]at hb
     cases hb
 ·rintro⟨a1,a2,a3⟩
  rw[YcR]at a1;refine⟨and0.mp a1,fun s x hs hx=>?_,fun s hs=>?_⟩
  ·have hsl:=XD hx
   exact and0.mp a3 x (ud hsl ((lb s).mpr ⟨by omega,hs⟩) hx)
  ·cases e:c.testBit s with
   | true=>rfl
   | false=>
    have:=and0.mp a2 s hs;rw[(lb s).mpr ⟨Jo hbd hs,e⟩]at this
    cases this
noncomputable def ZuW:Sp:=fun vs H Q _=>∃(la:Aa) (m st bd c:Nat) (af:List Nat),vs=[.int (c:Int),.int (st:Int),.int (bd:Int),.ref la]∧GoodC m st bd af∧H la=some (.lst ((nums af).map V.int))∧Q (.bl (fenB af st bd c)) H
theorem Znf (T:Txt K mg t):FnS P w K mg base 2 "_law_fenced" ["_law_shut","_law_starts","_law_bads","_law_after"] (ZuW):=by
 refine⟨_,_,T.QR.ok ZgT (fun vs H Q E h=>?_) (fun _ _ _ _ H vs Q E hr h=>?_),T.Zhd,T.QR.kp,T.ZhA⟩
 ·obtain⟨la,m,st,bd,c,af,rfl,G,hla,q⟩:=h
  rfl
 refine xE6 h fun la m st bd c af h1_=>nE4 h1_ fun e0_ G hla q=>?_;clear h h1_;subst e0_;have XJ:=Zpb (P:=P) (w:=w) (base:=base) T;have hp:=Gh G.m6;have ln:=G.ln;have fl:=Zwu (c:=c) G.st G.bd G.ln rfl
 have no:(¬(c &&& st=0∧bd &&& ((2 ^ 2 ^ m - 1) - ((2 ^ 2 ^ m - 1) &&& c))=0∧ahN af ((2 ^ 2 ^ m - 1) - ((2 ^ 2 ^ m - 1) &&& c)) &&& c=0))→fenB af st bd c=false:=fun h=>by
  cases e:fenB af st bd c with
  | false=>rfl
  | true=>exact absurd (fl.mp e) h
 refine⟨_,(Aj (ss 4 ZgT.nd (Ak Cm (Ak Hz (Ak DW Ah (CV Fp rfl T.B.len Fo (Ac (pv 3) Ag))) Ah) (Gy Ih (pv 0))))
   (Al (Bb (Jw (Jf (Dl hr.units) (Ak Cm (pv 0) (pv 1)) Ah (Br _)) (Jw (Jf (Dl hr.units) (Ak Cm (pv 2) (pv 4)) Ah (Br _)) (Kq (Jf (Dl hr.units) (Ak Cm (Bc XJ hr (Ac (pv 3) (Ac (pv 4) Ag))) (pv 0)) Ah (Br _)))))))),?_⟩
 walk_at "rd0";rw[Eo,ln];walk_at ""
 rw[show(1:Int) * 2 ^ (((2 ^ m:Nat):Int)).toNat - 1=((2 ^ 2 ^ m - 1:Nat):Int) by
  have:1≤2 ^ 2 ^ m:=Yan
  rw[Ft,Int.one_mul,Int.natCast_sub this,Int.natCast_pow]; rfl,Hg]
 generalize hlf:(2 ^ 2 ^ m - 1) - ((2 ^ 2 ^ m - 1) &&& c)=lf at fl no;walk_at "";rw[Dw]
 by_cases h1:c &&& st=0
 rotate_left
 ·refine Bv (decide_eq_false (by omega)) ?_
  rw[no fun z=>h1 z.1]at q;exact q
 refine CN (decide_eq_true (by omega)) ?_;walk_at "";rw[Dw]
 by_cases h2:bd &&& lf=0
 rotate_left
 ·refine Bv (decide_eq_false (by omega)) ?_
  rw[no fun z=>h2 z.2.1]at q;exact q
 refine CN (decide_eq_true (by omega)) ?_;walk_at "";refine⟨la,af,lf,rfl,hla,by omega,?_⟩;walk_at "";rw[Dw]
 have e:decide (((ahN af lf &&& c:Nat):Int)=0)=fenB af st bd c:=by
  rw[GX,decide_eq_true_iff,fl];exact⟨fun z=>⟨h1,h2,by omega⟩,fun z=>by have:=z.2.2; omega⟩
 rw[e];exact q
noncomputable def Zz1:Sp:=fun vs H Q _=>∃(lf:Aa) (pf:List Aa) (F:List Bar) (m:Nat),vs=[.ref lf,.int ((2 ^ m:Nat):Int)]∧BL H lf pf F∧F.length≤5000∧F.Nodup∧(F.map ib).Pairwise ple∧(∀f∈F,f.1 < 2 ^ m)∧Q (.bl true) H
theorem Zn7 (T:Txt K mg t):FnS P w K mg base 2 "_law_are_bars" ["_law_bars","_law_size"] (Zz1):=by
 refine⟨_,_,T.QM.ok ZfH (fun vs H Q E h=>?_) (fun _ _ _ _ H vs Q E hr h=>?_),T.ZfM,T.QM.kp,T.ZfW⟩
 ·obtain⟨lf,pf,F,m,rfl,B,hz,nd,so,hlt,q⟩:=h
  rfl
 refine xE4 h fun lf pf F m h1_=>nE7 h1_ fun e0_ B hz nd so hlt q=>?_;clear h h1_;subst e0_;have XH:=Zpc (P:=P) (w:=w) (base:=base) T;have bf:=B.fl;have pl:=En B.pr
 refine⟨_,(Aj (BJ (DR (CK (CV Ji rfl T.B.isinstance Jj (Ac (pv 0) (Ac (Jd (v:=.ty "list") rfl T.B.list LC rfl) Ag))) (fun _=>rfl)))
   (Al (Bb Ej))
   BP)
   (Aj (Ea Dj rfl (Hy rfl T.B.range (Ac (CV Fp rfl T.B.len Fo (Ac (pv 0) Ag)) Ag)) (sg 2 ZfH.nd)
   (Aj (BJ (PW.pt (Gx (DR (CK (CV Ji rfl T.B.isinstance Jj (Ac (Bm Bu (pv 0) (pv 2) (fun _ _=>rfl)) (Ac (Jd (v:=.ty "tuple") rfl T.B.tuple ZW rfl) Ag))) (fun _=>rfl))) (Hx (BV (Gq hr.units) (CV Fp rfl T.B.len Fo (Ac (Bm Bu (pv 0) (pv 2) (fun _ _=>rfl)) Ag)) Ah (Br _)))))
   (Al (Bb Ej))
   BP)
   (Aj (BJ (PW.pt (Gx (DR (CK (Bc XH hr (Ac (Bm Bu (Bm Bu (pv 0) (pv 2) (fun _ _=>rfl)) Ah (fun _ _=>rfl)) Ag)) (fun _=>rfl))) (Hx (DR (CK (Bc XH hr (Ac (Bm Bu (Bm Bu (pv 0) (pv 2) (fun _ _=>rfl)) Ah (fun _ _=>rfl)) Ag)) (fun _=>rfl))))))
   (Al (Bb Ej))
   BP)
   (Aj (BJ (PW.pt (Gx (DR (Zpl U3 Kr Ah (Bm Bu (Bm Bu (pv 0) (pv 2) (fun _ _=>rfl)) Ah (fun _ _=>rfl)) (pv 1))) (Hx (BV (Gq hr.units) (Ak Cm (Bm Bu (Bm Bu (pv 0) (pv 2) (fun _ _=>rfl)) Ah (fun _ _=>rfl)) (Gy Ih (Bm Bu (Bm Bu (pv 0) (pv 2) (fun _ _=>rfl)) Ah (fun _ _=>rfl)))) Ah (Br _)))))
   (Al (Bb Ej))
   BP)
   (Al (BJ (PW.pt (RV (BV Lx (pv 2) Ah (Br _)) (RT (DR (BV (ZyL (Kh (Yai _ _) hr.units)) (Bm Bu (pv 0) (Ak Hz (pv 2) Ah) (fun _ _=>rfl)) (Bm Bu (pv 0) (pv 2) (fun _ _=>rfl)) (Br _))))))
   (Al (Bb Ej))
   BP))))))
   (Al (Bb Ej)))),?_⟩
 walk_at "rd0";refine Bv rfl ?_;walk_at "";rw[Az,pl];refine⟨_,rfl,by omega,by omega,?_⟩;rw[Ft];refine JF (n:=F.length) (fun i σ H'=>H'=H∧∃v2,σ=[some (.ref lf),some (.int ((2 ^ m:Nat):Int)),v2]) ⟨rfl,_,rfl⟩ ?_ ?_
 ·rintro i σ H' hi ⟨rfl,v2,rfl⟩
  have at_:∀j,j < F.length→∃p b,pf[j]?=some p∧F[j]?=some b∧Bl H' p b:=fun j hj=>by
   obtain⟨p,hp⟩ : ∃p,pf[j]?=some p:=⟨pf[j]'(by omega),CJ (by omega)⟩;obtain⟨b,hb,hB⟩:=Hf B.pr hp;exact⟨p,b,hp,hb,hB⟩
  have gr:∀{j:Nat} {p:Aa},pf[j]?=some p→(pf.map V.ref)[j]?=some (.ref p):=fun {j p} h=>by rw[CQ,h]; rfl
  obtain⟨p,f,hpi,hfi,hB⟩:=at_ i hi;have hBt:H' p=some (.tup [.int (f.1:Int),.int (f.2:Int)]):=hB;have hfm:=Df hfi;have gf:=B.gd f hfm;have hl:=hlt f hfm;walk_at "";refine Dk bf (gr hpi) ?_;walk_at "";refine Bv rfl ?_;walk_at "";refine Dk bf (gr hpi) ?_;walk_at "";refine Bv (by simp) ?_;walk_at "";refine Dk bf (gr hpi) ?_;walk_at "";refine CG hBt (v:=.int (f.1:Int)) rfl ?_;walk_at "";refine⟨_,rfl,?_⟩;walk_at "";refine Bv rfl ?_;walk_at "";refine Dk bf (gr hpi) ?_;walk_at "";refine CG hBt (v:=.int (f.2:Int)) rfl ?_;walk_at "";refine⟨_,rfl,?_⟩;walk_at "";refine Bv rfl ?_;walk_at "";refine Dk bf (gr hpi) ?_;walk_at "";refine CG hBt (v:=.int (f.1:Int)) rfl ?_;walk_at "";refine CN (decide_eq_true (by omega)) ?_;walk_at "";refine Bv (by rw[decide_eq_true (by omega)]; rfl) ?_;walk_at "";refine Dk bf (gr hpi) ?_;walk_at "";refine CG hBt (v:=.int (f.2:Int)) rfl ?_;walk_at "";refine Dk bf (gr hpi) ?_;walk_at "";refine CG hBt (v:=.int (f.1:Int)) rfl ?_;walk_at "";rw[Hg,gf.2,Gv];refine Bv rfl ?_;walk_at ""
  by_cases h0:i=0
  ·refine Bv (decide_eq_false (by omega)) ?_
   refine Bv rfl ?_;walk_at "";exact⟨rfl,_,rfl⟩
  ·obtain⟨p',f',hpi',hfi',hB'⟩:=at_ (i - 1) (by omega)
   refine CN (decide_eq_true (by omega)) ?_;walk_at "";rw[show((i:Int) - 1)=((i - 1:Nat):Int) by omega];refine Dk bf (gr hpi') ?_;walk_at "";refine Dk bf (gr hpi) ?_;walk_at ""
   have hlt:i - 1 < F.length:=by omega
   have e1:F[i - 1]'hlt=f':=(Cr.mp hfi').2;have e2:F[i]'hi=f:=(Cr.mp hfi).2
   have hne:f'≠f:=fun z=>by
    have:=(UL hlt nd).mp (hfi'.trans (by rw[z]; exact hfi.symm));omega
   have hple:ple (ib f') (ib f):=by
    have:=Yx.mp (Li.mp so) (i - 1) i hlt hi (by omega);rw[e1,e2]at this;exact this
   refine⟨p',p,[(f'.1:Int),(f'.2:Int)],[(f.1:Int),(f.2:Int)],rfl,rfl,SqT.of hB',SqT.of hB,?_⟩;rw[Zyy hple hne];refine⟨_,rfl,?_⟩;refine Bv rfl ?_;walk_at "";exact⟨rfl,_,rfl⟩
 ·rintro σ H' ⟨rfl,v2,rfl⟩
  walk_at "";exact q
end
section
variable {P:Ay} {w:Av} {K:Ao} {mg:Str→Option Ab} {base:Ar} {t:Ad}
noncomputable def ZuY:Sp:=fun vs H Q _=>∃(lf la:Aa) (pf:List Aa) (F bs:List Bar) (m st bd:Nat) (af:List Nat),vs=[.ref lf,.int (st:Int),.int (bd:Int),.ref la]∧BL H lf pf F∧GoodC m st bd af∧H la=some (.lst ((nums af).map V.int))∧F.length≤5000∧TgR m st bd af bs F∧∀H',Same H H'→Q (.bl true) H'
abbrev IvQ lf la li (st bd m:Nat) H1 (_:Nat) (σ:St) H':=Same H1 H'∧∃v6 v7 v8 v9 v10,σ=[some (.ref lf),some (.int (st:Int)),some (.int (bd:Int)),some (.ref la),some (.int ((2 ^ m:Nat):Int)),some (.ref li),v6,v7,v8,v9,v10]
abbrev IvR lf la li (st bd m i o:Nat) v8 H2 (_:Nat) (σ:St) H3:=Same H2 H3∧∃v9 v10,σ=[some (.ref lf),some (.int (st:Int)),some (.int (bd:Int)),some (.ref la),some (.int ((2 ^ m:Nat):Int)),some (.ref li),some (.int (i:Int)),some (.int (o:Int)),v8,v9,v10]
abbrev IvS lf la li (st bd m i:Nat) (F:List Bar) v9 v10 (H':Hp) (σ:St) H2:=H2=H'∧∃(o:Nat) (v8:Option V),(∀s,o.testBit s=true ↔ ∃j b,j≠i∧F[j]?=some b∧(Bh (2 ^ m) b).testBit s=true)∧o < 2 ^ 2 ^ m∧σ=[some (.ref lf),some (.int (st:Int)),some (.int (bd:Int)),some (.ref la),some (.int ((2 ^ m:Nat):Int)),some (.ref li),some (.int (i:Int)),some (.int (o:Int)),v8,v9,v10]
abbrev IvT lf la li (st bd m i:Nat) (F:List Bar) v9 v10 (H':Hp) (k:Nat) (σ:St) H2:=H2=H'∧∃(o:Nat) (v8:Option V),(∀s,o.testBit s=true ↔ ∃j b,j < k∧j≠i∧F[j]?=some b∧(Bh (2 ^ m) b).testBit s=true)∧o < 2 ^ 2 ^ m∧σ=[some (.ref lf),some (.int (st:Int)),some (.int (bd:Int)),some (.ref la),some (.int ((2 ^ m:Nat):Int)),some (.ref li),some (.int (i:Int)),some (.int (o:Int)),v8,v9,v10]
theorem Znh (T:Txt K mg t):FnS P w K mg base 3 "_law_tight" ["_law_bars","_law_starts","_law_bads","_law_after"] (ZuY):=by
 refine⟨_,_,T.QS.ok JQ (fun vs H Q E h=>?_) (fun _ _ _ _ H vs Q E hr h=>?_),T.ZiD,T.QS.kp,T.ZiN⟩
 ·obtain⟨lf,la,pf,F,bs,m,st,bd,af,rfl,B,G,hfl,hz,R,q⟩:=h
  rfl
 refine xE9 h fun lf la pf F bs m st bd af h1_=>nE7 h1_ fun e0_ B G hfl hz R q=>?_;clear h h1_;subst e0_;have XM:=Zng (P:=P) (w:=w) (base:=base) T;have XN:=Znf (P:=P) (w:=w) (base:=base) T;have hm:=G.m6;have hp:=Gh hm;have bf:=B.fl;have pl:=En B.pr
 refine⟨_,(Aj (ss 4 JQ.nd (CV Fp rfl T.B.len Fo (Ac (pv 3) Ag)))
   (Aj (Zsv 5 JQ.nd (sc:=Bf VB) (N:=["_law_bars","_law_starts","_law_bads","_law_after","_law_size","_law_insides","_law_k","_law_rest","_law_j","_law_lamp","_law_asks"]) (ns:=["_law_size"]) (ix:=[4]) rfl rfl (by decide +kernel) rfl (HB (pv 0)) (fun _ _ _ _=>R5) (fun _ _ _ _=>(Bc XM hr (Ac (pv 1) (Ac (Bm (R7 (K:=K) rfl) (pv 0) Ah (fun _ _=>rfl)) (Ac (Bm (R7 (K:=K) rfl) (pv 0) Ah (fun _ _=>rfl)) Ag))))))
   (Aj (Ea Dj rfl (Hy rfl T.B.range (Ac (CV Fp rfl T.B.len Fo (Ac (pv 0) Ag)) Ag)) (sg 6 JQ.nd)
   (Aj (ss 7 JQ.nd Ah)
   (Aj (Ea Dj rfl (Hy rfl T.B.range (Ac (CV Fp rfl T.B.len Fo (Ac (pv 0) Ag)) Ag)) (sg 8 JQ.nd)
   (Al (BJ (BV (Gq hr.units) (pv 8) (pv 6) (Br _))
   (Al (ss 7 JQ.nd (Ak Hb (pv 7) (Bm Bu (pv 5) (pv 8) (fun _ _=>rfl)))))
   BP)))
   (Aj (BJ (CK (Bc XN hr (Ac (pv 7) (Ac (pv 1) (Ac (pv 2) (Ac (pv 3) Ag))))) (fun _=>rfl))
   (Al (Bb Ej))
   BP)
   (Al (Ea Dj rfl (Hy rfl T.B.range (Ac Ah Ag)) (sg 9 JQ.nd)
   (Aj (ss 10 JQ.nd (Ak Cm (Bm Bu (Bm Bu (pv 0) (pv 6) (fun _ _=>rfl)) Ah (fun _ _=>rfl)) (Gy Ih (Ak DW Ah (pv 9)))))
   (Al (BJ (BV (Gq hr.units) (pv 10) (Bm Bu (Bm Bu (pv 0) (pv 6) (fun _ _=>rfl)) Ah (fun _ _=>rfl)) (Br _))
   (Al (BJ (CK (Bc XN hr (Ac (Ak Hb (pv 7) (Bc XM hr (Ac (pv 4) (Ac (pv 10) (Ac (Ak Cm (Bm Bu (Bm Bu (pv 0) (pv 6) (fun _ _=>rfl)) Ah (fun _ _=>rfl)) (pv 10)) Ag))))) (Ac (pv 1) (Ac (pv 2) (Ac (pv 3) Ag))))) (fun _=>rfl))
   (Al (Bb Ej))
   BP))
   BP)))))))))
   (Al (Bb Ej))))),?_⟩
 walk_at "rd0";rw[Eo,G.ln];walk_at "";refine .inl ⟨lf,_,rfl,SqL.of bf,?_⟩;refine Kz (fun j ys=>ys=(nums ((F.take j).map (Bh (2 ^ m)))).map V.int) (Vi (SqL.of bf)) (by rw[Az]; omega) rfl ?_ ?_
 ·intro j x ys acc H' hx s1 hacc ea hy _ R' kk
  refine xE1 (JW hx) fun p h1_=>nE2 h1_ fun e0_ hpj=>?_;clear h1_;subst e0_;obtain⟨b,hbj,hB⟩:=Hf B.pr hpj;simp only [subS,Cv,Fe];walk_at "";refine kk _ H' (Same.refl _) (fun z=>by cases z) fun z R2 k2=>?_;walk_at "";refine CG (s1 _ _ hB) (v:=.int (b.1:Int)) rfl ?_;walk_at "";refine CG (s1 _ _ hB) (v:=.int (b.2:Int)) rfl ?_;walk_at "";refine⟨2 ^ m,b,rfl,hp,B.gd b (Df hbj),fun H2 s2=>?_⟩;refine k2 _ H2 s2 ?_;rw[hy,Gr hbj,Dh,Cv,Fe,KQ]
 intro li ys H1 n1 s1 e1 hy;rw[Az,pl,Ib]at hy;subst hy;have bf1:=s1 _ _ bf;have A1:=s1 _ _ hfl;have lF:(F.map (Bh (2 ^ m))).length=F.length:=Az _;walk_at "";rw[Az,pl];refine⟨_,rfl,by omega,by omega,?_⟩;rw[Ft];refine JF (n:=F.length) (IvQ lf la li st bd m H1) ⟨Same.refl _,_,_,_,_,_,rfl⟩ ?_ ?_
 ·intro i σ H' hi h_;refine nE2 h_ fun sm h1_=>xE5 h1_ fun v6 v7 v8 v9 v10 e=>?_;clear h_ h1_;subst e
  refine xE1 (⟨pf[i]'(by omega),CJ (by omega)⟩:∃p,pf[i]?=some p) fun p hpi=>?_;refine xE1 (Hf B.pr hpi) fun f h1_=>nE2 h1_ fun hfi hB=>?_;have hfm:=Df hfi;have gf:=B.gd f hfm
  have gp:(pf.map V.ref)[i]?=some (.ref p):=by rw[CQ,hpi]; rfl
  have hB':H' p=some (.tup [.int (f.1:Int),.int (f.2:Int)]):=sm _ _ (s1 _ _ hB);have bf':=sm _ _ bf1;have e1':=sm _ _ e1;have A':=sm _ _ A1;walk_at "rs";refine Kv ?_;walk_at "rs";refine MK (IvS lf la li st bd m i F v9 v10 H') ?_ ?_
  rotate_left
  ·intro Kn hK
   walk_at "";rw[Az,pl];refine⟨_,rfl,by omega,by omega,?_⟩;rw[Ft];refine JF (n:=F.length) (IvT lf la li st bd m i F v9 v10 H') ⟨rfl,0,_,fun s=>⟨fun z=>(by rw[Fl]at z; cases z),fun⟨j,b,z,_⟩=>(by omega)⟩,Ef _,rfl⟩ ?_ ?_
   ·rintro k σ H2 hk ⟨rfl,o,v8,ho,hol,rfl⟩
    obtain⟨c,hck⟩ : ∃c,F[k]?=some c:=⟨F[k]'hk,CJ hk⟩;walk_at ""
    by_cases hki:k=i
    ·refine Bv (by rw[decide_eq_true (by omega)]; rfl) ?_
     walk_at "";refine⟨rfl,o,_,fun s=>(ho s).trans ⟨fun⟨j,b,h1,h2⟩=>⟨j,b,by omega,h2⟩,fun⟨j,b,h1,h2⟩=>⟨j,b,by have:=h2.1; omega,h2⟩⟩,hol,rfl⟩
    ·refine CN (by rw[decide_eq_false (by omega)]; rfl) ?_
     walk_at "";refine Dk e1' (Ez (by omega)) ?_
     have ec:(F.map (Bh (2 ^ m))).getD k 0=Bh (2 ^ m) c:=by rw[Cz,CQ,hck]; rfl
     walk_at "";rw[ec,GQ];refine⟨rfl,_,_,fun s=>?_,Nv hol (JD _ _),rfl⟩;rw[Fv,Jb,ho]
     constructor
     ·rintro(⟨j,b,h1,h2⟩ | h)
      ·exact⟨j,b,by omega,h2⟩
      ·exact⟨k,c,by omega,hki,hck,h⟩
     ·rintro⟨j,b,h1,h2,h3,h4⟩
      by_cases e:j=k
      ·subst e
       rw[hck]at h3
       cases h3
       exact .inr h4
      ·exact .inl ⟨j,b,by omega,h2,h3,h4⟩
   ·rintro σ H2 ⟨rfl,o,v8,ho,hol,rfl⟩
    exact hK _ _ ⟨rfl,o,_,fun s=>(ho s).trans ⟨fun⟨j,b,h1,h2⟩=>⟨j,b,h2⟩,fun⟨j,b,h2⟩=>⟨j,b,(Cr.mp h2.2.1).1,h2⟩⟩,hol,rfl⟩
  rintro σ H2 ⟨rfl,o,v8,ho,hol,rfl⟩;have eo:=ZuU R.nd hfi ho;walk_at "";refine⟨la,m,st,bd,o,af,rfl,G,A',?_⟩;rw[eo,R.br f hfm,←eo];walk_at "";refine Bv rfl ?_;walk_at "";refine⟨6,rfl,by omega,by omega,?_⟩;refine JF (n:=6) (IvR lf la li st bd m i o v8 H2) ⟨Same.refl _,_,_,rfl⟩ ?_ ?_
  ·intro k σ H3 hk h_;refine nE2 h_ fun s3 h1_=>xE2 h1_ fun v9 v10 e=>?_;clear h_ h1_;subst e
   have gw:(f.wo k).good:=MJ gf k;walk_at "";refine Dk (s3 _ _ bf') gp ?_;walk_at "";refine CG (s3 _ _ hB') (v:=.int (f.1:Int)) rfl ?_;walk_at "";rw[show(1:Int) * 2 ^ ((k:Int)).toNat=((2 ^ k:Nat):Int) from Eh k,Hg];refine Dk (s3 _ _ bf') gp ?_;walk_at "";refine CG (s3 _ _ hB') (v:=.int (f.1:Int)) rfl ?_;walk_at ""
   cases hbk:f.1.testBit k with
   | false=>
    have e0:f.1 - (f.1 &&& 2 ^ k)=f.1:=by
     apply DQ;intro x;rw[GD,Ng]
     by_cases z:k=x
     ·subst z; rw[hbk]; rfl
     ·rw[decide_eq_false z]; simp
    rw[e0];refine Bv (by rw[decide_eq_true rfl]; rfl) ?_;walk_at "";exact⟨s3,_,_,rfl⟩
   | true=>
    have w1:(f.wo k).1=f.1 - (f.1 &&& 2 ^ k):=rfl;have lt:=qe hbk;refine CN (by rw[decide_eq_false (by omega)]; rfl) ?_;walk_at "";refine Dk (s3 _ _ bf') gp ?_;walk_at "";refine CG (s3 _ _ hB') (v:=.int (f.2:Int)) rfl ?_;walk_at ""
    have w2:f.2 &&& (f.1 - (f.1 &&& 2 ^ k))=(f.wo k).2:=by
     have:=(S6 (Rg gf) k).2;rw[this,w1]
    rw[Dw,w2];refine⟨2 ^ m,f.wo k,rfl,hp,gw,fun H4 s4=>?_⟩;walk_at "";rw[GQ];refine⟨la,m,st,bd,_,af,rfl,G,s4 _ _ (s3 _ _ A'),?_⟩
    have eu:o ||| Bh (2 ^ m) (f.wo k)=Bx (2 ^ m) F ||| Bh (2 ^ m) (f.wo k):=by
     apply DQ;intro s;rw[Fv,Fv,GX,Jb,Jb]
     constructor
     ·rintro(h | h)
      ·obtain⟨j,b,_,hb,hs⟩:=(ho s).mp h
       exact .inl (ZoH (Df hb) hs)
      ·exact .inr h
     ·rintro(h | h)
      ·rw[MP,DN]at h
       obtain⟨b,hb,hl⟩:=Gn.mp h.2;obtain⟨j,hj⟩:=Ig.mp hb
       by_cases e:j=i
       ·subst e
        rw[hfi]at hj
        cases hj
        refine .inr ?_;rw[Td,h.1,Hw];exact Zna gf gw (S6 (Rg gf) k) hl
       ·exact .inl ((ho s).mpr ⟨j,b,e,hj,by rw[Td,h.1,hl]; rfl⟩)
      ·exact .inr h
    rw[eu,R.lp f hfm k hbk];walk_at "";refine Bv rfl ?_;walk_at "";exact⟨s3.trans s4,_,_,rfl⟩
  ·rintro σ H3 ⟨s3,v9,v10,rfl⟩
   walk_at "";exact⟨sm.trans s3,_,_,_,_,_,rfl⟩
 ·rintro σ H' ⟨sm,v6,v7,v8,v9,v10,rfl⟩
  walk_at "";exact q H' (s1.trans sm)
end
section
variable {P:Ay} {w:Av} {K:Ao} {mg:Str→Option Ab} {base:Ar} {t:Ad}
def Zzz (m st bd:Nat) (af:List Nat) (H':Hp) (r a:Aa):Prop:=
  (∃n ws,H' r=some (.tup [.str "ever",.ref a])∧H' a=some (.lst ((nums ws).map V.int))∧Way m st bd af (n+1) ws∧n≤100∧(∀j,j < n→layN af st j &&& bd=0)∧layN af st n &&& bd≠0)∨
   (∃ps bs F,H' r=some (.tup [.str "never",.ref a])∧H' a=some (.lst (ps.map V.ref))∧Bd (Bl H') ps F∧TgR m st bd af bs F∧F.length≤4900∧(∀f∈F,f.1 < 2 ^ m)∧∀n,layN af st n &&& bd=0)
noncomputable def Zxs:Sp:=fun vs H Q _=>∃(r a la:Aa) (m st bd:Nat) (af:List Nat),vs=[.ref r,.int (st:Int),.int (bd:Int),.ref la]∧GoodC m st bd af∧H la=some (.lst ((nums af).map V.int))∧Zzz m st bd af H r a∧∀H',Same H H'→Q (.bl true) H'
abbrev IvU r la (m st bd:Nat) af (H:Hp) mm (σ:St) H':=∃n:Nat,H=H'∧n≤pc (layN af st n) (2 ^ m)∧(∀j,j < n→layN af st j &&& bd=0)∧mm=2 ^ m - pc (layN af st n) (2 ^ m)∧σ=[some (.ref r),some (.int (st:Int)),some (.int (bd:Int)),some (.ref la),some (.int ((2 ^ m:Nat):Int)),some (.int (n:Int)),some (.int ((layN af st n:Nat):Int)),none,none]
theorem Zur (T:Txt K mg t):FnS P w K mg base 4 "_law_right" ["_law_found","_law_starts","_law_bads","_law_after"] (Zxs):=by
 refine⟨_,_,T.QT.ok JR (fun vs H Q E h=>?_) (fun _ _ _ _ H vs Q E hr h=>?_),T.ZiC,T.QT.kp,T.ZiM⟩
 ·obtain⟨r,a,la,m,st,bd,af,rfl,G,hla,R,q⟩:=h
  rfl
 refine xE7 h fun r a la m st bd af h1_=>nE5 h1_ fun e0_ G hla R q=>?_;clear h h1_;subst e0_;have XJ:=Zpb (P:=P) (w:=w) (base:=base) T;have ZpI:=ZyH (P:=P) (w:=w) (base:=base) T;have Zjd:=Zn7 (P:=P) (w:=w) (base:=base) T;have XM:=Zng (P:=P) (w:=w) (base:=base) T;have XN:=Znf (P:=P) (w:=w) (base:=base) T;have Zmy:=Znh (P:=P) (w:=w) (base:=base) T;have hp:=Gh G.m6;have ln2:=G.ln
 obtain⟨wv,hrt⟩ : ∃wv,H r=some (.tup [.str wv,.ref a]):=by
  rcases R with⟨_,_,e,_⟩ | ⟨_,_,_,e,_⟩
  ·exact⟨_,e⟩
  ·exact⟨_,e⟩
 refine⟨_,(Aj (ss 4 JR.nd (CV Fp rfl T.B.len Fo (Ac (pv 3) Ag)))
   (Aj (ss 5 JR.nd Ah)
   (Aj (ss 6 JR.nd (pv 1))
   (Aj (Lw Dj (PW.pt (RV (BV (Dl hr.units) (Ak Cm (pv 6) (pv 2)) Ah (Br _)) (RT (BV (Gq hr.units) (Ak Cm (Bc XJ hr (Ac (pv 3) (Ac (pv 6) Ag))) (Gy Ih (pv 6))) Ah (Br _)))))
   (Aj (ss 6 JR.nd (Ak Hb (pv 6) (Bc XJ hr (Ac (pv 3) (Ac (pv 6) Ag)))))
   (Al (ss 5 JR.nd (Ak Em (pv 5) Ah)))))
   (Aj (BJ (PW.pt (Gx (DR (CK (CV Ji rfl T.B.isinstance Jj (Ac (pv 0) (Ac (Jd (v:=.ty "tuple") rfl T.B.tuple ZW rfl) Ag))) (fun _=>rfl))) (Gx (BV (Gq hr.units) (CV Fp rfl T.B.len Fo (Ac (pv 0) Ag)) Ah (Br _)) (Hx (DR (CK (CV Ji rfl T.B.isinstance Jj (Ac (Bm Bu (pv 0) Ah (fun _ _=>rfl)) (Ac (Jd (v:=.ty "str") rfl T.B.str ZxV rfl) Ag))) (fun _=>rfl)))))))
   (Al (Bb Ej))
   BP)
   (Aj (BJ (BV (Gq hr.units) (Ak Cm (pv 6) (pv 2)) Ah (Br _))
   (Al (Bb (Jw (Jf (Dl hr.units) (Bm Bu (pv 0) Ah (fun _ _=>rfl)) Gd (Br _)) (Kq (Bc ZpI hr (Ac (Bm Bu (pv 0) Ah (fun _ _=>rfl)) (Ac (pv 1) (Ac (pv 2) (Ac (pv 3) (Ac (pv 5) Ag))))))))))
   BP)
   (Aj (BJ (PW.pt (Gx (BV (Gq hr.units) (Bm Bu (pv 0) Ah (fun _ _=>rfl)) Gd (Br _)) (Hx (DR (CK (Bc Zjd hr (Ac (Bm Bu (pv 0) Ah (fun _ _=>rfl)) (Ac (pv 4) Ag))) (fun _=>rfl))))))
   (Al (Bb Ej))
   BP)
   (Aj (ss 7 JR.nd Ah)
   (Aj (Ea Dj rfl (HB (Bm Bu (pv 0) Ah (fun _ _=>rfl))) (sg 8 JR.nd)
   (Al (ss 7 JR.nd (Ak Hb (pv 7) (Bc XM hr (Ac (pv 4) (Ac (Bm Bu (pv 8) Ah (fun _ _=>rfl)) (Ac (Bm Bu (pv 8) Ah (fun _ _=>rfl)) Ag))))))))
   (Al (Bb (Jw (Bc XN hr (Ac (pv 7) (Ac (pv 1) (Ac (pv 2) (Ac (pv 3) Ag))))) (Kq (Bc Zmy hr (Ac (Bm Bu (pv 0) Ah (fun _ _=>rfl)) (Ac (pv 1) (Ac (pv 2) (Ac (pv 3) Ag)))))))))))))))))),?_⟩
 walk_at "rs0";refine Kv ?_;walk_at "rs";rw[Eo,ln2];refine Kv ?_;walk_at "rs";refine Kv ?_;walk_at "rs";refine MK (fun σ H'=>∃n:Nat,H=H'∧n≤64∧(∀j,j < n→layN af st j &&& bd=0)∧(layN af st n &&& bd≠0∨Shy af st bd n)∧σ=[some (.ref r),some (.int (st:Int)),some (.int (bd:Int)),some (.ref la),some (.int ((2 ^ m:Nat):Int)),some (.int (n:Int)),some (.int ((layN af st n:Nat):Int)),none,none]) ?_ ?_
 rotate_left
 ·intro Kn hK
  walk_at "";refine⟨IvU r la m st bd af H,⟨_,0,rfl,Cy _,fun j hj=>absurd hj (IW _),rfl,rfl⟩,?_⟩;intro mm σ H4 h_;refine xE1 h_ fun n h1_=>nE5 h1_ fun e0_ hn hj e1_ e2_=>?_;clear h_ h1_;subst e0_;subst e1_;subst e2_;have pl:=Mz (layN af st n) (2 ^ m);walk_at "";rw[Dw]
  by_cases h1:layN af st n &&& bd=0
  rotate_left
  ·refine Bv (decide_eq_false (by omega)) ?_
   refine Bv rfl ?_;exact hK _ _ ⟨n,rfl,by omega,hj,.inl h1,rfl⟩
  ·refine CN (decide_eq_true (by omega)) ?_
   walk_at "";refine⟨la,af,layN af st n,rfl,hla,by omega,?_⟩;walk_at "";rw[Hg]
   by_cases h2:ahN af (layN af st n) - (ahN af (layN af st n) &&& layN af st n)=0
   ·refine Bv (by rw[h2]; rfl) ?_
    refine hK _ _ ⟨n,rfl,by omega,hj,.inr ⟨h1,fun s x hs hx=>?_⟩,rfl⟩;have ha:=ud (XD hx) hs hx
    have z:(ahN af (layN af st n) - (ahN af (layN af st n) &&& layN af st n)).testBit x=false:=by rw[h2]; exact Fl x
    rw[GD,ha,Hw]at z
    simpa using z
   ·have more:pc (layN af st n) (2 ^ m) < pc (layN af st (n+1)) (2 ^ m):=Zt9 G.af G.st fun z=>h2 (subz fun s hs=>by rw[←z,Fv,hs,Bool.or_true])
    have pl2:=Mz (layN af st (n+1)) (2 ^ m);refine CN (by rw[decide_eq_false (by omega)]; rfl) ⟨fun σ' H'=>∃mm',mm' < 2 ^ m - pc (layN af st n) (2 ^ m)∧IvU r la m st bd af H mm' σ' H',fun _ _ z=>z,?_⟩;walk_at "";refine⟨la,af,layN af st n,rfl,hla,by omega,?_⟩;walk_at "";rw[GQ,show((n:Int)+1)=((n+1:Nat):Int) by omega]
    exact⟨_,by omega,n+1,rfl,by omega,fun j hj'=>by
     by_cases e:j=n
     ·rw[e]; exact h1
     ·exact hj j (by omega),rfl,rfl⟩
 intro σ H4 h_;refine xE1 h_ fun n h1_=>nE5 h1_ fun e0_ hn hj hfl e1_=>?_;clear h_ h1_;subst e0_;subst e1_;walk_at "";refine Bv rfl ?_;walk_at "";refine Bv (by simp) ?_;walk_at "";refine CG hrt (v:=.str wv) rfl ?_;walk_at "";refine Bv rfl ?_;walk_at "";rw[Dw]
 rcases R with⟨n0,ws,e1,ea,W,hn0,nb,hbad⟩ | ⟨ps,bs,F,e1,ea,pr,TR,hz,hlt,nolay⟩
 ·have en:n=n0:=by
   rcases hfl with z | z
   ·rcases Nb n n0 with y | y | y
    ·exact absurd (nb n y) z
    ·exact y
    ·exact absurd (hj n0 y) hbad
   ·refine absurd (Dz.mpr fun s hs=>?_) hbad
    exact Dz.mp z.1 s (XF (fun s hs=>ZoY (Cy n) s hs) z.2 n0 s hs)
  subst en;refine CN (by rw[decide_eq_false (by omega)]; rfl) ?_;walk_at "";refine CG e1 (v:=.str "ever") rfl ?_;walk_at "";refine CN (decide_eq_true rfl) ?_;walk_at "";refine CG e1 (v:=.ref a) rfl ?_;walk_at "";exact⟨a,la,m,st,bd,n,af,ws,rfl,ea,⟨hla,G.ln,G.af⟩,W,by omega,q H (Same.refl _)⟩
 ·have B:BL H a ps F:=⟨ea,pr,fun f hf=>(TR.fr f hf).1⟩
  rw[nolay n];refine Bv rfl ?_;walk_at "";refine CG e1 (v:=.str "never") rfl ?_;walk_at "";refine Bv (by rw[decide_eq_true rfl]; rfl) ?_;walk_at "";refine CG e1 (v:=.ref a) rfl ?_;walk_at "";refine⟨a,ps,F,m,rfl,B,by omega,TR.nd,TR.so,hlt,?_⟩;walk_at "";refine Bv rfl ?_;walk_at "";refine CG e1 (v:=.ref a) rfl ?_;walk_at "";refine seqL (xs:=ps.map V.ref) (fun i σ H'=>Same H H'∧∃v8,σ=[some (.ref r),some (.int (st:Int)),some (.int (bd:Int)),some (.ref la),some (.int ((2 ^ m:Nat):Int)),some (.int (n:Int)),some (.int ((layN af st n:Nat):Int)),some (.int ((Bx (2 ^ m) (F.take i):Nat):Int)),v8]) ⟨Same.refl _,_,by rw[IV,Xx]; rfl⟩ (fun i σ H' _ hp=>SqL.of (hp.1 _ _ ea)) ?_ ?_
  ·rintro i x σ H' hx ⟨sm,v8,rfl⟩
   obtain⟨p,rfl,hx'⟩:=JW hx;obtain⟨b,hbi,hbp⟩:=Hf pr hx';have hbp':=sm _ _ hbp;walk_at "";refine CG hbp' (v:=.int (b.1:Int)) rfl ?_;walk_at "";refine CG hbp' (v:=.int (b.2:Int)) rfl ?_;walk_at "";refine⟨2 ^ m,b,rfl,hp,B.gd b (Df hbi),fun H2 s2=>?_⟩;walk_at "";refine⟨sm.trans s2,some (.ref p),?_⟩;rw[GQ,Gr hbi,qz]
  ·rintro σ H' ⟨sm,v8,rfl⟩
   rw[Az,En pr,Ib];walk_at "";refine⟨la,m,st,bd,_,af,rfl,G,sm _ _ hla,?_⟩;rw[TR.fe];walk_at "";refine CN rfl ?_;walk_at "";refine CG (sm _ _ e1) (v:=.ref a) rfl ?_;walk_at "";exact⟨a,la,ps,F,bs,m,st,bd,af,rfl,B.mono sm,G,sm _ _ hla,by omega,TR,fun H3 s3=>q H3 (sm.trans s3)⟩
end
structure PAB (X:Cx) (es:List Aw) (t:TA):Prop where h:PA X es t
structure PEB (X:Cx) (e:Aw) (t:TE):Prop where h:PE X e t
structure PSB (X:Cx) (st:Ba) (t:TS):Prop where h:PS X st t
structure PSsB (X:Cx) (st:List Ba) (t:TS):Prop where h:PSs X st t
section
variable {X:Cx}
theorem Zw7:PAB X [] tNil:=⟨Ag⟩
theorem Ep {es:List Aw} {t:TA} {i:Int} {j:Nat} {pos:Pos} (h:PAB X es t):PAB X (.Constant (.int i) j pos::es) (Jz (tC (.int i)) t):=⟨Ac Ah h.h⟩
theorem Zw8 {es:List Aw} {t:TA} {pos:Pos} (h:PAB X es t):PEB X (.List es pos) (tLst t):=⟨JB h.h⟩
theorem ZyT {a b:Aw} {ta tb:TE} {pos:Pos} {r:R2} (hr:IxR X r) (ha:PEB X a ta) (hb:PE X b tb) (hs:ZqM b):PEB X (.Subscript a b pos) (tOp r ta tb):=⟨Bm hr ha.h hb hs⟩
theorem ssB (i:Nat) {x:Str} {a b:Aw} {te:TE} {p pos pos':Pos} (hN:X.N.Nodup) (he:PEB X (.Subscript a b p) te) (hi:X.N[i]?=some x:=by rfl) (hx:Loc X.env.scope x:=by first | exact Tz rfl | exact Ru rfl) (hf:X.fn x=true∨X.env.scope.names.lookup x=some .local:=by first | exact .inl rfl | exact .inr rfl):PSB X (.Assign [.Name x pos'] (.Subscript a b p) pos) (tAsg te (G9 i)):=⟨ss i hN he.h hi hx rfl hf⟩
theorem Zsy {st:Ba} {rest:List Ba} {t u:TS} (h1:PS X st t) (h2:PSsB X rest u):PSs X (st::rest) (tSeq t u):=Aj h1 h2.h
theorem Zsz {st:Ba} {rest:List Ba} {t u:TS} (h1:PSB X st t) (h2:PSs X rest u):PSsB X (st::rest) (tSeq t u):=⟨Aj h1.h h2⟩
end
section
variable {P:Ay} {w:Av} {K:Ao} {mg:Str→Option Ab} {base:Ar} {t:Ad}
theorem ZvL {l b:Aa} {xs zs:List V} {H:Hp} {Q:VK} (h1:H l=some (.lst xs)) (h2:H b=some (.lst zs)) (z:xs.length+zs.length≤1000000) (k:∀(p:Aa) (H':Hp),Same H H'→H p=none→H' p=some (.lst (xs++zs))→Q (.ref p) H'):R1 (.ref l) (.ref b) H Q:=Zvj h1 h2 (Ii z) fun p hp=>k p _ (GC hp _) hp Cp
noncomputable def XQ:List Nat:=[3,2,4,3,4,1,5,3,4,2,3,4,5,3,6,4,2,4,3,5,4]
theorem Zuj:∀i,i < 21→1≤XQ.getD i 0∧XQ.getD i 0≤6:=by decide
theorem ok_law (T:Txt K mg t):FnOk P w K mg base CX0 20 t.f_law t.d_law ["_law_script"] (spLaw K):=by
 refine T.F_law.ok GF (fun vs H Q E h=>?_) (fun _ _ _ _ H vs Q E hr h=>?_)
 ·obtain⟨a,ns,rfl,_⟩:=h
  rfl
 refine xE2 h fun sc ns h1_=>nE5 h1_ fun e0_ hS h63 hO q=>?_;clear h h1_;subst e0_;have Ri:=Zlf (P:=P) (w:=w) (base:=base) T;have ZfI:=Zn8 (P:=P) (w:=w) (base:=base) T;have Zjc:=Zn6 (P:=P) (w:=w) (base:=base) T;have ue:=Zur (P:=P) (w:=w) (base:=base) T;have uf:=Zsc (P:=P) (w:=w) (base:=base) T;have ZqK:=Zup (P:=P) (w:=w) (base:=base) T;have D_ahead:=ZkN (P:=P) (w:=w) (base:=base) T
 refine⟨_,(Zsy (ss 1 GF.nd (Bc Ri hr (Ac (pv 0) (Ac Ah Ag))))
   (Zsz (ssB 2 GF.nd (ZyT Bu (Zw8 (Ep (Ep (Ep (Ep (Ep (Ep (Ep (Ep (Ep (Ep (Ep (Ep (Ep (Ep (Ep (Ep (Ep (Ep (Ep (Ep (Ep Zw7)))))))))))))))))))))) (Ak El (pv 1) Ah) (fun _ _=>rfl)))
   (Aj (ss 3 GF.nd (Ak DW Ah (pv 2)))
   (Aj (ss 4 GF.nd (Bc ZfI hr (Ac (Bc Ri hr (Ac (pv 0) (Ac Ah Ag))) (Ac (pv 3) Ag))))
   (Aj (ss 5 GF.nd (Bc ZfI hr (Ac (Ak Hz (Ak Em (Bc Ri hr (Ac (pv 0) (Ac Ah Ag))) (Ak Ve Ah (pv 3))) Ah) (Ac (pv 3) Ag))))
   (Aj (BJ (BV (Gq hr.units) (Ak El (Ak JN (pv 1) Ah) Ah) Ah (Br _))
   (Al (ss 5 GF.nd (Ak Cm (pv 5) (Gy Ih (pv 4)))))
   BP)
   (Aj (ss 6 GF.nd (Bc Zjc hr (Ac (pv 0) (Ac (pv 3) Ag))))
   (Aj (BJ (BV (Dl hr.units) (pv 2) Ah (Br _))
   (Al (ss 6 GF.nd (Ak Em (Ak Em (N5 (sc:=Bf Il) (N:=["_law_script","_law_first","_law_many","_law_size","_law_starts","_law_bads","_law_after","_law_handed","_law_chart","_law_second","_law_found","_law_s"]) (ns:=["_law_bads","_law_after"]) (ix:=[5,6]) rfl rfl (by decide +kernel) rfl (Hy rfl T.B.range (Ac Ah Ag)) (fun _ _ _ _=>R5) (fun _ _ _ _=>(Ak Cm (Bm (R7 (K:=K) rfl) (pv 2) (pv 0) (fun _ _=>rfl)) (pv 1)))) (Zuy Zy9 (pv 6) (Zsr Ah) (Zsr Ah))) (N5 (sc:=Bf Il) (N:=["_law_script","_law_first","_law_many","_law_size","_law_starts","_law_bads","_law_after","_law_handed","_law_chart","_law_second","_law_found","_law_s"]) (ns:=["_law_after"]) (ix:=[6]) rfl rfl (by decide +kernel) rfl (UW rfl T.B.range (Ac Ah (Ac Ah Ag))) (fun _ _ _ _=>R5) (fun _ _ _ _=>(Ak Cm (Bm (R7 (K:=K) rfl) (pv 1) (pv 0) (fun _ _=>rfl)) Ah))))))
   BP)
   (Aj (ss 7 GF.nd (Vb ZZ rfl T.B.list LC (Ac (pv 6) Ag)))
   (Aj (ss 8 GF.nd (ZS ZqK hr (Ac (pv 2) (Ac (pv 4) (Ac (pv 5) (Ac (pv 7) Ag))))))
   (Aj (Ek (R0 Ja vz YcS Zo8 (pv 7)))
   (Aj (ss 9 GF.nd (ZS ZqK hr (Ac (pv 2) (Ac (pv 5) (Ac (pv 4) (Ac (Vb ZZ rfl T.B.list LC (Ac (pv 6) Ag)) Ag))))))
   (Aj (ss 10 GF.nd (Bc uf hr (Ac (pv 8) Ag)))
   (Aj (BJ (DR (CK (Bc ue hr (Ac (pv 10) (Ac (pv 4) (Ac (pv 5) (Ac (pv 6) Ag))))) (fun _=>rfl)))
   (Al (Bb Ej))
   BP)
   (Aj (Ek (R0 Ja vz YcS Zo8 (Bm Bu (pv 10) Ah (fun _ _=>rfl))))
   (Aj (BJ (PW.pt (RV (BV Kr (pv 2) Ah (Br _)) (RT (DR (CK (Bc ue hr (Ac (Bc uf hr (Ac (pv 9) Ag)) (Ac (pv 5) (Ac (pv 4) (Ac (pv 6) Ag))))) (fun _=>rfl))))))
   (Al (Bb Ej))
   BP)
   (Aj (Ea Dj rfl (Hy rfl T.B.range (Ac (pv 3) Ag)) (sg 11 GF.nd)
   (Al (BJ (BV (Gq hr.units) (Fg D_ahead hr (pv 8) (Ac (Ak DW Ah (pv 11)) Ag)) (Bm Bu (pv 6) (pv 11) (fun _ _=>rfl)) (Br _))
   (Al (Bb Ej))
   BP)))
   (Al (Bb (Bc ue hr (Ac (Bc uf hr (Ac (pv 8) Ag)) (Ac (pv 4) (Ac (pv 5) (Ac (pv 6) Ag)))))))))))))))))))))))),?_⟩
 walk_at "rs0";refine Kv ?_;walk_at "rs";refine⟨sc,ns,0,rfl,hS,?_⟩;generalize cell ns 0 % 10 ^ 45=y0;walk_at "rs";refine Kv ?_;walk_at "rs";refine JG (by simp) fun ml H0 s0 n0 e0=>?_;walk_at "rs";obtain⟨i,hi,ei⟩ : ∃i:Nat,i < 21∧y0 % 21=(i:Int):=⟨(y0 % 21).toNat,by omega,by omega⟩;rw[ei];have e0:H0 ml=some (.lst ((nums XQ).map V.int)):=e0;refine Dk e0 (Ez (show i < 21 from hi)) ?_;obtain⟨hm1,hm6⟩:=Zuj i hi;generalize XQ.getD i 0=m at hm1 hm6 ⊢;have hp:=Gh hm6;have hp0:0 < 2 ^ m:=Ef m;have h2p:0 < 2 ^ 2 ^ m:=Ef _;walk_at "";rw[Eh];refine⟨sc,ns,1,rfl,s0.seq hS,?_⟩;walk_at "";refine⟨_,m,rfl,hm6,fun st hst=>?_⟩;walk_at "";refine⟨sc,ns,2,rfl,s0.seq hS,?_⟩;walk_at "";refine Vf (.inl ⟨by omega,by omega⟩) ?_;walk_at "";refine⟨_,m,rfl,hm6,fun b0 hb0=>?_⟩
 dsimp only [G9]
 refine MK (fun σ H'=>∃bd:Nat,H0=H'∧bd < 2 ^ 2 ^ m∧σ=[some (.ref sc),some (.int y0),some (.int (m:Int)),some (.int ((2 ^ m:Nat):Int)),some (.int (st:Int)),some (.int (bd:Int)),none,none,none,none,none,none]) ?_ ?_
 rotate_left
 ·intro Kn hK
  walk_at "";refine NT (fun h1=>?_) (fun h1=>?_)
  ·walk_at ""
   rw[Hg];exact hK _ _ ⟨_,rfl,by omega,rfl⟩
  ·walk_at ""
   exact hK _ _ ⟨_,rfl,hb0,rfl⟩
 clear hb0 b0;rintro σ H1 ⟨bd,rfl,hbd,rfl⟩;walk_at "";refine⟨sc,ns,m,rfl,s0.seq hS,by omega,hm6,fun l0 H1 af0 s1 n1 A1=>?_⟩
 dsimp only [G9]
 have A2:=A1;refine MK (fun σ H'=>∃l af,Same H0 H'∧AF l af m H'∧σ=[some (.ref sc),some (.int y0),some (.int (m:Int)),some (.int ((2 ^ m:Nat):Int)),some (.int (st:Int)),some (.int (bd:Int)),some (.ref l),none,none,none,none,none]) ?_ ?_
 rotate_left
 ·clear A1
  revert s1 A2
  generalize l0=l,af0=af,H1=H2;intro s2 A2 Kn hK;walk_at "";refine Eg (fun h1=>?_) (fun h1=>?_)
  rotate_left
  ·walk_at ""
   exact hK _ _ ⟨_,_,s2,A2,rfl⟩
  have hm:m=6:=by omega
  subst hm;walk_at "";refine⟨24,rfl,by omega,by omega,?_⟩;have lf:af.length=64:=A2.len;refine Kz (fun i ys=>ys=(nums ((Cd i).map fun s=>af.getD s 0 &&& bd)).map V.int) (Vh 0 24 H2) (by simp) rfl ?_ ?_
  ·intro i x ys acc H' hx s1 hacc ea hy _ R k
   obtain⟨hi,rfl⟩:=Xd hx;rw[Rv];simp only [subS,Cv,Fe];walk_at "";rw[Rv]at k;refine k _ H' (Same.refl _) (fun z=>by cases z) fun z R2 k2=>?_;walk_at "";refine Dk (s1 _ _ A2.fl) (Ez (by omega)) ?_;walk_at "";rw[Dw];refine k2 _ H' (Same.refl _) ?_;rw[hy,Yo,Dh,YcT,KQ]
  intro a1 ys H3 m1 t1 e3 hy;rw[Az,G5]at hy;subst hy;walk_at "";refine ZzS (SqL.of (t1 _ _ A2.fl)) ((Zws _ 24 48).trans (Zn1 _ 24 24)) fun a2 H4 t2 m2 e4=>?_;walk_at "";refine ZvL (t2 _ _ e3) e4 (by simp[nums,lf]) fun a3 H5 t3 m3 e5=>?_;walk_at "";refine⟨48,64,rfl,by omega,?_⟩;refine Kz (fun i ys=>ys=(nums ((Cd i).map fun s=>af.getD (48+s) 0 &&& 15)).map V.int) (Vh 48 16 H5) (by simp) rfl ?_ ?_
  ·intro i x ys acc H' hx s1 hacc ea hy _ R k
   obtain⟨hi,rfl⟩:=Xd hx;simp only [subS,Cv,Fe];walk_at "";refine k _ H' (Same.refl _) (fun z=>by cases z) fun z R2 k2=>?_;walk_at "";rw[show(48:Int)+(i:Int)=((48+i:Nat):Int) by omega];refine Dk (s1 _ _ (t3 _ _ (t2 _ _ (t1 _ _ A2.fl)))) (Ez (by omega)) ?_;walk_at "";rw[show(15:Int)=((15:Nat):Int) from rfl,Dw];refine k2 _ H' (Same.refl _) ?_;rw[hy,Yo,Dh,YcT,KQ]
  intro a4 ys H6 m4 t4 e6 hy;rw[Az,G5]at hy;subst hy;walk_at "";refine ZvL (t4 _ _ e5) e6 (by simp[nums,lf]) fun a5 H7 t5 m5 e7=>?_;walk_at "";refine hK _ _ ⟨a5,((Cd 24).map fun s=>af.getD s 0 &&& bd)++(af.drop 24).take 24++((Cd 16).map fun s=>af.getD (48+s) 0 &&& 15),s2.trans (t1.trans (t2.trans (t3.trans (t4.trans t5)))),⟨?_,by simp[lf],fun x hx=>?_⟩,rfl⟩
  ·rw[e7]
   simp only [nums,Dh,TV,TX]
  ·rw[Hj,Hj]at hx
   rcases hx with(hx | hx) | hx
   ·obtain⟨s,_,rfl⟩:=DY.mp hx
    exact Kh TY (Xo A2.bd h2p)
   ·exact A2.bd x (Ub (Rz hx))
   ·obtain⟨s,_,rfl⟩:=DY.mp hx
    exact Kh TY (Xo A2.bd h2p)
 clear n1 s1 A1 A2 af0 H1 l0;rintro σ H2 ⟨l,af,s2,A2,rfl⟩;have G:GoodC m st bd af:=⟨hm1,hm6,hst,hbd,A2.len,A2.bd⟩;have G':GoodC m bd st af:=⟨hm1,hm6,hbd,hst,A2.len,A2.bd⟩;have ln2:=A2.len;walk_at "";refine Z1 (.inl (SqL.of A2.fl)) fun hd H3 s3 n3 e3=>?_;walk_at "";refine Zrt e3 G fun c H4 s4 n4 hC=>?_;walk_at "";refine⟨tyL (s4 _ _ e3),?_⟩;walk_at "";refine ZrI (s4 _ _ e3) fun H5 b5 e5=>?_;have f5:=b5 _ _ (Cj A2.fl n3) (s4 _ _ (s3 _ _ A2.fl));have hC5:=hC.mono (b5.ext (s4 _ _ e3));clear hC;walk_at "";refine Z1 (.inl (SqL.of f5)) fun h6 H6 s6 n6 e6=>?_;walk_at "";refine Zrt e6 G' fun c2 H7 s7 n7 hD=>?_;have hC7:=hC5.mono (Ext.of (s6.trans s7));have f7:=(s6.trans s7) _ _ f5;clear hC5 f5 e5 b5 e6 n6 s6 s7 n7;walk_at "";refine⟨c,m,st,bd,af,rfl,hC7,G,hm6,fun r a H8 R=>?_⟩;obtain⟨s8,na,R⟩:=R;have f8:=s8 _ _ f7;walk_at "";refine⟨r,a,l,m,st,bd,af,rfl,G,f8,R,fun H9 s9=>?_⟩;walk_at "";refine Bv rfl ?_
 obtain⟨wv,xs,hrt,ha⟩ : ∃wv xs,H8 r=some (.tup [.str wv,.ref a])∧H8 a=some (.lst xs):=by
  rcases R with⟨_,_,e,e',_⟩ | ⟨_,_,_,e,e',_⟩
  ·exact⟨_,_,e,e'⟩
  ·exact⟨_,_,e,e'⟩
 walk_at "";refine CG (s9 _ _ hrt) (v:=.ref a) rfl ?_;walk_at "";refine⟨tyL (s9 _ _ ha),?_⟩;walk_at "";refine ZrI (s9 _ _ ha) fun H10 b10 e10=>?_;have x10:=b10.ext (s9 _ _ ha);have f10:=b10 _ _ (Cj f7 na) (s9 _ _ f8);have hC10:=hC7.mono ((Ext.of (s8.trans s9)).trans x10);have hD10:=hD.mono ((Ext.of (s8.trans s9)).trans x10)
 dsimp only
 refine MK (fun σ H'=>Same H10 H'∧σ=[some (.ref sc),some (.int y0),some (.int (m:Int)),some (.int ((2 ^ m:Nat):Int)),some (.int (st:Int)),some (.int (bd:Int)),some (.ref l),some (.ref hd),some (.ref c),some (.ref c2),some (.ref r),none]) ?_ ?_
 rotate_left
 ·intro Kn hK
  walk_at "";refine Eg (fun h1=>?_) (fun h1=>?_)
  ·walk_at ""
   refine⟨c2,m,bd,st,af,rfl,hD10,G',hm6,fun r2 a2 H11 R2=>?_⟩;obtain⟨s11,na2,R2⟩:=R2;walk_at "";refine⟨r2,a2,l,m,bd,st,af,rfl,G',s11 _ _ f10,R2,fun H12 s12=>?_⟩;walk_at "";refine Bv rfl ?_;exact hK _ _ ⟨s11.trans s12,rfl⟩
  ·refine Bv rfl ?_
   exact hK _ _ ⟨Same.refl _,rfl⟩
 rintro σ H11 ⟨s11,rfl⟩;have f11:=s11 _ _ f10;have hC11:=hC10.mono (Ext.of s11);obtain⟨C,dx,fs,ei,hi',lk⟩:=hC11.ins "ahead" (by decide) (by decide) (by decide) (by decide);walk_at "";refine⟨_,rfl,by omega,by omega,?_⟩;rw[Ft];refine JF (n:=2 ^ m) (fun i σ H'=>Same H11 H'∧∃v,σ=[some (.ref sc),some (.int y0),some (.int (m:Int)),some (.int ((2 ^ m:Nat):Int)),some (.int (st:Int)),some (.int (bd:Int)),some (.ref l),some (.ref hd),some (.ref c),some (.ref c2),some (.ref r),v]) ⟨Same.refl _,_,rfl⟩ ?_ ?_
 ·rintro i σ H12 hi ⟨s12,v,rfl⟩
  walk_at "";refine⟨c,C,dx,fs,rfl,s12 _ _ ei,hi',lk,?_⟩;walk_at "";rw[Eh];refine⟨s12 _ _ ei,c,_,_,_,af,_,rfl,hC11.mono (Ext.of s12),fun H13 s13=>?_⟩;rw[ZmG (by omega)];walk_at "";refine Dk (s13 _ _ (s12 _ _ f11)) (Ez (by omega)) ?_;walk_at "";refine Bv (by simp) ?_;exact⟨s12.trans s13,_,rfl⟩
 ·rintro σ H12 ⟨s12,v,rfl⟩
  walk_at "";refine⟨c,m,st,bd,af,rfl,hC11.mono (Ext.of s12),G,hm6,fun r3 a3 H13 R3=>?_⟩;obtain⟨s13,na3,R3⟩:=R3;walk_at "";exact⟨r3,a3,l,m,st,bd,af,rfl,G,s13 _ _ (s12 _ _ f11),R3,fun H14 s14=>q H14⟩
end
end LW
structure PySem.W.Fast : Prop where
 (tw10855821311449215607 tw5728743643889822796 tw18037533135283090936 tw13710849519445610972 tw5587077416915012929 tw11684991408041365805 tw5322758734441700400 tw13251514767585481955 tw17202249212742463628 tw8325407940498708016 tw2745140028979041216 tw517486879984607070 tw10085421671779075320 tw5582082324389910964 tw11912428297700470773 tw1754461161220372749 tw8477740231041221229 tw17815743442402482566 tw2405007103909293209 tw17335203631933728533 tw3123860788982667699 tw13752483711304113223 tw16286751783373191415 tw7087395175311562473 tw10575028585448173614 tw2908185377728098101 tw14198750786011744517 tw12873782769445841274 tw8081924570555091272 tw4480013424030522964 tw15253630633238199732 tw13437233907769849153 tw15651579024216889708 tw1995091031101153056 tw768887094528927842 tw10680500556626936537 tw1849111766398129998 tw3096992014513550778 tw726123779867426561 tw199612080616560701 tw1193776363298494661 tw9452898124757291657 tw969854286263553432 tw12646861166139969455 tw16641015924469970944 tw18080243458689587075 tw5005771873488324348 tw9667912817958038717 tw7302647180420855438 tw10668557081460808568 tw9388489500884208866 tw11131564057826062580 tw14207172708991324769 tw9008317645196431400 tw13712026797120848759 tw14634501883065518740 tw12203636888865844099 tw13814357639804826361 tw10841927429226924156 tw16017678990553819305 tw4024496146271903655 tw16706508213091601852 tw6506718473763439454 tw13526343163329461046 tw7155621303048061303 tw5931746629113258149 tw3472005521159469025 tw959345723652482568 tw14129832374558198698 tw1609056473895328954 tw13795449961374681808 tw17458878851967907729 tw8472239987826463091 tw8073512573136002494 tw10904504275338002457 tw1618050887720153847 tw2979843840648556685 tw6307037644410368898 tw11428979671421113724 tw785536809420351479 tw15109442001772989632 tw6166982465707869477 tw8448991512591393031 tw18066828566435137666 tw12162109402408965396 tw10069547621603918733 tw3675178047971143784 tw5070064426498620249 tw416672139682950865 tw5019140002546647863 tw6676585483349509760 tw17488239607221997504 tw11227688433962188594 tw7596917641242559624 tw1611977568568413545 tw2033042315452982455 tw1370158044586209813 tw7258747924984743545 tw16807284498730263944 tw12092465576401740588 tw4999488608561813917 tw13877632778314944618 tw7182165276021337888 tw3276870340709985807 tw9326679797896689262 tw5770001738273064503 tw8200633793192432076 tw16764871743655702128 tw17849360099872227761 tw1178839185142009187 tw15115259126675218320 tw10494963355157359858 tw18019102616355275135 tw3434853533758275752 tw12188433844831820952 tw5078054133983309676 tw7217374968108664771 tw16520996567224276106 tw16699940763350374548 tw16774053228946118025 tw15003548602126161344 tw1643242774475708209 tw15515676425749687961 tw7961683097311869511 tw7139218322807915065 tw10684974036340491204 tw7929954503243216375 tw7279441064896747561 tw6609559240454343774 tw17739199953207404946 tw9576835244235980017 tw5112283910914957299 tw10561307014561665356 tw3672686718234324010 tw13927658398177456489 tw10206012829402887660 tw7036950379611158897 tw7807798581625623314 tw366093272549192942 tw15166172446445699934 tw13751611625541505609 tw8989692610221148683 tw7356139894319842132 tw13578293926860772715 tw15073016326683722819 tw5153539171721002860 tw6647485878137607924 tw1869711307933709508 tw17446936896951091536 tw4897517586326718052 tw13772826250088530033 tw16738090864775247233 tw12204856791696859236 tw7642593273422796969 tw7928082005956394942 tw1698219695360309586 tw220036171873633753 tw4122355523118848149 tw12538024249005416610 tw7839634740206612121 tw10821987098501861236 tw5082442773501969088 tw3548157766707856647 tw16577964898366627298 tw9072352612712017237 tw5096499082504574486 tw15443881874695082561 tw10848863548621766399 tw11760943849672610021 tw13763188500795720419 tw2006190955565619566 tw8501400906241028583 tw14609173435921704490 tw6617708099051877391 tw16305904472067451851 tw14581012090990877207 tw7022563890506533325 tw12304544452983368044 tw1325639633895057199 tw14116012496494398429 tw3183003611235875118 tw9003033405204031338 tw16252466742442316814 tw10202522247276107309 tw11967305213965676733 tw10648000656693824496 tw2465748984373730534 tw2944089357861884029 tw8066960053346780832 tw16770962563865941127 tw11267781898633062843 tw14110197782562187282 tw16765077509600269202 tw3370883155489693183 tw13096159272784026268 tw11731992606401211691 tw4722453567552561159 tw17737036379909701924 tw4546893926228861967 tw7063164358891792180 tw16928818118673082269 tw16000086415868499769 tw13224328547505726621 tw205348190140172955 tw7566816906459487507 tw17485992162629458098 tw9278534004740690922 tw1050306329540355058 tw17409130087699004447 tw17547169019204028536 tw16271263114953614793 tw13959949744951229340 tw15968587960262716261 tw6285338032756911795 tw7056019490732051783 tw10424740893657846350 tw1770467049029839334 tw14899076996036791487 tw14727337443468458817 tw12120002831790418151 tw1523872971386141859 tw11187895944110247318 tw2041131183380385609 tw14008259164098030454 tw8435208352776904456 tw1224303502422040902 tw6889066423832511613 tw16079509556415569355 tw10452667682211982499 tw17864869829921605004 tw2456353869651526508 tw14569830879903293106 tw8641604595917505912 tw17130293024056425419 tw5538267772523576330 tw9593976075136018539 tw8277479775902687186 tw5021219344206764941 tw12387828719468115217 tw11514455595323502193 tw4078295893901898862 tw13900108076288852080 tw5448883643008008739 tw14410962053795779731 tw9175271868465116104 tw6916257673838183312 tw9828871907936101728 tw5218938305628311342 tw1045236064650018705 tw8237787469429720022 tw259324483943554586 tw18231313634874524784 tw13542539793543292538 tw4746899299867417490 tw2345191337911455988 tw1950874630549452593 tw9169996749168834839 tw1295162100615902685 tw15977305539359095953 tw12893603464152868574 tw216851532982713618 tw6639736854248211377 tw11778355792661519706 tw2812791984055263814 tw8083917209192120502 tw10805017627429921041 tw6567352804611987306 tw7131795973261862467 tw17133294169541603830 tw742940285690728464 tw10431852890100091336 tw16675204465293859356 tw11731924555797510758 tw4362394646495458400 tw7791850667126007075 tw2509400856598247456 tw3985038505176307187 tw3513938159807218737 tw16267961274057535131 tw9147565136854696855 tw2082679498252385152 tw4942821353931341004 tw9170580462432005885 tw17529312090037284791 tw651593822532374072 tw4847669357913854615 tw11564371491615458835 tw7242860193168372029 tw5193306338607801000 tw17038522298358448988 tw17839367079078715202 tw9988542691177384101 tw14892995779710763663 tw17138405414392615936 tw5319382337123035249 tw8696007564978374971 tw12585101425872386607 tw17788617476220171566 tw2132500080093138790 tw5727408590738836248 tw11537093531202362582 tw14762390990576656107 tw14833465483966667180 tw14441119656162782589 tw10920247254898282058 tw16753192399808694242 tw3521969171688647716 tw16945466017667147376 tw9346609863973607977 tw4188509868584914321 tw16725839666064339089 tw7526784259803285323 tw6475216040731792207 tw16115686095384797327 tw9132573399369585777 tw12958543478373925093 tw10963277929580095391 tw610627317339919548 tw3426913054853586802 tw11887315340137041648 tw723275781787048648 tw7311119951388209448 tw8709010777955227639 tw2722147383138731288 tw708289200475821367 tw18251642990919554523 tw5822180613922363096 tw1798186034395155054 tw2243005072223307737 tw16108166835527087610 tw12230721648069384332 tw9929999151837715581 tw12183174243393503763 tw6442582823848304648 tw5286765478688466386 tw10654554201586864765 tw9755217863487952243 tw14693717459092671621 tw14734031168616779068 tw7276420974044791676 tw2763384599830312673 tw17508135387806317808 tw8826811098899315139 tw12557776372746277730 tw2025680939892195767 tw2858815871729270016 tw7216416661626620216 tw4223457452831683325 tw15653113854225129891 tw9636604289876987832 tw12490195490055257208 tw6031359230569451127 tw18443670424009282122 tw10064174876998578219 tw16445990168151799315 tw14034285151139761897 tw711219673859550081 tw4060024837149378624 tw17441716765650656689 tw7216484859600289466 tw3147730005804361464 tw13529119423345436685 tw86297963664078159 tw16483946704222860808 tw16520630729273124788 tw5983613214872469466 tw17992610637750411111 tw14139811774210850209 tw1505214176153125170 tw3300770784681288857 tw15348876261459073327 tw3873711029653348528 tw10714211616160690032 tw15309953070232885961 tw5533972405373488424 tw9352129971832180086 tw4231199314004623837 tw14798986408805371331 tw14379720589555203478 tw3118652955470806992 tw5057393248070059781 tw2484725275360719611 tw9076235269998739791 tw9831840570996609300 tw12165391046462416260 tw17818265932685823105 tw7198514200605034477 tw9270278212480634117 tw14215604324955011175 tw14364475831668850002 tw6517008084922382455 tw9384726755673930692 tw14479411433750379189 tw16740682898215476182 tw2777024030852276488 tw9825778998036628221 tw6064547775383324383 tw6317591141549553079 tw2325541667365736085 tw14084944355068700760 tw4279436308028485692 tw8074090926304815502 tw423667900334195358 tw5422949868392250627 tw6113942274442794425 tw11060000486619943335 tw17756048455770031133 tw14701890270192066780 tw6772322592005004921 tw5911226250407139153 tw957578624929221878 tw3606876312449247314 tw16408753012379274155 tw13554796818280914270 tw1434125868134206009 tw7059348548131926511 tw10884638637490365265 tw12611525610988009657 tw13707902836306662620 tw9188420053624291872 tw9229941996566855188 tw266061096917243665 tw7077681588558227769 tw13891766904656048265 tw11262630684715981729 tw2722267284099957486 tw4797089782156472026 tw12427621657382404945 tw15359492491793288308 tw12072247992248518739 tw8480035723459742332 tw9260696083449214308 tw2327594448803492574 tw1116694487594682814 tw16781287668118423230 tw1933175837450717367 tw12944105235023870097 tw8894059530411676045 tw7733950452596845525 tw12916831911391846673 tw13280504730805428853 tw15449118098425643011 tw2486264581851391580 tw7594541218771104538 tw11308789913123304602 tw9273471930392059662 tw12620724071888285784 tw13251771981377144312 tw5726806516564461662 tw15751205858702695719 tw15121843168078914209 tw16436525291912167262 tw10726577483196605570 tw4337434263012936854 tw3177210681565186098 tw6165134907103490685 tw2749359578815145372 tw11325796664278859998 tw16019509836160369825 tw17939811492817394592 tw9596422350233217205 tw6707023339215948495 tw16672669073342256676 tw3418859058626538401 tw17388020280923881522 tw10266246784076015047 tw6523817213008584394 tw16778600898079062495 tw5703872236048347003 tw4832996632911719884 tw7853934779388190796 tw16746761489628743788 tw13201265711840268132 tw9340025964307970692 tw3925465613611244673 tw13548329450991531248 tw12043751442165981883 tw9529609434290863121 tw5003781568733404681 tw2069518869131067714 tw3819193181441065205 tw15209997032724754655 tw15449199857741559670 tw1770759030617059052 tw8047157393903254614 tw11706957813562891313 tw17898363252589890335 tw11294873174600278626 tw11922432772976043280 tw15201845435585336425 tw16661457658911537043 tw16105095778423197788 tw7616428820392133208 tw13398769196491941596 tw3953536662116262348 tw14778571126239691246 tw6115713514370836250 tw10939250802233352000 tw10011939334450235758 tw13213371124826349964 tw2823716743816730697 tw15106032551949399772 tw15051359270485564128 tw3922830988156316059 tw8244021342043070274 tw11520152506808612225 tw14651017398183768828 tw3955505796465644985 tw2573824514349987800 tw10378908250415431944 tw17422238279395919034 tw3168969510702579042 tw13981316780296260453 tw5376027715957970812 tw17076143957594453768 tw9975864864706103807 tw16013138332823866599 tw3411416489558002205 tw9820602155062976889 tw9285960541706596084 tw8228170489316319913 tw9801808792158757730 tw5050901712766094150 tw6909506634377716782 tw4482084208867814511 tw11015288198806218680 tw1316544717083231414 tw5889247476468587717 tw12903753101494012223 tw1387336399465711726 tw7307542348870096615 tw4756068854133619093 tw15968374882624310551 tw15378025123447987913 tw1980696016467301700 tw16147698055734037181 tw12821535808426874521 tw11688702731483529251 tw1258275722898174504 tw2446629347631297479 tw17062415271439603998 tw9814391988259434983 tw10343734001607156955 tw14040552867176204861 tw7707474444739267770 tw4308520740611074486 tw5180876781245236867 tw7177563103561969037 tw8537772627356653769 tw18317771573013311497 tw16106027814103717506 tw2136325526735366088 tw12018567135096658228 tw3165065639706702458 tw3384896622745109756 tw7199052000752986106 tw3891408558961513798 tw6275448531584261657 tw5136017591182441168 tw1300718114248886605 tw9089034941539352056 tw4283609063549059318 tw10458411985369309379 tw10714029518218776255 tw2140080619294958498 tw7348109630452258928 tw15294890248572686005 tw17105207148864822107 tw4094228858253072313 tw1006452442824281125 tw10221606906030661054 tw4323520253665711732 tw10553643168956059034 tw1175453284940746814 tw3031072242152871613 tw13998428913851423007 tw8824618724070160442 tw717720986237938171 tw5026436053172027052 tw17139497312515817795 tw17425384588107624743 tw7890272969030635818 tw17162014346477126446 tw4669501840798050118 tw1514247929616144884 tw2904090262636931125 tw14716276176118581363 tw6370864608579678177 tw14502327052647153251 tw8977059966672083074 tw17911213676600123764 tw10452447224735238684 tw2850518806823460584 tw15143813951215496758 tw5964735737358277502 tw575181452376321670 tw6264783191587639935 tw12914883066098181723 tw9708865489427997734 tw2227062616632335343 tw14497807162162907601 tw3404099823482026127 tw6683298397591903533 tw6410595966766328277 tw17939786524536274057 tw2750439617417113250 tw11262794071704338370 tw522649246033613861 tw13768054049401845525 tw4456973071435143571 tw6833111291196572075 tw14549913022378537366 tw6386984756057267816 tw569234835109037943 tw14530419218061388856 tw6102168741256322651 tw6134097904388963719 tw11096245283448950706 tw16910569550463703774 tw11085702325136919514 tw17569485242116765564 tw2927306318199614771 tw15953042823154246444 tw2847398317361467721 tw1733253358186923437 tw3069845599753859854 tw4904531246276221174 tw17406918959386278428 tw6346752379973614372 tw14449607325172231513 tw16286314566339700612 tw1881186684848666060 tw3327084127684573589 tw11199918903599507554 tw13996960200713349342 tw13033910440328061192 tw17991969967229200476 tw2397596224618885863 tw9567525671231114749 tw12805440920374141986 tw13801740845658521713 tw15209793027236627060 tw9148151157177528163 tw15295455409187151735 tw7867487375953355514 tw4256708872979368591 tw9461517533156185927 tw11091141004127124421 tw12150355947534580124 tw16786329175025132174 tw1633358227166482111 tw17735747913589404811 tw6273082503307077605 tw14242689442647451264 tw6033009612197210993 tw18265668168515634284 tw5273816901258951532 tw17203729739048952333 tw7047600252683804566 tw14786329016097525546 tw17241199438179837046 tw14535403820699735338 tw8142532410603273150 tw16978088882960940126 tw8827723706482243331 tw8922335935809878027 tw13423517287568652601 tw7690486216768586618 tw6062946587444444198 tw10759629000232549544 tw15069267317911016427 tw12736130554403916702 tw15296880612308802658 tw7673683046600776469 tw1817915661209870379 tw15055147713343527237 tw445210980530498512 tw15915170135425270797 tw3935866360470678093 tw2890613414283528261 tw11964664894640742823 tw8538662458432561922 tw9160414763240706942 tw12196389855658477725 tw14907663216689366743 tw4263896980658188076 tw16994886045550681893 tw17984640679454986913 tw1940068042858006348 tw11520176099400105679 tw16003930959035480260 tw14638900039025657361 tw376308211505887790 tw9341617643722620329 tw14943499535593332498 tw2248356691350099791 tw254422476558247013 tw14371488490182864154 tw11253521586373739365 tw7816038492200963605 tw7863131866636510460 tw8124094093015431553 tw7205248140862061260 tw8508328000275696518 tw4863447456299083936 tw7348554407954460970 tw12564481892871831210 tw2486878916592254176 tw14989013192548815229 tw11148321775751080253:True)
open PySem PySem.W PyProof.Rows
set_option maxRecDepth 100000 in
set_option maxHeartbeats 0 in
theorem PySem.Challenge.cw_evernever_k41_whole_answer_holds : PySem.Challenge.rw_evernever_k41_whole_answer.Holds := by
 w_on; o_law; k_head; (case hw=>w_witness2)
 k_fill
 refine L2.walk_ofK (l:=YdJ) (n:=63) (k:=20) (x:="_law_script") (CX:=L2.CX0) (sp:=LW.spLaw) rfl (by decide) rfl ⟨rfl,by decide,by decide⟩ (fun w h Y=>W.kIn_of Y) ?F ?S ?C
 case F=>
  intro w mg fa h KX G hmg
  have T:∃t,LW.Txt (L2.KOf KX) mg t:=by
   dsimp only [L2.KOf]
   refine' LW.txt_mk KX G ?_ ?_ ?_ ?_ ?_ ?_ ?_ ?_ ?_ ?_ ?_ ?_ ?_ ?_ ?_ ?_ ?_ ?_ ?_ ?_ ?_ ?_ ?_ ?_ ?_ ?_ ?_ ?_ ?_ ?_ ?_ ?_ ?_ ?_ ?_ ?_ ?_ ?_ ?_ ?_ ?_ ?_ ?_ ?_ ?_ ?_ ?_ ?_ ?_ ?nq ?_ ?_ ?_ ?_ ?nu ?_ ?_ ?_ ?_ ?_ ?_ ?_ ?_ ?_ ?_ ?_ ?_ ?_ ?_ ?_ ?_ ?_ ?_ (LW.dmk ?_ ?_ ?_) (LW.dmk ?_ ?_ ?_) (LW.dmk ?_ ?_ ?_) (LW.dmk ?_ ?_ ?_) (LW.dmk ?_ ?_ ?_) (LW.dmk ?_ ?_ ?_) (LW.dmk ?_ ?_ ?_) (LW.dmk ?_ ?_ ?_) (LW.dmk ?_ ?_ ?_) (LW.dmk ?_ ?_ ?_) (LW.dmk ?_ ?_ ?_) (LW.dmk ?_ ?_ ?_) (LW.dmk ?_ ?_ ?_) (LW.dmk ?_ ?_ ?_) (LW.dmk ?_ ?_ ?_) (LW.dmk ?_ ?_ ?_) (LW.dmk ?_ ?_ ?_) (LW.dmk ?_ ?_ ?_) (LW.dmk ?_ ?_ ?_) (LW.dmk ?_ ?_ ?_) (LW.dmk ?_ ?_ ?_) (LW.dmk ?_ ?_ ?_) (LW.dmk ?_ ?_ ?_) (LW.dmk ?_ ?_ ?_) (LW.dmk ?_ ?_ ?_) (LW.dmk ?_ ?_ ?_) (LW.dmk ?_ ?_ ?_) (LW.dmk ?_ ?_ ?_) (LW.dmk ?_ ?_ ?_) (LW.dmk ?_ ?_ ?_) (LW.dmk ?_ ?_ ?_) (LW.dmk ?_ ?_ ?_) (LW.dmk ?_ ?_ ?_) (LW.dmk ?_ ?_ ?_) (LW.dmk ?_ ?_ ?_) (LW.dmk ?_ ?_ ?_) (LW.dmk ?_ ?_ ?_) (LW.dmk ?_ ?_ ?_) (LW.dmk ?_ ?_ ?_) (LW.dmk ?_ ?_ ?_) ?_ ?_ ?_ (LW.dmk ?_ ?_ ?_) ?_ (LW.dmk ?_ ?_ ?_) ?_ (LW.dmk ?_ ?_ ?_) ?_ (LW.dmk ?_ ?_ ?_) ?_ (LW.dmk ?_ ?_ ?_) ?_ (LW.dmk ?_ ?_ ?_) ?_ (LW.dmk ?_ ?_ ?_) ?_ (LW.dmk ?_ ?_ ?_) ?_ (LW.dmk ?_ ?_ ?_) ?_ (LW.dmk ?_ ?_ ?_) ?_ (LW.dmk ?_ ?_ ?_) ?_ (LW.dmk ?_ ?_ ?_) ?_ (LW.dmk ?_ ?_ ?_) ?_ (LW.dmk ?_ ?_ ?_) ?_ ?_ ?_ ?_ ?_ ?_ ?_ ?_ ?_ ?_ ?_ ?_ ?_ ?_ ?_ ?_ ?_ ?_ ?_ ?_ ?_ ?_ ?_ ?_ ?_ ?_ ?_ ?_ ?_ ?_ ?_ ?_ ?_ ?_ ?_ ?_ ?_ ?_ ?_ ?_
   all_goals (try k_is)
   (case nq=>k_exc)
   (case nu=>k_exc)
  obtain⟨t,T⟩:=T;have e0:=hmg.symm.trans T.m_law
  cases e0
  exact⟨_,T.bl,fun base _ _=>LW.ok_law T⟩
 case S=>exact fun K H a ns hl hO hS=>⟨a,ns,rfl,hS,hl,hO,fun _=>rfl⟩
 case C=>exact fun _ _ _ _ z=>z
#print axioms PySem.Challenge.cw_evernever_k41_whole_answer_holds
