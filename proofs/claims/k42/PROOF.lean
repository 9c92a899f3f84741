import PyProof.Rows.All
import KE.KIsAll
import KE.KItem
import Wide.All
import Wide.FinOn
import KE.KRevIter
import KE.KDictList
import PySem.Challenge.RW_evernever_k42_desk_shows
set_option Elab.async false
set_option linter.all false
set_option maxRecDepth 100000
set_option maxHeartbeats 4000000
section
open Array renaming length_toList→Hg,toList_append→Oj,toList→VH,getElem?_toList→V5,getElem?_eq_some_iff→jg,toList_inj→ju,toList_push→jx,size→j7,mem_iff_getElem→Ycj
open Bool renaming false_ne_true→Dt,and_eq_true→Fi,or_false→T4,or_eq_true→Uh,eq_iff_iff→VL,or_true→Wl,false_eq_true→ig,false_and→Yao,or_eq_false_iff→Ybb,and_true→Yb3,and_false→Yb4,false_or→YcJ
open False renaming elim→GJ
open ForInStep renaming yield→Uc
open Int renaming toNat_natCast→JM,emod_nonneg→Uk,emod_lt_of_pos→Ul,natCast_nonneg→dg,zero_add→g8,fdiv_eq_ediv_of_nonneg→Ybq
open LawfulBEq renaming eq_of_beq→V3
open List renaming length_map→Ax,mem_cons→Bu,mem_singleton→Ck,map_append→Cp,length_cons→CT,mem_cons_of_mem→CW,length_append→CZ,mem_cons_self→Dg,mem_of_getElem?→Dm,map_cons→Dq,getElem?_eq_getElem→Dr,size_toArray→Du,getElem?_eq_some_iff→Ej,getElem?_map→El,mem_append→Er,append_nil→Es,nodup_cons→EY,not_mem_nil→Fl,take_length→Fw,mem_map→Fx,getD_eq_getElem?_getD→Gd,append_assoc→Gp,length_take→Gu,length_singleton→Gv,length_nil→Gw,map_nil→Gx,all_eq_true→GK,mem_append_right→Hu,range→Im,replicate→JL,length_drop→JN,length_range→JR,lookup→Ke,lookup_cons→Ko,length→K7,map_map→K9,getElem?_drop→Lb,mem_range→N8,length_eq_zero_iff→Ol,foldl_append→Om,any_cons→T5,length_dropLast→T9,find?_cons→Ua,take_of_length_le→Ub,take_zero→Ug,nodup_append→Uj,nodup_nil→Wm,dropLast_sublist→Wq,cons_ne_nil→Wr,getElem?_range→ik,getElem_mem→jf,drop_zero→jh,drop_eq_getElem_cons→ji,cons_append→jm,getElem?_eq_none→jo,mem_map_of_mem→jq,sum_cons→jz,getLast?_cons_of_ne_nil→j6,filterMap_cons→Yae,mem_append_left→Yag,getElem?_set_self→Yah,getElem?_set_ne→Yai,mem_filterMap→Yap,of_mem_zip→Yau,getElem?_append_right→Yav,getElem?_append_left→Yaw,length_replicate→Yax,forIn_cons→YaK,range'→YaZ,nil_append→Ya1,replicate_succ→Ya2,mem_replicate→Ya3,getElem_of_mem→Ybc,map_dropLast→Ybe,mem_filter→Ybk,getElem_inj→Ybl,getElem?_take_of_lt→Ybz,all_cons→YbG,eraseIdxIfInBounds_toArray→YbI,dropLast_concat→YbV,drop_eq_nil_of_le→YbX,mem_iff_getElem→Yca,drop_of_length_le→Ycf,getElem_toArray→Yci,range'_succ→Ycl,set_cons_succ→Ycm,set_cons_zero→Ycn,replicate_zero→Ycq,take_succ_cons→Ycr,take_add_one→Ycs,all_eq_false→Ycu,range_succ→Ycv,take_left→Ycy,flatMap_append→Ycz,mem_of_getLast?→YcB,drop_drop→YcD,count_eq_zero→YcH,getElem_take→YcI
open List.Pairwise renaming nil→Ydj
open List.cons renaming inj→Ya0
open Nat renaming le_refl→Bv,zero_le→De,le_of_ble_eq_true→Dv,ne_of_lt→DQ,le_trans→Ex,lt_of_lt_of_le→Ez,lt_of_le_of_lt→Hz,add_le_add_left→Io,eq_of_testBit_eq→Km,lt_irrefl→N7,ne_of_gt→Od,lt_succ_self→Oe,le_succ_of_le→Ud,le_of_lt→VD,le_succ→VR,testBit_and→V9,two_pow_pos→Wg,not_lt_zero→Wh,mul_le_mul_left→Wo,lt_succ_of_lt→gq,pow_le_pow_right→gr,testBit_or→gw,min_eq_left→ie,succ_ne_self→je,or_lt_two_pow→jt,not_lt→j5,succ_le_succ→YaD,testBit_lt_two_pow→YaG,div_add_mod→YaH,min_le_left→YaO,sub_self→Ya5,mul_succ→Yba,mul_le_mul_right→Ybd,le_of_eq→Ybt,min_le_right→YbA,pow_succ→YbO,testBit_xor→YbP,mod_two_eq_zero_or_one→YbQ,min_eq_right→YbW,and_le_left→YbZ,reduceAdd→Yco,reduceSub→Ycp,and_one_is_mod→Yct,testBit_two_pow→YcF,add_mul→YcN
open Ne renaming symm→Gs
open Option renaming map_eq_some_iff→Kl,map_some→Wa,getD_none→YbE
open Option.some renaming inj→Dl
open Or renaming inr→V8,inl→gk
open Prod renaming fst→Ge,snd→HD
open PyProof.Rows renaming AllBare→JH,callWith_type1→VJ,IntsAre→V6,slot_tuple_getitem→fj,Subscript_→YaB,eqGives_str→YaY,subscriptTail_builtinR→YbC,formatField_str→Yb0,slice_to_neg→Ycw,slice_ns_cases'→YcM,callWith_builtin1→Ydd,bitAnd_nn→Ydq,bitAnd_not→Ydr
open PySem renaming Addr→Ab,Value→Ae,Shared→Ak,Heap→Aq,Stmt→Ar,Expr→Aw,wpAny→Bb,FuncData→Bc,mainGlobals→Bf,World→Bg,Program→Bp,Paired→Bs,wpAny_bind→BP,sizeLine→BW,starEach→BX,Around→Cu,wpAny_pure→DK,wpAny_mono→Fv,Scope→Gn,Keyword→Hy,wpAny_field→Jl,wpAny_passesOwn→JK,call_meets→JP,IsPart→Kh,JoinOk→Kp,wpAny_newObj_type→K8,Model→Oa,wpAny_execs_nil→Oc,typeIs_str→Oh,wpAny_execs_cons→TV,BindsTo→TX,wpAny_Call_Name_kw→TY,NameKind→T3,wpAny_Name→VF,wpAny_truthy_bool→VG,sizeLine_eq→VM,mem_of_lookup→V0,wpAny_setField→Wb,wpAny_holding→cz,codeAny_mono→du,wpAny_Call_method_late→gh,Params→gj,PyData→ir,wpAny_loadPart'→iy,IsEnum→iz,Within→Yac,wpAny_loadName_local→Yaj,wpAny_assign_Name→Yal,wpAny_Assign_Name→Yam,PassesOwn→Yan,wpAny_callSpecial?_slot→Yaz,wpAny_call_entry→YaA,seqIndex_of→YaC,wpAny_pyIter_tuple→YaI,wpAny_pyIter_enum→YaS,ExceptHandler→YaU,wpAny_toks_of→YaV,wpAny_storeName_local→Ybm,wpAny_Return_some→Ybo,codeAny_forLoop_any→Ybp,slot_list_getitem→YbD,tupleKind_room_in1→YbJ,wpAny_pyNext_ascii_item→YbR,wpAny_pyNext_ascii_end→YbS,wpAny_pyIter_list→YbT,wpAny_pyIter_ascii→YbU,wpAny_comprehension_free→YbY,wpAny_pyIter_zip→Ycb
open PySem.Around renaming under→Yas
open PySem.Builtin renaming bitAnd→Jh,bitNot→Ji,bitOr→dh,bitXor→Ybr
open PySem.Builtin.Range renaming rangeSize→YcO
open PySem.Builtin.Slice renaming slicePlaces→fc,sliceAdjust→Yay,sliceApplied→YbB,slicePartIndex→Yde,sliceFields→Ydf
open PySem.Builtin.SmallTypes renaming nextOf→jc
open PySem.Builtin.Str renaming occurrences→Hv,partsBetween→Wf,glued→Wn,tooLong→j0,strSub→Ya8,spaceWords→Ycg,strKind→Ych,subAt→YcC,strSliceIndices→Yds
open PySem.Builtin.Tuple renaming tupleExact→fu,tupleItemsOf→Ydg
open PySem.Calls renaming spliced_cons→Og,callWith_builtin→T6,evalArgs_plain→T7,spliced_nil→dq,Constant_str→Yak,Name_function_global→Ybn
open PySem.Challenge renaming pw_evernever_k42_desk_shows→Ydp,rw_evernever_k42_desk_shows→Ydt
open PySem.Code renaming isFrame→Yat,frames→Ybw
open PySem.EntryCells renaming newEntry→Ycc
open PySem.EqMixed renaming eq_bool_str→YcU,eq_int_str→YcW,eq_str_bool→YcY,eq_str_int→YcZ,ne_bool_str→Yc5,ne_int_str→Yc7,ne_str_bool→Yc9,ne_str_int→Yda
open PySem.EqNone renaming eq_none_none→YcP,eq_none_bool→YcQ,eq_none_int→YcR,eq_none_str→YcS,eq_bool_none→YcT,eq_int_none→YcV,eq_str_none→YcX,ne_none_none→Yc0,ne_none_bool→Yc1,ne_none_int→Yc2,ne_none_str→Yc3,ne_bool_none→Yc4,ne_int_none→Yc6,ne_str_none→Yc8
open PySem.F renaming plainAttrs_list→Ds,slot_list_append→Eg,type_list_append→Em,plainAttrs_str→HB,slot_str_join→Ld,type_str_join→Le,slot_list_pop→T8,slot_str_split→We,slot_tuple_iterator_next→jd,entry_str_split→jj,slot_tuple_index→jk,type_list_pop→jy,slot_dict_get→YaE,args_str_split_2→YaW,slot_list_index→YaX,type_tuple_index→Ya6,entry_list_pop→YbH,entry_dict_get→YbK,args_dict_get_3→YbL,entry_tuple_iterator_next→Yb5,args_tuple_iterator_next_1→Yb6,slot_str_replace→Ycd,type_str_replace→Yce,slot_list_count→YcA,type_list_index→YcG,slot_str_find→YcK,type_str_find→YcL
open PySem.Heap renaming lt_size→CQ,get?_push_of_some→Ek,get?_push_size→FZ,SameBut→Ob,get?_update_other→Oi,size_push→VN,get?_update_self→gf,get?_none_of_le→Yaf,get?_some_iff→Yb9
open PySem.Heap.DictOf renaming new→Ydi
open PySem.Heap.IsSliceOf renaming new→Ydh
open PySem.Heap.SameBut renaming update→Yb7
open PySem.MeetsSeq renaming EqGives→Yck
open PySem.NameKind renaming free→JQ,cell→YaL
open PySem.Obj renaming mapFields→Kq,mapSeq→V4,data_mapFields→Wc,isFreed_of_fields→YaR,cls_mapFields→Yb8
open PySem.Paired renaming length→Yab
open PySem.PassesOwn renaming never→Cz
open PySem.PyData renaming depthAll→Ue,canLayAll0→iu,eqvAll→YaP
open PySem.SeqAt renaming eqvAll_eq→YaQ,EqAt→YbF,pairEq→Yb1,eqAt_readsAll→Yb2
open PySem.SeqAt.EqAt renaming int_str→Ybh,str_int→Ybi
open PySem.SeqAt.RcNeAt renaming lists→Ydk,lists_lengths→Ydl,tuples→Ydm
open PySem.SeqAt.ReadsAll renaming length→iw
open PySem.Str renaming empty→BK,length→Cq,ofString→Gb
open PySem.StrLaws renaming glued_eq_join→Ui,joinTotal→j4,sliceText→Ya4,At→Ya7,join_length_le→Ya9,sliceText_to→Ycx,strSub_toList→YcE
open PySem.Txt renaming join→Fj,replace→GQ,mul→Hm,words→Ip,slice→Jm,split→La,slice_le→YaM,find→YaN
open PySem.Unicode renaming isSpace→jw
open PySem.Value renaming ref→Do,none→Gm,str→Ht,type→Jg,bool→N6,int→VB,float→Yaa,isInt→Ybf,isStrOf→Ybg,bytes→Ybj
open PySem.W renaming Frag→Ao,nsIn→Bh,findIn→Bk,mg_of→Bx,isFn→Cy,keepIn→Fz,mg_none_of→FJ,plainGet→Hh,hasDictIn→Hl,plainOver→Hw,makesIn→Hx,kia_one→Jk,emptyDict→Kd,kitOne→Kf,fnOf→Kg,instObj→K6,mroIn→VP,codeIn→V2,OpenLaw→V7,lookIn→dm,callWith_K→dw,methodObj→Yad,plainGet_of→Yaq,takerIn→Yar,WalkO→YaF,methodCall_KW→YaJ,excIn→YaT,handedIn→Ybs,kitx_list→Ybu,kitx_dict→Ybv,callWith_K0→Ybx,cellsFrom_some→Yby
open PySem.W.Looks renaming here→Ydb
open PySem.W.WData renaming int→YbM
open PySem.W.WShape renaming has→YbN
open PySem.Within renaming cons→Ydc
open Std.Legacy.Range renaming forIn_eq_forIn_range'→Ydn,size→Ydo
open Sum renaming inr→BZ,inl→N5
open True renaming intro→Jj
namespace L2
open PySem PySem.Spec PyProof.Rows
noncomputable abbrev Key:=Sum Int Str
noncomputable def Oo:Key→Ae→Bool
 | .inl k,v=>Ybf k v
 | .inr x,v=>Ybg x v
noncomputable def keyH (w:Bg):Key→Int
 | .inl k=>hashInt k
 | .inr x=>hashStr w x
theorem JS:∀{k:Key} {v:Ae},Oo k v=true→(∃i t,k=N5 i∧v=VB i t)∨(∃x t,k=BZ x∧v=Ht x t)
 | .inl i,v,h=>by
  obtain⟨t,e⟩:=Ae.isInt_shape (k:=i) (v:=v) h;exact .inl ⟨i,t,rfl,e⟩
 | .inr x,v,h=>by
  obtain⟨t,e⟩:=Ae.isStrOf_shape (x:=x) (v:=v) h;exact .inr ⟨x,t,rfl,e⟩
theorem ZAo (i:Int) (t:Tok):Oo (.inl i) (.int i t)=true:=by simp[Oo,Ybf]
theorem ZAp (x:Str) (t:Tok):Oo (.inr x) (.str x t)=true:=by simp[Oo,Ybg]
theorem ZH8 (a b:Int):decide ((N5 a:Key)=N5 b)=(a == b):=by
 by_cases e:a=b
 ·subst e; simp
 ·have h : ¬(N5 a:Key)=N5 b:=fun q=>e (N5.inj q)
  rw[decide_eq_false h];exact(beq_eq_false_iff_ne.mpr e).symm
theorem ZIb (a b:Str):decide ((BZ a:Key)=BZ b)=decide (a=b):=by
 by_cases e:a=b
 ·subst e; simp
 ·have h : ¬(BZ a:Key)=BZ b:=fun q=>e (BZ.inj q)
  rw[decide_eq_false h,decide_eq_false e]
theorem ZH9 (a:Int) (b:Str):decide ((N5 a:Key)=BZ b)=false:=decide_eq_false (fun q=>nomatch q)
theorem ZIa (a:Str) (b:Int):decide ((BZ a:Key)=N5 b)=false:=decide_eq_false (fun q=>nomatch q)
noncomputable def Gq (prog:Bp) (w:Bg):PySem.KeyKind prog w Key where
 is:=Oo
 hash:=keyH w
 inj:=fun v a b ha hb=>by
  rcases JS ha with⟨i,t,rfl,rfl⟩ | ⟨x,t,rfl,rfl⟩
  ·rcases JS hb with⟨j,u,rfl,e⟩ | ⟨y,u,rfl,e⟩
   ·injection e with e1 _; rw[e1]
   ·exact nomatch e
  ·rcases JS hb with⟨j,u,rfl,e⟩ | ⟨y,u,rfl,e⟩
   ·exact nomatch e
   ·injection e with e1 _; rw[e1]
 byValue:=fun k v h=>by
  rcases JS h with⟨i,t,rfl,rfl⟩ | ⟨x,t,rfl,rfl⟩ <;> rfl
 pyHash:=fun hv h=>by
  rcases JS hv with⟨i,t,rfl,rfl⟩ | ⟨x,t,rfl,rfl⟩
  ·exact wpAny_pyHash_int h
  ·exact wpAny_pyHash_str h
 eqBool:=fun hu hv h=>by
  rcases JS hu with⟨i,t,rfl,rfl⟩ | ⟨x,t,rfl,rfl⟩
  ·rcases JS hv with⟨j,u,rfl,rfl⟩ | ⟨y,u,rfl,rfl⟩
   ·rw[ZH8]at h; exact wpAny_eqBool_int h
   ·rw[ZH9]at h; exact Ybh i t y u _ _ _ _ h
  ·rcases JS hv with⟨j,u,rfl,rfl⟩ | ⟨y,u,rfl,rfl⟩
   ·rw[ZIa]at h; exact Ybi x t j u _ _ _ _ h
   ·rw[ZIb]at h; exact wpAny_eqBool_str h
 «strs»:=fun k x t v h=>by
  rcases JS h with⟨i,u,rfl,e⟩ | ⟨y,u,rfl,e⟩
  ·exact nomatch e
  ·injection e with e1 _
   subst e1
   cases v <;> rfl
theorem Zwl (prog:Bp) (w:Bg) (i:Int) (t:Tok):(Gq prog w).is (.inl i) (.int i t)=true:=ZAo i t
theorem Zwm (prog:Bp) (w:Bg) (x:Str) (t:Tok):(Gq prog w).is (.inr x) (.str x t)=true:=ZAp x t
end L2
namespace L2
open PySem PySem.Spec PyProof.Rows
inductive V where
 | non | bl (b:Bool) | int (i:Int) | str (x:Str) | byt (b:Array UInt8) | flt (b:UInt64) | ref (a:Ab) | ty (n:String)
 deriving DecidableEq
noncomputable def RelV:V→Ae→Prop
 | .non,u=>u=Gm
 | .bl b,u=>u=N6 b
 | .int i,u=>∃t,u=VB i t
 | .str x,u=>∃t,u=Ht x t
 | .byt b,u=>∃t,u=Ybj b t
 | .flt b,u=>∃t,u=Yaa b t
 | .ref a,u=>u=Do a
 | .ty n,u=>u=Jg n
noncomputable abbrev Vals:List V→List Ae→Prop:=Bs RelV
theorem Vals.length {xs:List V} {us:List Ae} (r:Vals xs us):xs.length=us.length:=Yab r
theorem Vals.get:∀{xs:List V} {us:List Ae} {i:Nat} {x:V},Vals xs us→xs[i]?=some x→∃u,us[i]?=some u∧RelV x u
 | _,_,_,_,.nil,e=>by simp at e
 | _,_,0,_,.cons r _,e=>by simp at e; subst e; exact⟨_,rfl,r⟩
 | _,_,i+1,x,.cons _ t,e=>by
  obtain⟨u,h1,h2⟩:=Vals.get (i:=i) (x:=x) t (by simpa using e);exact⟨u,by simpa using h1,h2⟩
theorem Vals.set {x:V} {u:Ae} (r:RelV x u):∀{xs:List V} {us:List Ae} (i:Nat),Vals xs us→Vals (xs.set i x) (us.set i u)
 | _,_,_,.nil=>.nil
 | _,_,0,.cons _ t=>.cons r t
 | _,_,i+1,.cons q t=>.cons q (Vals.set r i t)
theorem Vals.append:∀{xs ys:List V} {us ws:List Ae},Vals xs us→Vals ys ws→Vals (xs++ys) (us++ws)
 | _,_,_,_,.nil,s=>s
 | _,_,_,_,.cons r t,s=>.cons r (Vals.append t s)
theorem Vals.take:∀{xs:List V} {us:List Ae} (n:Nat),Vals xs us→Vals (xs.take n) (us.take n)
 | _,_,0,_=>.nil
 | _,_,_+1,.nil=>.nil
 | _,_,n+1,.cons r t=>.cons r (Vals.take n t)
theorem Vals.drop:∀{xs:List V} {us:List Ae} (n:Nat),Vals xs us→Vals (xs.drop n) (us.drop n)
 | _,_,0,r=>r
 | _,_,_+1,.nil=>.nil
 | _,_,n+1,.cons _ t=>Vals.drop n t
noncomputable def RelO:Option V→Option Ae→Prop
 | some v,some u=>RelV v u
 | none,none=>True
 | _,_=>False
noncomputable def KV {κ:Type}:List (κ×V)→List (κ×Ae)→Prop:=Bs fun(p:κ×V) (q:κ×Ae)=>p.1=q.1∧RelV p.2 q.2
noncomputable def kV:Key→V
 | .inl i=>.int i
 | .inr x=>.str x
inductive HO where
 | lst (xs:List V)
 | tup (xs:List V)
 | dK (kvs:List (Key×V)) | dT (kvs:List (List Key×V))
 | set (S:Int→Bool) (n:Nat)
 | ins (C dx:Ab) (fs:List (Str×V))
 | own (x:Ab)
 | xd (fs:List (Str×V))
 | met (f x:Ab)
 | rng (lo hi:Int)
 | frz (o:Obj) (u:HO)
 | tbl (ps:Array Ae)
 | ext (φ:Aq→Prop)
noncomputable abbrev Hp:=Ab→Option HO
noncomputable def upd (H:Hp) (a:Ab) (o:HO):Hp:=fun b=>if b=a then some o else H b
theorem Cm {H:Hp} {a:Ab} {o:HO}:upd H a o a=some o:=by unfold upd; rw[if_pos rfl]
theorem Cd {H:Hp} {a b:Ab} {o:HO} (h:b≠a):upd H a o b=H b:=by unfold upd; rw[if_neg h]
theorem j8 {H:Hp} {a:Ab} {o u:HO}:upd (upd H a o) a u=upd H a u:=by
 funext b; unfold upd; split <;> rfl
theorem Ci {H:Hp} {a b:Ab} {o u:HO} (h:H a=some o) (h':H b=some u) (d:o≠u):a≠b:=by
 intro e; subst e; rw[h]at h'; exact d (Dl h')
theorem Bw {H:Hp} {a b:Ab} {o:HO} (h:H a=some o) (h':H b=none):a≠b:=by
 intro e; subst e; rw[h]at h'; cases h'
def TupN (h:Aq) (a:Ab) (items:Array Ae):Prop:=∃o,h.get? a=some o∧o.cls=.type "tuple"∧∃n,o.data=.seq items n∧o.dict=none
theorem TupN.is {h:Aq} {a:Ab} {items:Array Ae}:TupN h a items→IsTup h a items:=fun⟨o,e,c,n,d,_⟩=>⟨o,e,c,n,d⟩
theorem TupN.lt {h:Aq} {a:Ab} {items:Array Ae} (x:TupN h a items):a < h.objs.size:=x.is.lt
theorem TupN.new (h:Aq) (items:Array Ae):TupN (h.push { cls:=.type "tuple",data:=.seq items }) h.objs.size items:=⟨_,FZ _ rfl,rfl,_,rfl,rfl⟩
section
variable (P:Bp) (w:Bg)
noncomputable def DG (H:Hp) (h:Aq) (a:Ab):HO→Prop
 | .lst xs=>xs.length≤BW∧∃(its:List Ae) (n:Nat),Vals xs its∧h.get? a=some { cls:=.type "list",data:=.seq its.toArray n }
 | .tup xs=>xs.length≤BW∧∃its:List Ae,Vals xs its∧TupN h a its.toArray
 | .dK kvs=>kvs.length≤BW∧(a == sysModules)=false∧∃vs,KV kvs vs∧h.DictOf (Gq P w) a vs
 | .dT kvs=>kvs.length≤BW∧(a == sysModules)=false∧∃xs:List (List Key×Ab×Ae),
   Bs (fun(p:List Key×V) (q:List Key×Ab×Ae)=>p.1=q.1∧H q.2.1=some (.tup (p.1.map kV))∧RelV p.2 q.2.2) kvs xs∧
   ∃o es ep,h.get? a=some o∧o.ExactDict∧o.data=.dict es ep∧es.toList=xs.map (entryOfKey (tupleKind (Gq P w)))∧(xs.map (·.1)).Nodup
 | .set S n=>h.SetOf (intKind P w) a S n
 | .ins C dx fs=>H dx=some (.own a)∧fs.length≤1000∧dx≠a∧h.get? a=some (K6 C dx)∧
   ∃mA,h.Ns1 dx mA∧(∀f,RelO (fs.lookup f) (mA f))∧Yac mA (fs.map (·.1))
 | .own _=>∃o,h.get? a=some o
 | .xd fs=>∃mA,h.Ns1 a mA∧∀f,RelO (fs.lookup f) (mA f)
 | .rng lo hi=>∃t u v,h.get? a=some { cls:=.type "range",data:=.fields #[.int lo t,.int hi u,.int 1 v] }
 | .frz o u=>h.get? a=some o∧DG H h a u
 | .tbl ps=>h.get? a=some { cls:=.none,data:=.fields ps }
 | .met f x=>h.get? a=some (Yad (.ref f) (.ref x))
 | .ext φ=>φ h∧(∃o,h.get? a=some o)∧∀h1 h2:Aq,φ h1→(∀o,h1.get? a=some o→h2.get? a=some o)→φ h2
def HOk (H:Hp) (h:Aq):Prop:=∀a o,H a=some o→DG P w H h a o
end
section
variable {P:Bp} {w:Bg} {H H':Hp} {h h':Aq} {a:Ab} {o:HO}
theorem DG.lt (x:DG P w H h a o):a < h.objs.size:=by
 cases o with
 | lst xs=>obtain⟨_,_,_,_,e⟩:=x; exact CQ e
 | tup xs=>obtain⟨_,_,_,p⟩:=x; exact p.lt
 | dK kvs=>obtain⟨_,_,_,_,o,_,_,e,_⟩:=x; exact CQ e
 | dT kvs=>obtain⟨_,_,_,_,o,_,_,e,_⟩:=x; exact CQ e
 | set S n=>obtain⟨o,_,_,_,e,_⟩:=x; exact CQ e
 | ins C dx fs=>obtain⟨_,_,_,e,_⟩:=x; exact CQ e
 | own y=>obtain⟨_,e⟩:=x; exact CQ e
 | xd fs=>obtain⟨_,⟨_,_,_,e,_⟩,_⟩:=x; exact CQ e
 | rng lo hi=>obtain⟨_,_,_,e⟩:=x; exact CQ e
 | frz ob u=>obtain⟨e,_⟩:=x; exact CQ e
 | tbl ps=>exact CQ (show h.get? a=some _ from x)
 | met f y=>exact CQ (show h.get? a=some _ from x)
 | ext φ=>obtain⟨_,⟨_,e⟩,_⟩:=x; exact CQ e
theorem Paired.mapP {α β:Type} {F G:α→β→Prop}:∀{l₁:List α} {l₂:List β},Bs F l₁ l₂→(∀a b,F a b→G a b)→Bs G l₁ l₂
 | _,_,.nil,_=>.nil
 | _,_,.cons r t,f=>.cons (f _ _ r) (Paired.mapP t f)
theorem DG.stay (x:DG P w H h a o) (k:∀b u,(b=a∨H b=some (.own a))→h.get? b=some u→h'.get? b=some u)
  (ho:∀b,H b=some (.own a)→H' b=some (.own a)) (ht:∀b xs,H b=some (.tup xs)→H' b=some (.tup xs)):DG P w H' h' a o:=by
 induction o with
 | lst xs=>obtain⟨z,its,n,r,e⟩:=x; exact⟨z,its,n,r,k _ _ (.inl rfl) e⟩
 | tup xs=>obtain⟨z,its,r,ob,e,c⟩:=x; exact⟨z,its,r,ob,k _ _ (.inl rfl) e,c⟩
 | dK kvs=>obtain⟨z,y,vs,r,ob,es,ep,e,c⟩:=x; exact⟨z,y,vs,r,ob,es,ep,k _ _ (.inl rfl) e,c⟩
 | dT kvs=>
  obtain⟨z,y,xs,r,ob,es,ep,e,c⟩:=x;exact⟨z,y,xs,Paired.mapP r fun p q z=>⟨z.1,ht _ _ z.2.1,z.2.2⟩,ob,es,ep,k _ _ (.inl rfl) e,c⟩
 | set S n=>obtain⟨ob,es,ep,t,e,c⟩:=x; exact⟨ob,es,ep,t,k _ _ (.inl rfl) e,c⟩
 | ins C dx fs=>
  obtain⟨d,z,ne,e,mA,⟨od,es,ep,e2,c⟩,r⟩:=x;exact⟨ho _ d,z,ne,k _ _ (.inl rfl) e,mA,⟨od,es,ep,k _ _ (.inr d) e2,c⟩,r⟩
 | own y=>obtain⟨ob,e⟩:=x; exact⟨ob,k _ _ (.inl rfl) e⟩
 | xd fs=>obtain⟨mA,⟨od,es,ep,e,c⟩,r⟩:=x; exact⟨mA,⟨od,es,ep,k _ _ (.inl rfl) e,c⟩,r⟩
 | rng lo hi=>obtain⟨t,u,v,e⟩:=x; exact⟨t,u,v,k _ _ (.inl rfl) e⟩
 | frz ob u ih=>obtain⟨e,q⟩:=x; exact⟨k _ _ (.inl rfl) e,ih q⟩
 | tbl ps=>
  have e:h.get? a=some { cls:=.none,data:=.fields ps }:=x;show h'.get? a=some { cls:=.none,data:=.fields ps };exact k a _ (.inl rfl) e
 | met f y=>
  have e:h.get? a=some (Yad (.ref f) (.ref y)):=x;show h'.get? a=some (Yad (.ref f) (.ref y));exact k a _ (.inl rfl) e
 | ext φ=>obtain⟨p,⟨o,e⟩,st⟩:=x; exact⟨st _ _ p fun o q=>k _ _ (.inl rfl) q,⟨o,k _ _ (.inl rfl) e⟩,st⟩
theorem HOk.lt (x:HOk P w H h) (e:H a=some o):a < h.objs.size:=(x a o e).lt
theorem HOk.fresh (x:HOk P w H h) (e:h.objs.size≤a):H a=none:=by
 cases q:H a with
 | none=>rfl
 | some u=>exact absurd (Ez (x.lt q) e) (N7 _)
theorem HOk.kept (x:HOk P w H h) (k:∀b u,h.get? b=some u→h'.get? b=some u):HOk P w H h':=fun a o e=>
 (x a o e).stay (fun b u _ q=>k b u q) (fun _ q=>q) fun _ _ q=>q
theorem HOk.laid (x:HOk P w H h) (k:∀b u,h.get? b=some u→h'.get? b=some u) (hp:h.objs.size≤a) (new:DG P w (upd H a o) h' a o):HOk P w (upd H a o) h':=fun b u e=>by
 have hn:=x.fresh hp
 by_cases hb:b=a
 ·subst hb; rw[Cm]at e; cases e; exact new
 ·rw[Cd hb]at e
  exact(x b u e).stay (fun c v _ q=>k c v q) (fun c q=>by rw[Cd (Bw q hn)]; exact q) fun c xs q=>by rw[Cd (Bw q hn)]; exact q
end
def Rd (H:Hp) (a:Ab) (u:HO):Prop:=H a=some u∨∃o,H a=some (.frz o u)
theorem Rd.ok {P:Bp} {w:Bg} {H:Hp} {h:Aq} {a:Ab} {u:HO} (r:Rd H a u) (x:HOk P w H h):DG P w H h a u:=by
 rcases r with r | ⟨o,r⟩
 ·exact x a u r
 ·obtain⟨_,q⟩:=x a _ r
  exact q
noncomputable def Mut:Option HO→Prop
 | some (.lst _)=>True
 | some (.dK _)=>True
 | some (.dT _)=>True
 | some (.set _ _)=>True
 | some (.ins _ _ _)=>True
 | some (.ext _)=>True
 | _=>False
section
variable {P:Bp} {w:Bg} {H:Hp} {h h':Aq} {x e:Ab} {o':HO}
theorem HOk.write (ok:HOk P w H h) (mu:Mut (H x)) (he:e=x∨H e=some (.own x)) (k:∀b u,b≠e→h.get? b=some u→h'.get? b=some u) (heo:∃u,h'.get? e=some u)
  (new:DG P w (upd H x o') h' x o'):HOk P w (upd H x o') h':=fun b u q=>by
 have nown:∀c y,H c=some (.own y)→c≠x:=fun c y r z=>by subst z; rw[r]at mu; exact mu
 have ntup:∀c xs,H c=some (.tup xs)→c≠x:=fun c xs r z=>by subst z; rw[r]at mu; exact mu
 by_cases hb:b=x
 ·subst hb; rw[Cm]at q; cases q; exact new
 ·rw[Cd hb]at q
  by_cases hbe:b=e
  ·have q':H b=some (.own x):=by
    rcases he with z | z
    ·exact absurd (hbe.trans z) hb
    ·rw[hbe]; exact z
   rw[q]at q'; cases q';obtain⟨v,hv⟩:=heo;exact⟨v,by rw[hbe]; exact hv⟩
  ·refine(ok b u q).stay (fun c v hc r=>k c v ?_ r) (fun c r=>by rw[Cd (nown c b r)]; exact r) fun c xs r=>by rw[Cd (ntup c xs r)]; exact r
   rcases hc with rfl | hc
   ·exact hbe
   ·rintro rfl
    rcases he with z | z
    ·exact nown c b hc z
    ·rw[hc]at z; cases z; exact hb rfl
end
structure Un (fs ex:List Ab) (H H':Hp) (h h':Aq):Prop where
 keep:∀b o,h.get? b=some o→H b=none→b∉fs→b∉ex→h'.get? b=some o
 slot:∀b o,h.get? b=some o→H b=none→b∈fs→b∉ex→∃sl,h'.get? b=some { o with slots:=sl }
 free:∀b o,h.get? b=some o→H b=none→b∉ex→H' b=none
 there:∀b o,h.get? b=some o→b∉ex→∃o',h'.get? b=some o'
 tups:∀b xs,H b=some (.tup xs)→H' b=some (.tup xs)
 frzs:∀b o u,H b=some (.frz o u)→H' b=some (.frz o u)
 tbls:∀b ps,H b=some (.tbl ps)→∃more,H' b=some (.tbl (ps++more))
section
variable {fs fs' ex ex':List Ab} {H H1 H2:Hp} {h h1 h2 h':Aq} {a x e:Ab} {o:HO}
theorem Un.any (u:Un fs ex H H1 h h1) {b:Ab} {ob:Obj} (q:h.get? b=some ob) (n:H b=none) (hx:b∉ex):∃sl,h1.get? b=some { ob with slots:=sl }:=by
 by_cases hb:b∈fs
 ·exact u.slot b ob q n hb hx
 ·exact⟨ob.slots,u.keep b ob q n hb hx⟩
theorem Un.kept (k:∀b u,h.get? b=some u→h'.get? b=some u):Un fs ex H H h h':=
 ⟨fun b ob q _ _ _=>k b ob q,fun b ob q _ _ _=>⟨ob.slots,k b ob q⟩,fun _ _ _ n _=>n,fun b ob q _=>⟨ob,k b ob q⟩,fun _ _ q=>q,fun _ _ _ q=>q,fun _ ps q=>⟨#[],by rw[q]; simp⟩⟩
theorem Un.refl:Un fs ex H H h h:=Un.kept fun _ _ q=>q
theorem Un.laid (k:∀b u,h.get? b=some u→h'.get? b=some u) (hp:h.objs.size≤a) (hn:H a=none):Un fs ex H (upd H a o) h h' where
 keep:=fun b u q _ _ _=>k b u q
 slot:=fun b u q _ _ _=>⟨u.slots,k b u q⟩
 free:=fun b u q n _=>by rw[Cd (DQ (Ez (CQ q) hp))]; exact n
 there:=fun b u q _=>⟨u,k b u q⟩
 tups:=fun b xs q=>by rw[Cd (Bw q hn)]; exact q
 frzs:=fun b u xs q=>by rw[Cd (Bw q hn)]; exact q
 tbls:=fun b ps q=>⟨#[],by rw[Cd (Bw q hn),q]; simp⟩
theorem Un.write (mu:Mut (H x)) (he:e=x∨H e=some (.own x)) (k:∀b u,b≠e→h.get? b=some u→h'.get? b=some u) (heo:∃u,h'.get? e=some u):Un fs ex H (upd H x o) h h':=by
 have hx:∀b,H b=none→b≠x:=fun b n z=>by subst z; rw[n]at mu; exact mu
 have hb:∀b,H b=none→b≠e:=fun b n z=>by
  subst z
  rcases he with r | r
  ·exact hx b n r
  ·rw[n]at r; cases r
 have hm:∀b u,H b=some u→¬Mut (some u)→b≠x:=fun b u q nm z=>by subst z; rw[q]at mu; exact nm mu
 refine⟨fun b u q n _ _=>k b u (hb b n) q,fun b u q n _ _=>⟨u.slots,k b u (hb b n) q⟩,fun b u q n _=>by rw[Cd (hx b n)]; exact n,fun b u q _=>?_,
  fun b xs q=>by rw[Cd (hm b _ q fun z=>z)]; exact q,fun b u xs q=>by rw[Cd (hm b _ q fun z=>z)]; exact q,fun b ps q=>⟨#[],by rw[Cd (hm b _ q fun z=>z),q]; simp⟩⟩
 by_cases hbe:b=e
 ·subst hbe; exact heo
 ·exact⟨u,k b u hbe q⟩
end
noncomputable def trk (h:Aq) (H:Hp):List Ab:=(Im h.objs.size).filter fun a=>(H a).isSome
noncomputable def hidT (h:Aq) (H:Hp):Aq:=PySem.W.hideAll h (trk h H)
theorem Zz2 (h:Aq) (H:Hp):(hidT h H).objs.size=h.objs.size:=PySem.W.hideAll_size _ _
theorem ZCF {h:Aq} {H:Hp} {b:Ab} {o:Obj} (e:h.get? b=some o) (n:H b=none):(hidT h H).get? b=some o:=
 PySem.W.hideAll_get _ e fun hm=>by
  have q:(H b).isSome=true:=(Ybk.mp hm).2;rw[n]at q; simp at q
theorem ZF3 {h:Aq} {H:Hp} {b:Ab} {o:Obj} (e:(hidT h H).get? b=some o):h.get? b=some o∧H b=none:=by
 have e':h.get? b=some o:=PySem.W.of_hideAll (trk h H) e;refine⟨e',?_⟩
 cases q:H b with
 | none=>rfl
 | some x=>
  have hm:b∈trk h H:=Ybk.mpr ⟨N8.mpr (CQ e'),by simp[q]⟩;have z:(hidT h H).get? b=none:=PySem.W.hideAll_none (trk h H) hm;rw[z]at e; cases e
end L2
namespace L2
open PySem PySem.Spec PyProof.Rows
structure Mod (K:Ao) (mg:Str→Option Ae) (base:Aq):Prop where
 kin:K.In base
 glob:base.Ns Bf mg
 blt:∃mb,base.Ns builtinsNs mb∧∀x:Str,x≠"__name__"→mb x=bootBuiltins x
 nolimit:base.NoLimit
structure Cx where
 prog:Bp
 w:Bg
 K:Ao
 mg:Str→Option Ae
 base:Aq
 A:Cu
 N:List Str
 s₀:Ak
 H₀:Hp
 env:Env
 outer:List Env
 stack:List Env
 ex:List Ab
 fn:Str→Bool
 calm:Bool
 pn:List (Ab×Obj)
 xe:Ae→Ak→Prop
noncomputable def frs (l:List Env):List Ab:=l.filterMap (·.frame)
noncomputable abbrev Cx.fs (X:Cx):List Ab:=frs X.outer
def Vis (sc:Gn) (x:Str):Prop:=sc.names.lookup x=some .local∨sc.names.lookup x=some .cell∨sc.names.lookup x=some .free
def Loc (sc:Gn) (x:Str):Prop:=sc.names.lookup x=some .local∨sc.names.lookup x=some .cell
def Look (env:Env) (h:Aq) (m:Str→Option Ae) (x:Str) (u:Ae):Prop:=
 (env.kindOf x=some .local∧m x=some u)∨((env.kindOf x=some .cell∨env.kindOf x=some .free)∧∃c,env.cells.lookup x=some c∧h.IsCell c (some u))
structure Cx.Ok (X:Cx):Prop where
 mod:Mod X.K X.mg X.base
 kind:X.env.scope.kind=.function
 glob:X.env.globals=Bf
 blt:X.env.builtins=builtinsNs
 above:X.s₀.heap.objs.size≤X.env.locals
 inj:∀x y c,X.env.cells.lookup x=some c→X.env.cells.lookup y=some c→x=y
 has:∀x,(X.env.kindOf x=some .cell∨X.env.kindOf x=some .free)→∃c,X.env.cells.lookup x=some c
 cab:∀x c,X.fn x=true→X.env.cells.lookup x=some c→X.s₀.heap.objs.size≤c
 hd:X.calm=true→X.A.handled=none
 frames:X.A.frames=some X.stack
 stk:X.stack=X.outer∨(X.stack=X.env::X.outer∧X.env.frame=some X.env.locals)
 exf:∀b∈X.ex,b≠X.env.locals∧∀x c,X.env.cells.lookup x=some c→c≠b
 bs:∀b o,X.base.get? b=some o→X.s₀.heap.get? b=some o∧X.H₀ b=none
 bsz:X.base.objs.size≤X.s₀.heap.objs.size
 noex:∀b o,X.base.get? b=some o→b∉X.ex
 exfs:∀b∈X.ex,b∉X.fs
 funs:X.s₀.heap.FunFrames X.base X.outer
 frf:∀b∈X.fs,X.H₀ b=none
structure Inv (X:Cx) (pins:List (Ab×Obj)) (σ:List (Option V)) (H:Hp) (s:Ak):Prop where
 ok:X.Ok
 os:s.os=X.s₀.os
 bare:JH s.gens
 base:Un X.fs X.ex X.H₀ H X.s₀.heap s.heap
 loc:∃m,s.heap.Ns X.env.locals m∧∀(i:Nat) (x:Str) (v:V),X.N[i]?=some x→σ[i]?=some (some v)→Vis X.env.scope x→∃u,RelV v u∧Look X.env s.heap m x u
 cell:∀x c,X.env.cells.lookup x=some c→∃v,s.heap.IsCell c v
 free:H X.env.locals=none
 freeC:∀x c,X.env.cells.lookup x=some c→H c=none
 pin:∀p∈X.pn++pins,s.heap.get? p.1=some p.2∧H p.1=none∧p.1≠X.env.locals∧p.1∉X.fs∧∀v,p.2.data≠.cell v
 hok:HOk X.prog X.w H s.heap
 len:σ.length=X.N.length
section
variable {X:Cx} {pins:List (Ab×Obj)} {σ:List (Option V)} {H H':Hp} {s:Ak} {h':Aq}
theorem Cx.Ok.nofr (ok:X.Ok) {b:Ab} {o:Obj} (e:X.base.get? b=some o):b∉X.fs:=fun hb=>by
 have:=(ok.funs.mem hb).1;rw[e]at this; cases this
theorem Inv.bs (I:Inv X pins σ H s):∀b o,X.base.get? b=some o→s.heap.get? b=some o∧H b=none:=fun b o e=>
 ⟨I.base.keep b o (I.ok.bs b o e).1 (I.ok.bs b o e).2 (I.ok.nofr e) (I.ok.noex b o e),I.base.free b o (I.ok.bs b o e).1 (I.ok.bs b o e).2 (I.ok.noex b o e)⟩
theorem Inv.bk (I:Inv X pins σ H s):∀b o,X.base.get? b=some o→s.heap.get? b=some o:=fun b o e=>(I.bs b o e).1
theorem Inv.mod (I:Inv X pins σ H s):Mod X.K X.mg X.base:=I.ok.mod
theorem Inv.kIn (I:Inv X pins σ H s):X.K.In s.heap:=I.ok.mod.kin.keeps I.bk
theorem Inv.lt (I:Inv X pins σ H s):X.env.locals < s.heap.objs.size:=let ⟨_,hn,_⟩:=I.loc; hn.lt
theorem Inv.sz (I:Inv X pins σ H s):X.s₀.heap.objs.size≤s.heap.objs.size:=Ex I.ok.above (VD I.lt)
theorem Inv.nofs (I:Inv X pins σ H s) {a:Ab} (h:s.heap.objs.size≤a):a∉X.fs:=fun hb=>by
 obtain⟨_,o,ho,_⟩:=I.ok.funs.mem hb;exact absurd (Ez (CQ ho) (Ex I.sz h)) (N7 _)
theorem Inv.cne (I:Inv X pins σ H s):∀x c,X.env.cells.lookup x=some c→c≠X.env.locals:=fun x c e z=>by
 obtain⟨v,o,ho,hd⟩:=I.cell x c e;obtain⟨m,⟨o',es,ep,ho',hd',_⟩,_⟩:=I.loc;rw[z,ho']at ho; cases ho; rw[hd']at hd; cases hd
theorem Inv.funs (I:Inv X pins σ H s):s.heap.FunFrames X.base X.outer:=by
 have all:∀(l:List Env),(∀b∈frs l,b∈X.fs)→X.s₀.heap.FunFrames X.base l→s.heap.FunFrames X.base l:=by
  intro l
  induction l with
  | nil=>intro _ _; trivial
  | cons env r ih=>
   intro hs hl;obtain⟨hk,⟨L,o,hf,hn,ho,hd⟩,hr⟩:=hl;have hL:L∈X.fs:=hs L (by unfold frs; rw[Yae,hf]; exact Dg);obtain⟨sl,e⟩:=I.base.slot L o ho (I.ok.frf L hL) hL fun z=>I.ok.exfs L z hL;exact⟨hk,⟨L,_,hf,hn,e,hd⟩,ih (fun b hb=>hs b (by unfold frs; rw[Yae,hf]; exact CW _ hb)) hr⟩
 exact all X.outer (fun _ hb=>hb) I.ok.funs
theorem Inv.stack (I:Inv X pins σ H s):s.heap.FunFrames X.base X.stack:=by
 rcases I.ok.stk with e | ⟨e,hf⟩
 ·rw[e]; exact I.funs
 ·rw[e]
  obtain⟨m,hn,_⟩:=I.loc;refine .cons (by rw[I.ok.kind]; decide) hf hn ?_ I.funs;exact Yaf (Ex I.ok.bsz I.ok.above)
theorem Inv.stkSub (I:Inv X pins σ H s):∀b∈frs X.stack,b∈X.env.locals::X.fs:=fun b hb=>by
 rcases I.ok.stk with e | ⟨e,hf⟩
 ·rw[e]at hb; exact CW _ hb
 ·rw[e]at hb
  unfold frs at hb;rw[Yae,hf]at hb;exact hb
theorem Inv.stkFree (I:Inv X pins σ H s):∀b∈frs X.stack,H b=none:=fun b hb=>by
 rcases Bu.mp (I.stkSub b hb) with e | hb
 ·rw[e]; exact I.free
 ·obtain⟨_,o,ho,_⟩:=I.ok.funs.mem hb
  exact I.base.free b o ho (I.ok.frf b hb) fun z=>I.ok.exfs b z hb
theorem Inv.step {g':Array GenState} {t':Nat} {d':Drawn} {ch:List Ab} (I:Inv X pins σ H s)
  (hch:∀b∈ch,(b∈X.ex∨X.s₀.heap.objs.size≤b)∧b≠X.env.locals∧(∀x c,X.env.cells.lookup x=some c→c≠b)∧∀p∈X.pn++pins,p.1≠b)
  (keep:∀b o,b≠X.env.locals→b∉X.fs→b∉ch→s.heap.get? b=some o→H b=none→h'.get? b=some o)
  (slot:∀b o,b≠X.env.locals→b∈X.fs→b∉ch→s.heap.get? b=some o→H b=none→∃sl,h'.get? b=some { o with slots:=sl }) (free:∀b o,b∉ch→s.heap.get? b=some o→H b=none→H' b=none)
  (there:∀b o,b∉ch→s.heap.get? b=some o→∃o',h'.get? b=some o')
  (tups:∀b xs,H b=some (.tup xs)→H' b=some (.tup xs)) (frzs:∀b o u,H b=some (.frz o u)→H' b=some (.frz o u)) (tbls:∀b ps,H b=some (.tbl ps)→∃more,H' b=some (.tbl (ps++more)))
  (ns:∀m,s.heap.Ns X.env.locals m→h'.Ns X.env.locals m) (hok:HOk X.prog X.w H' h') (hg:JH g') :
  Inv X pins σ H' { s with heap:=h',gens:=g',drawn:=d',toks:=t' }:=by
 have neL:∀b o,X.s₀.heap.get? b=some o→b≠X.env.locals:=fun b o e=>DQ (Ez (CQ e) I.ok.above)
 have neC:∀b o,X.s₀.heap.get? b=some o→b∉X.ex→b∉ch:=fun b o e hx hb=>by
  rcases(hch b hb).1 with z | z
  ·exact hx z
  ·exact absurd (Ez (CQ e) z) (N7 _)
 have cellK:∀x c,X.env.cells.lookup x=some c→∀v,s.heap.IsCell c v→h'.IsCell c v:=fun x c e v ⟨o,ho,hd⟩=>by
  have nch:c∉ch:=fun z=>(hch c z).2.2.1 x c e rfl
  by_cases hc:c∈X.fs
  ·obtain⟨sl,q⟩:=slot c o (I.cne x c e) hc nch ho (I.freeC x c e)
   exact⟨_,q,hd⟩
  ·exact⟨o,keep c o (I.cne x c e) hc nch ho (I.freeC x c e),hd⟩
 refine⟨I.ok,I.os,hg,⟨fun b o e n hb hx=>?_,fun b o e n hb hx=>?_,fun b o e n hx=>?_,fun b o e hx=>?_,fun b xs e=>tups b xs (I.base.tups b xs e),fun b o xs e=>frzs b o xs (I.base.frzs b o xs e),fun b ps e=>?_⟩,?_,fun x c e=>?_,?_,fun x c e=>?_,fun p hp=>?_,hok,I.len⟩
 ·exact keep b o (neL b o e) hb (neC b o e hx) (I.base.keep b o e n hb hx) (I.base.free b o e n hx)
 ·obtain⟨sl,e1⟩:=I.base.slot b o e n hb hx
  obtain⟨sl',e2⟩:=slot b _ (neL b o e) hb (neC b o e hx) e1 (I.base.free b o e n hx);exact⟨sl',e2⟩
 ·obtain⟨o',e1⟩:=I.base.there b o e hx
  exact free b o' (neC b o e hx) e1 (I.base.free b o e n hx)
 ·obtain⟨o',e1⟩:=I.base.there b o e hx
  exact there b o' (neC b o e hx) e1
 ·obtain⟨m1,e1⟩:=I.base.tbls b ps e
  obtain⟨m2,e2⟩:=tbls b _ e1;exact⟨m1++m2,by rw[e2,Array.append_assoc]⟩
 ·obtain⟨m,hn,hl⟩:=I.loc
  refine⟨m,ns m hn,fun i x v e1 e2 e3=>?_⟩;obtain⟨u,r,l⟩:=hl i x v e1 e2 e3;refine⟨u,r,?_⟩
  rcases l with l | ⟨k,c,e,z⟩
  ·exact .inl l
  ·exact .inr ⟨k,c,e,cellK x c e _ z⟩
 ·obtain⟨v,z⟩:=I.cell x c e
  exact⟨v,cellK x c e v z⟩
 ·obtain⟨m,⟨o,_,_,ho,_⟩,_⟩:=I.loc
  exact free _ o (fun z=>(hch _ z).2.1 rfl) ho I.free
 ·obtain⟨v,o,ho,hd⟩:=I.cell x c e
  exact free c o (fun z=>(hch c z).2.2.1 x c e rfl) ho (I.freeC x c e)
 ·obtain⟨e,n,ne,nf,d⟩:=I.pin p hp
  have nch:p.1∉ch:=fun z=>(hch p.1 z).2.2.2 p hp rfl;exact⟨keep p.1 p.2 ne nf nch e n,free p.1 p.2 nch e n,ne,nf,d⟩
theorem Inv.un {t':Nat} (I:Inv X pins σ H s) (u:Un X.fs [] H H' s.heap h') (hok:HOk X.prog X.w H' h'):Inv X pins σ H' { s with heap:=h',toks:=t' }:=by
 obtain⟨m,⟨o,es,ep,ho,r⟩,_⟩:=id I.loc;obtain⟨sl,hL⟩:=u.any ho I.free (by simp)
 exact I.step (g':=s.gens) (d':=s.drawn) (ch:=[]) (fun _ z=>nomatch z) (fun b o _ hb _ e n=>u.keep b o e n hb (by simp)) (fun b o _ hb _ e n=>u.slot b o e n hb (by simp)) (fun b o _ e n=>u.free b o e n (by simp)) (fun b o _ e=>u.there b o e (by simp)) u.tups u.frzs u.tbls (fun m' hm=>by
  obtain⟨o',es',ep',ho',r'⟩:=hm;rw[ho]at ho'; cases ho'
  exact⟨_,es',ep',hL,r'⟩) hok I.bare
theorem Inv.call {g':Array GenState} {t':Nat} {d':Drawn} {ch:List Ab} (I:Inv X pins σ H s) (u:Un (frs X.stack) ch H H' s.heap h') (hok:HOk X.prog X.w H' h') (hg:JH g')
  (hch:∀b∈ch,(b∈X.ex∨X.s₀.heap.objs.size≤b)∧b≠X.env.locals∧(∀x c,X.env.cells.lookup x=some c→c≠b)∧∀p∈X.pn++pins,p.1≠b) :
  Inv X pins σ H' { s with heap:=h',gens:=g',drawn:=d',toks:=t' }:=by
 obtain⟨m,⟨o,es,ep,ho,r⟩,_⟩:=id I.loc;obtain⟨sl,hL⟩:=u.any ho I.free fun z=>(hch _ z).2.1 rfl
 exact I.step (ch:=ch) hch (fun b o hL hb hc e n=>u.keep b o e n (fun z=>(Bu.mp (I.stkSub b z)).elim hL hb) hc) (fun b o _ _ hc e n=>u.any e n hc) (fun b o hc e n=>u.free b o e n hc) (fun b o hc e=>u.there b o e hc) u.tups u.frzs u.tbls (fun m' hm=>by
  obtain⟨o',es',ep',ho',r'⟩:=hm;rw[ho]at ho'; cases ho'
  exact⟨_,es',ep',hL,r'⟩) hok hg
theorem Inv.turned {t':Nat} {it:Ab} (I:Inv X pins σ H s) (k:∀b o,b≠it→s.heap.get? b=some o→h'.get? b=some o) (hn:H it=none) (hL:it≠X.env.locals)
  (h1:it∈X.ex∨X.s₀.heap.objs.size≤it) (h2:∀x c,X.env.cells.lookup x=some c→c≠it) (h3:∀p∈X.pn++pins,p.1≠it):Inv X pins σ H { s with heap:=h',toks:=t' }:=by
 have nit:∀b u,H b=some u→b≠it:=fun b u e z=>by rw[z,hn]at e; cases e
 refine I.step (g':=s.gens) (d':=s.drawn) (ch:=[it]) (fun b hb=>?_) (fun b o _ _ hc e _=>k b o (fun z=>hc (by simp[z])) e) (fun b o _ _ hc e _=>⟨o.slots,k b o (fun z=>hc (by simp[z])) e⟩) (fun _ _ _ _ n=>n)
  (fun b o hc e=>⟨o,k b o (fun z=>hc (by simp[z])) e⟩) (fun _ _ e=>e) (fun _ _ _ e=>e) (fun b ps e=>⟨#[],by rw[e]; simp⟩) (fun m hm=>?_) (fun b u e=>?_) I.bare
 ·have e:b=it:=by simpa using hb
  subst e;exact⟨h1,hL,h2,h3⟩
 ·obtain⟨o,es,ep,ho,r⟩:=hm
  exact⟨o,es,ep,k _ o (Gs hL) ho,r⟩
 ·refine(I.hok b u e).stay (fun c v hc q=>k c v ?_ q) (fun _ q=>q) fun _ _ q=>q
  rcases hc with z | z
  ·rw[z]; exact nit b u e
  ·exact nit c _ z
theorem Inv.tok (I:Inv X pins σ H s) (t:Nat):Inv X pins σ H { s with toks:=t }:=I.un (h':=s.heap) (t':=t) Un.refl I.hok
theorem Inv.kept {t':Nat} (I:Inv X pins σ H s) (k:∀b u,s.heap.get? b=some u→h'.get? b=some u):Inv X pins σ H { s with heap:=h',toks:=t' }:=I.un (Un.kept k) (I.hok.kept k)
theorem Inv.laid {a:Ab} {o:HO} {t':Nat} (I:Inv X pins σ H s) (k:∀b u,s.heap.get? b=some u→h'.get? b=some u) (hp:s.heap.objs.size≤a) (new:DG X.prog X.w (upd H a o) h' a o) :
  Inv X pins σ (upd H a o) { s with heap:=h',toks:=t' }:=I.un (Un.laid k hp (I.hok.fresh hp)) (I.hok.laid k hp new)
theorem Inv.write {x e:Ab} {o:HO} {t':Nat} (I:Inv X pins σ H s) (mu:Mut (H x)) (he:e=x∨H e=some (.own x)) (k:∀b u,b≠e→s.heap.get? b=some u→h'.get? b=some u) (heo:∃u,h'.get? e=some u)
  (new:DG X.prog X.w (upd H x o) h' x o):Inv X pins σ (upd H x o) { s with heap:=h',toks:=t' }:=I.un (Un.write mu he k heo) (I.hok.write mu he k heo new)
theorem Inv.pins_of {pins':List (Ab×Obj)} (I:Inv X pins σ H s) (h:∀p∈pins',s.heap.get? p.1=some p.2∧H p.1=none∧p.1≠X.env.locals∧p.1∉X.fs∧∀v,p.2.data≠.cell v):Inv X pins' σ H s:=
 ⟨I.ok,I.os,I.bare,I.base,I.loc,I.cell,I.free,I.freeC,fun p hp=>(Er.mp hp).elim (fun z=>I.pin p (Yag _ z)) (h p),I.hok,I.len⟩
theorem j9 {N:List Str} (hN:N.Nodup) {i j:Nat} {x:Str} (a:N[i]?=some x) (b:N[j]?=some x):i=j:=by
 obtain⟨h1,e1⟩:=Ej.mp a;obtain⟨h2,e2⟩:=Ej.mp b;exact(Ybl hN).mp (e1.trans e2.symm)
theorem Zu1 {M:Oa} {A:Cu} {E:Ae→Ak→Prop} {i:Nat} {x:Str} {v:V} {u:Ae} {Q:Unit→Ak→Prop} (I:Inv X pins σ H s) (hN:X.N.Nodup) (hi:X.N[i]?=some x) (hx:Loc X.env.scope x) (r:RelV v u)
  (h:∀s',Inv X pins (σ.set i (some v)) H s'→(∃a,Ob a s.heap s'.heap∧(a=X.env.locals∨X.env.cells.lookup x=some a))→Q () s') (hf:X.fn x=true∨X.env.scope.names.lookup x=some .local:=by first | exact .inl rfl | exact .inr rfl | assumption):Bb M A (storeName X.env x u) Q E s:=by
 obtain⟨m,hn,hl⟩:=id I.loc
 have hcls:(X.env.scope.kind == .class || (X.env.scope.kind == .module && X.env.locals != X.env.globals))=false:=by rw[I.ok.kind]; rfl
 have hiσ:i < σ.length:=by rw[I.len]; exact(Ej.mp hi).1
 have cne:=I.cne
 have tracked:∀{a:Ab} {h':Aq},(∃o,s.heap.get? a=some o∧H a=none)→Ob a s.heap h'→HOk X.prog X.w H h':=fun {a h'} ha hs b ob e=>by
  obtain⟨_,_,hfree⟩:=ha;refine(I.hok b ob e).stay (fun c w' hc q=>(hs.2 c ?_).trans q) (fun _ q=>q) fun _ _ q=>q;rintro rfl
  rcases hc with rfl | hc
  ·rw[hfree]at e; cases e
  ·rw[hfree]at hc; cases hc
 rcases hx with hk | hk
 ·refine Ybm hk hn (fun h' hn' hs=>?_) hcls
  obtain⟨oL,_,_,hoL,_⟩:=id hn;refine h _ ⟨I.ok,I.os,I.bare,⟨fun b o e n hb hx=>?_,fun b o e n hb hx=>?_,I.base.free,fun b o e hx=>?_,I.base.tups,I.base.frzs,I.base.tbls⟩,⟨_,hn',fun j y v' e1 e2 e3=>?_⟩,fun y c e=>?_,I.free,I.freeC,fun p hp=>?_,tracked ⟨oL,hoL,I.free⟩ hs,by simpa using I.len⟩ ⟨_,hs,.inl rfl⟩
  ·exact(hs.2 b (DQ (Ez (CQ e) I.ok.above))).trans (I.base.keep b o e n hb hx)
  ·obtain⟨sl,e1⟩:=I.base.slot b o e n hb hx
   exact⟨sl,(hs.2 b (DQ (Ez (CQ e) I.ok.above))).trans e1⟩
  ·obtain⟨o',e1⟩:=I.base.there b o e hx
   exact⟨o',(hs.2 b (DQ (Ez (CQ e) I.ok.above))).trans e1⟩
  ·by_cases hj:j=i
   ·subst hj
    rw[hi]at e1; cases e1;rw[Yah hiσ]at e2
    cases e2
    exact⟨u,r,.inl ⟨hk,by simp⟩⟩
   ·rw[Yai (Gs hj)]at e2
    obtain⟨u',r',q⟩:=hl j y v' e1 e2 e3;refine⟨u',r',?_⟩
    rcases q with⟨k,e⟩ | ⟨k,c,e,z⟩
    ·refine .inl ⟨k,?_⟩
     have:y≠x:=fun e=>hj (j9 hN e1 (e ▸ hi));simp[this,e]
    ·exact .inr ⟨k,c,e,z.sameBut hs (cne y c e)⟩
  ·obtain⟨w',z⟩:=I.cell y c e
   exact⟨w',z.sameBut hs (cne y c e)⟩
  ·obtain⟨e,n,ne,nf,d⟩:=I.pin p hp
   exact⟨(hs.2 p.1 ne).trans e,n,ne,nf,d⟩
 ·have hfn:X.fn x=true:=by
   rcases hf with z | z
   ·exact z
   ·rw[z]at hk; cases hk
  obtain⟨c,hc⟩:=I.ok.has x (.inl hk);obtain⟨w',z⟩:=I.cell x c hc;refine wpAny_storeName_cell I.ok.kind hk hc z (fun h' hc' hs=>?_);obtain⟨oc,hoc,hocd⟩:=id z;refine h { s with heap:=h' } ⟨I.ok,I.os,I.bare,⟨fun b o e n hb hx=>?_,fun b o e n hb hx=>?_,I.base.free,fun b o e hx=>?_,I.base.tups,I.base.frzs,I.base.tbls⟩,⟨m,hn.sameBut hs (Gs (cne x c hc)),fun j y v' e1 e2 e3=>?_⟩,fun y c' e=>?_,I.free,I.freeC,fun p hp=>?_,tracked ⟨oc,hoc,I.freeC x c hc⟩ hs,by simpa using I.len⟩ ⟨c,hs,.inr hc⟩
  ·exact(hs.2 b (DQ (Ez (CQ e) (I.ok.cab x c hfn hc)))).trans (I.base.keep b o e n hb hx)
  ·obtain⟨sl,e1⟩:=I.base.slot b o e n hb hx
   exact⟨sl,(hs.2 b (DQ (Ez (CQ e) (I.ok.cab x c hfn hc)))).trans e1⟩
  ·obtain⟨o',e1⟩:=I.base.there b o e hx
   exact⟨o',(hs.2 b (DQ (Ez (CQ e) (I.ok.cab x c hfn hc)))).trans e1⟩
  ·by_cases hj:j=i
   ·subst hj
    rw[hi]at e1; cases e1;rw[Yah hiσ]at e2
    cases e2
    exact⟨u,r,.inr ⟨.inl hk,c,hc,hc'⟩⟩
   ·rw[Yai (Gs hj)]at e2
    obtain⟨u',r',q⟩:=hl j y v' e1 e2 e3;refine⟨u',r',?_⟩
    rcases q with q | ⟨k,c',e,z'⟩
    ·exact .inl q
    ·refine .inr ⟨k,c',e,z'.sameBut hs ?_⟩
     rintro rfl;exact hj (j9 hN e1 (I.ok.inj _ _ _ e hc ▸ hi))
  ·by_cases hcc:c'=c
   ·subst hcc; exact⟨_,hc'⟩
   ·obtain⟨w2,z2⟩:=I.cell y c' e
    exact⟨w2,z2.sameBut hs hcc⟩
  ·obtain⟨e,n,ne,nf,d⟩:=I.pin p hp
   refine⟨(hs.2 p.1 ?_).trans e,n,ne,nf,d⟩;intro q;rw[q,hoc]at e;have q':oc=p.2:=Dl e;exact d w' (by rw[←q']; exact hocd)
theorem ZxQ {M:Oa} {A:Cu} {E:Ae→Ak→Prop} {i:Nat} {x:Str} {v:V} {u:Ae} {Q:Unit→Ak→Prop} (I:Inv X pins σ H s) (hN:X.N.Nodup) (hi:X.N[i]?=some x) (hx:Loc X.env.scope x) (r:RelV v u)
  (h:∀s',Inv X pins (σ.set i (some v)) H s'→Q () s') (hf:X.fn x=true∨X.env.scope.names.lookup x=some .local:=by first | exact .inl rfl | exact .inr rfl | assumption):Bb M A (storeName X.env x u) Q E s:=
 Zu1 I hN hi hx r (fun s' I' _=>h s' I') hf
theorem Inv.call' {s':Ak} {ch:List Ab} (I:Inv X pins σ H s) (ho:s'.os=s.os) (u:Un (frs X.stack) ch H H' s.heap s'.heap) (hok:HOk X.prog X.w H' s'.heap) (hg:JH s'.gens)
  (hch:∀b∈ch,(b∈X.ex∨X.s₀.heap.objs.size≤b)∧b≠X.env.locals∧(∀x c,X.env.cells.lookup x=some c→c≠b)∧∀p∈X.pn++pins,p.1≠b):Inv X pins σ H' s':=by
 obtain⟨h',g',d',t',o'⟩:=s';have e:o'=s.os:=ho;subst e;exact I.call (g':=g') (t':=t') (d':=d') u hok hg hch
end
noncomputable abbrev XK:=Ae→Option Ab→Hp→Prop
noncomputable abbrev St:=List (Option V)
noncomputable abbrev VK:=V→Hp→Prop
noncomputable abbrev TE:=St→Hp→VK→Prop
noncomputable abbrev TT:=St→Hp→(Bool→Hp→Prop)→Prop
noncomputable abbrev TA:=St→Hp→(List V→Hp→Prop)→Prop
structure Ends where
 nx:St→Hp→Prop
 rt:VK
 bk:St→Hp→Prop:=fun _ _=>False
 ct:St→Hp→Prop:=fun _ _=>False
noncomputable abbrev TS:=Ends→St→Hp→Prop
def EP (X:Cx) (pins:List (Ab×Obj)) (σ:St) (Q:VK) (u:Ae) (s':Ak):Prop:=∃v H',Inv X pins σ H' s'∧RelV v u∧Q v H'
def TP (X:Cx) (pins:List (Ab×Obj)) (σ:St) (Q:Bool→Hp→Prop) (b:Bool) (s':Ak):Prop:=∃H',Inv X pins σ H' s'∧Q b H'
def AP (X:Cx) (pins:List (Ab×Obj)) (σ:St) (Q:List V→Hp→Prop) (us:List Ae) (s':Ak):Prop:=∃vs H',Inv X pins σ H' s'∧Vals vs us∧Q vs H'
def SP (X:Cx) (pins:List (Ab×Obj)) (D:Ends) (f:Flow) (s':Ak):Prop:=
 match f with
 | .next=>∃σ' H',Inv X pins σ' H' s'∧D.nx σ' H'
 | .brk=>∃σ' H',Inv X pins σ' H' s'∧D.bk σ' H'
 | .cont=>∃σ' H',Inv X pins σ' H' s'∧D.ct σ' H'
 | .ret u=>∃v σ' H',Inv X pins σ' H' s'∧RelV v u∧D.rt v H'
def PE (X:Cx) (e:Aw) (t:TE):Prop:=
 ∀(pins:List (Ab×Obj)) (s:Ak) (σ:St) (H:Hp) (Q:VK),Inv X pins σ H s→t σ H Q→Bb (model X.prog X.w) X.A (eval e X.env) (EP X pins σ Q) X.xe s
def PT (X:Cx) (e:Aw) (t:TT):Prop:=
 ∀(pins:List (Ab×Obj)) (s:Ak) (σ:St) (H:Hp) (Q:Bool→Hp→Prop),Inv X pins σ H s→t σ H Q→Bb (model X.prog X.w) X.A (isTrue e X.env (eval e X.env)) (TP X pins σ Q) X.xe s
def PW (X:Cx) (e:Aw) (t:TT):Prop:=
 ∀(whole:Sem Ae) (pins:List (Ab×Obj)) (s:Ak) (σ:St) (H:Hp) (Q:Bool→Hp→Prop),Inv X pins σ H s→t σ H Q→Bb (model X.prog X.w) X.A (isTrue e X.env whole) (TP X pins σ Q) X.xe s
theorem PW.pt {X:Cx} {e:Aw} {t:TT} (h:PW X e t):PT X e t:=h _
def PA (X:Cx) (es:List Aw) (t:TA):Prop:=
 ∀(pos:Pos) (pins:List (Ab×Obj)) (s:Ak) (σ:St) (H:Hp) (Q:List V→Hp→Prop),Inv X pins σ H s→t σ H Q→Bb (model X.prog X.w) X.A (spliced (backTo pos (BX es X.env))) (AP X pins σ Q) X.xe s
def PS (X:Cx) (st:Ar) (t:TS):Prop:=
 ∀(pins:List (Ab×Obj)) (s:Ak) (σ:St) (H:Hp) (D:Ends),Inv X pins σ H s→t D σ H→Bb (model X.prog X.w) X.A (exec st X.env) (SP X pins D) X.xe s
def PSs (X:Cx) (st:List Ar) (t:TS):Prop:=
 ∀(pins:List (Ab×Obj)) (s:Ak) (σ:St) (H:Hp) (D:Ends),Inv X pins σ H s→t D σ H→Bb (model X.prog X.w) X.A (execs st X.env) (SP X pins D) X.xe s
theorem thn {α:Type} {t:Sem α} {Q Q':α→Ak→Prop} {M:Oa} {A:Cu} {E:Ae→Ak→Prop} {s:Ak} (h:Bb M A t Q E s) (hQ:∀a s,Q a s→Q' a s):Bb M A t Q' E s:=Fv h hQ fun _ _ x=>x
end L2
namespace L2
open PySem PySem.Spec PyProof.Rows
section
variable {X:Cx}
noncomputable def tVar (i:Nat):TE:=fun σ H Q=>∃v,σ[i]?=some (some v)∧Q v H
noncomputable abbrev tC (v:V):TE:=fun _ H Q=>Q v H
theorem ZII {i:Nat} {x:Str} {pos:Pos} (hN:X.N[i]?=some x) (hv:Vis X.env.scope x) (hd:(x == ("__debug__" : Str))=false:=by decide) (hcd:(x == ("__classdict__" : Str))=false:=by decide):PE X (.Name x pos) (tVar i):=by
 intro pins s σ H Q I h;obtain⟨v,e,h⟩:=h;obtain⟨m,hn,hl⟩:=I.loc;obtain⟨u,r,l⟩:=hl i x v hN e hv;have fin:EP X pins σ Q u s:=⟨v,H,I,r,h⟩
 rcases l with⟨hk,hm⟩ | ⟨hk,c,hc,hcell⟩
 ·exact VF (Yaj I.ok.kind hk hn hm fin) hd
 ·rcases hk with hk | hk
  ·exact VF (wpAny_loadName_cell I.ok.kind hk hc hcell fin) hd
  ·exact VF (wpAny_loadName_free I.ok.kind hk hc hcell fin hcd) hd
theorem Ag {i j pos}:PE X (.Constant (.int i) j pos) (tC (.int i)):=fun _ _ _ H _ I h=>wpAny_Constant_int ⟨.int i,H,I.tok _,⟨_,rfl⟩,h⟩
theorem Fo {b j pos}:PE X (.Constant (.bool b) j pos) (tC (.bl b)):=fun _ _ _ H _ I h=>Constant_bool ⟨.bl b,H,I,rfl,h⟩
theorem Ws {j pos}:PE X (.Constant .none j pos) (tC .non):=fun _ _ _ H _ I h=>Constant_none ⟨.non,H,I,rfl,h⟩
theorem Am {x j pos}:PE X (.Constant (.str x) j pos) (tC (.str x)):=fun _ _ _ H _ I h=>Yak ⟨.str x,H,I.tok _,⟨_,rfl⟩,h⟩
def Gl (X:Cx) (x:Str):Prop:=X.env.kindOf x=some .globalImplicit
theorem Um {E:Ae→Ak→Prop} {pins:List (Ab×Obj)} {s:Ak} {σ:St} {H:Hp} {x:Str} {u:Ae} {pos:Pos} {Q:Ae→Ak→Prop} (I:Inv X pins σ H s) (hg:Gl X x) (hm:X.mg x=some u) (h:Q u s)
  (hd:(x == ("__debug__" : Str))=false:=by decide):Bb (model X.prog X.w) X.A (eval (.Name x pos) X.env) Q E s:=
 Ybn I.ok.kind hg (Calls.loadGlobal_global (by rw[I.ok.glob]; exact I.mod.glob.keeps I.bk) hm h) hd
theorem Lf {E:Ae→Ak→Prop} {pins:List (Ab×Obj)} {s:Ak} {σ:St} {H:Hp} {x:Str} {u:Ae} {pos:Pos} {Q:Ae→Ak→Prop} (I:Inv X pins σ H s) (hg:Gl X x) (hm:X.mg x=none) (hv:bootBuiltins x=some u) (h:Q u s)
  (hn:x≠"__name__":=by decide) (hd:(x == ("__debug__" : Str))=false:=by decide):Bb (model X.prog X.w) X.A (eval (.Name x pos) X.env) Q E s:=by
 obtain⟨mb,h1,h2⟩:=I.mod.blt;exact Ybn I.ok.kind hg (Calls.loadGlobal_builtin (by rw[I.ok.glob]; exact I.mod.glob.keeps I.bk) hm (by rw[I.ok.blt]; exact h1.keeps I.bk) ((h2 x hn).trans hv) h) hd
theorem ZGk {x:Str} {v:V} {u:Ae} {pos:Pos} (hg:Gl X x) (hm:X.mg x=some u) (r:RelV v u) (hd:(x == ("__debug__" : Str))=false:=by decide):PE X (.Name x pos) (tC v):=
 fun _ _ _ H _ I h=>Um I hg hm ⟨v,H,I,r,h⟩ hd
theorem Wt {x:Str} {v:V} {u:Ae} {pos:Pos} (hg:Gl X x) (hm:X.mg x=none) (hv:bootBuiltins x=some u) (r:RelV v u) (hn:x≠"__name__":=by decide) (hd:(x == ("__debug__" : Str))=false:=by decide):PE X (.Name x pos) (tC v):=
 fun _ _ _ H _ I h=>Lf I hg hm hv ⟨v,H,I,r,h⟩ hn hd
variable {a b:Aw} {ta tb:TE} {pos:Pos}
variable {tA tB':TT} {rest:List Aw}
noncomputable abbrev tAnd (t u:TT):TT:=fun σ H Q=>t σ H fun c H1=>if c=true then u σ H1 Q else Q false H1
noncomputable abbrev tOr (t u:TT):TT:=fun σ H Q=>t σ H fun c H1=>if c=true then Q true H1 else u σ H1 Q
noncomputable abbrev tNot (t:TT):TT:=fun σ H Q=>t σ H fun c H1=>Q (!c) H1
theorem GR (ha:PT X a tA):PW X (.BoolOp .And [a] pos) tA:=by
 intro wh pins s σ H Q I h;refine isTrue_and (thn (ha pins s σ H Q I h) fun c s1 e=>?_)
 cases c with
 | true=>exact isTrue_and_nil e
 | false=>exact e
theorem Fy (ha:PT X a tA):PW X (.BoolOp .Or [a] pos) tA:=by
 intro wh pins s σ H Q I h;refine isTrue_or (thn (ha pins s σ H Q I h) fun c s1 e=>?_)
 cases c with
 | false=>exact isTrue_or_nil e
 | true=>exact e
theorem Gf (ha:PT X a tA) (hb:PW X (.BoolOp .And (b::rest) pos) tB'):PW X (.BoolOp .And (a::b::rest) pos) (tAnd tA tB'):=by
 intro wh pins s σ H Q I h;refine isTrue_and (thn (ha pins s σ H _ I h) fun c s1 ⟨H1,I1,q1⟩=>?_)
 cases c with
 | true=>exact hb wh pins s1 σ H1 Q I1 q1
 | false=>exact⟨H1,I1,q1⟩
theorem Fp (ha:PT X a tA) (hb:PW X (.BoolOp .Or (b::rest) pos) tB'):PW X (.BoolOp .Or (a::b::rest) pos) (tOr tA tB'):=by
 intro wh pins s σ H Q I h;refine isTrue_or (thn (ha pins s σ H _ I h) fun c s1 ⟨H1,I1,q1⟩=>?_)
 cases c with
 | true=>exact⟨H1,I1,q1⟩
 | false=>exact hb wh pins s1 σ H1 Q I1 q1
theorem HF (ha:PT X a tA):PT X (.UnaryOp .Not a pos) (tNot tA):=by
 intro pins s σ H Q I h;exact isTrue_not (ha pins s σ H (fun c H1=>Q (!c) H1) I h)
noncomputable abbrev ZJq (ta tb:TE):TE:=fun σ H Q=>ta σ H fun x H1=>∃c,x=.bl c∧if c=true then tb σ H1 Q else Q (.bl false) H1
theorem kh {op} {t:TE} (h:PE X a t):PE X (.BoolOp op [a] pos) t:=fun pins s σ H Q I hw=>BoolOp_one (h pins s σ H Q I hw)
theorem km (ha:PE X a ta) (hb:PE X (.BoolOp .And (b::rest) pos) tb):PE X (.BoolOp .And (a::b::rest) pos) (ZJq ta tb):=by
 intro pins s σ H Q I h;refine BoolOp_and (thn (ha pins s σ H _ I h) fun v s1 h_=>?_);obtain⟨x,H1,I1,r1,q1⟩:=h_;obtain⟨c,rfl,q1⟩:=q1
 cases r1
 refine VG ?_
 cases c with
 | true=>exact hb pins s1 σ H1 Q I1 q1
 | false=>exact⟨.bl false,H1,I1,rfl,q1⟩
noncomputable abbrev tIf (t:TT) (ta tb:TE):TE:=fun σ H Q=>t σ H fun c H1=>if c=true then ta σ H1 Q else tb σ H1 Q
theorem Lg {c:Aw} (hc:PT X c tA) (ha:PE X a ta) (hb:PE X b tb):PE X (.IfExp c a b pos) (tIf tA ta tb):=by
 intro pins s σ H Q I h;refine wpAny_IfExp (thn (hc pins s σ H _ I h) fun d s1 ⟨H1,I1,q1⟩=>?_)
 cases d with
 | true=>exact ha pins s1 σ H1 Q I1 q1
 | false=>exact hb pins s1 σ H1 Q I1 q1
end
end L2
namespace L2
open PySem PySem.Spec PyProof.Rows
def SqL (K:Ao) (H:Hp) (a:Ab) (xs:List V):Prop:=
 Rd H a (.lst xs)∨
  ∃(o:Obj) (its:Array Ae) (n:Nat),K.lookup a=some o∧o.cls=.type "list"∧o.dict=none∧o.data=.seq its n∧its.size≤BW∧Vals xs its.toList
def SqT (K:Ao) (H:Hp) (a:Ab) (xs:List V):Prop:=
 Rd H a (.tup xs)∨
  ∃(o:Obj) (its:Array Ae) (n:Nat),K.lookup a=some o∧o.cls=.type "tuple"∧o.data=.seq its n∧its.size≤BW∧Vals xs its.toList
noncomputable def absV:Ae→Option V
 | .none=>some .non
 | .bool b=>some (.bl b)
 | .int i _=>some (.int i)
 | .str x _=>some (.str x)
 | .bytes b _=>some (.byt b)
 | .float b _=>some (.flt b)
 | .ref a=>some (.ref a)
 | .type n=>some (.ty n)
 | _=>none
theorem RelV.abs {x:V} {u:Ae} (r:RelV x u):absV u=some x:=by
 cases x with
 | non=>cases r; rfl
 | bl _=>cases r; rfl
 | int _=>obtain⟨t,rfl⟩:=r; rfl
 | str _=>obtain⟨t,rfl⟩:=r; rfl
 | byt _=>obtain⟨t,rfl⟩:=r; rfl
 | flt _=>obtain⟨t,rfl⟩:=r; rfl
 | ref _=>cases r; rfl
 | ty _=>cases r; rfl
theorem RelV.inj {x y:V} {u:Ae} (r:RelV x u) (q:RelV y u):x=y:=Dl (r.abs.symm.trans q.abs)
theorem Vals.inj:∀{xs ys:List V} {us:List Ae},Vals xs us→Vals ys us→xs=ys:=by
 intro xs ys us h;induction h generalizing ys with
 | nil=>intro h; cases h; rfl
 | cons r _ ih=>intro h; cases h with
  | cons r' t'=>rw[r.inj r',ih t']
section
variable {X:Cx} {pins:List (Ab×Obj)} {σ:St} {H:Hp} {s:Ak} {a:Ab} {xs ys:List V}
theorem SqL.of {K:Ao} (h:H a=some (.lst xs)):SqL K H a xs:=.inl (.inl h)
theorem SqT.of {K:Ao} (h:H a=some (.tup xs)):SqT K H a xs:=.inl (.inl h)
theorem Inv.list (I:Inv X pins σ H s) (h:SqL X.K H a xs):∃its:List Ae,Vals xs its∧PlainL s.heap a its.toArray∧xs.length≤BW:=by
 rcases h with h | ⟨o,its,n,hk,hc,hd,hs,hz,r⟩
 ·obtain⟨z,its,n,r,e⟩:=h.ok I.hok
  exact⟨its,r,⟨_,n,e,rfl,rfl,rfl⟩,z⟩
 ·refine⟨its.toList,r,⟨o,n,I.kIn a o hk,hc,hd,by simpa using hs⟩,?_⟩
  have e:=r.length;simp only [Hg]at e;omega
theorem Inv.tuple (I:Inv X pins σ H s) (h:SqT X.K H a xs):∃its:List Ae,Vals xs its∧IsTup s.heap a its.toArray∧xs.length≤BW:=by
 rcases h with h | ⟨o,its,n,hk,hc,hs,hz,r⟩
 ·obtain⟨z,its,r,p⟩:=h.ok I.hok
  exact⟨its,r,p.is,z⟩
 ·refine⟨its.toList,r,⟨o,I.kIn a o hk,hc,n,by simpa using hs⟩,?_⟩
  have e:=r.length;simp only [Hg]at e;omega
theorem Inv.list_inj (I:Inv X pins σ H s) (h:SqL X.K H a xs) (h':SqL X.K H a ys):xs=ys:=by
 obtain⟨its,r,⟨o,n,e,_,_,d⟩,_⟩:=I.list h;obtain⟨its',r',⟨o',n',e',_,_,d'⟩,_⟩:=I.list h';rw[e]at e'; cases e';rw[d]at d'
 injection d' with d1 _
 have:its=its':=by simpa using congrArg VH d1
 subst this;exact r.inj r'
theorem Inv.tuple_inj (I:Inv X pins σ H s) (h:SqT X.K H a xs) (h':SqT X.K H a ys):xs=ys:=by
 obtain⟨its,r,⟨o,e,_,n,d⟩,_⟩:=I.tuple h;obtain⟨its',r',⟨o',e',_,n',d'⟩,_⟩:=I.tuple h';rw[e]at e'; cases e';rw[d]at d'
 injection d' with d1 _
 have:its=its':=by simpa using congrArg VH d1
 subst this;exact r.inj r'
end
noncomputable abbrev Cx.wish (X:Cx) (E:Ae→Ak→Prop):Cx:={ X with xe:=E }
noncomputable abbrev Cx.nox (X:Cx):Cx:=X.wish fun _ _=>False
theorem Cx.Ok.wish {X:Cx} (ok:X.Ok) (E:Ae→Ak→Prop):(X.wish E).Ok:=
 ⟨ok.mod,ok.kind,ok.glob,ok.blt,ok.above,ok.inj,ok.has,ok.cab,ok.hd,ok.frames,ok.stk,ok.exf,ok.bs,ok.bsz,ok.noex,ok.exfs,ok.funs,ok.frf⟩
theorem Cx.Ok.unwish {X:Cx} {E:Ae→Ak→Prop} (ok:(X.wish E).Ok):X.Ok:=
 ⟨ok.mod,ok.kind,ok.glob,ok.blt,ok.above,ok.inj,ok.has,ok.cab,ok.hd,ok.frames,ok.stk,ok.exf,ok.bs,ok.bsz,ok.noex,ok.exfs,ok.funs,ok.frf⟩
section
variable {X:Cx} {pins:List (Ab×Obj)} {σ:St} {H:Hp} {s:Ak} {E:Ae→Ak→Prop}
theorem Inv.wish (I:Inv X pins σ H s) (E:Ae→Ak→Prop):Inv (X.wish E) pins σ H s:=⟨I.ok.wish E,I.os,I.bare,I.base,I.loc,I.cell,I.free,I.freeC,I.pin,I.hok,I.len⟩
theorem Inv.unwish (I:Inv (X.wish E) pins σ H s):Inv X pins σ H s:=⟨I.ok.unwish,I.os,I.bare,I.base,I.loc,I.cell,I.free,I.freeC,I.pin,I.hok,I.len⟩
theorem SP.unwish {D:Ends} {f:Flow} {s':Ak} (h:SP (X.wish E) pins D f s'):SP X pins D f s':=by
 cases f with
 | next=>obtain⟨σ',H',I,q⟩:=h; exact⟨σ',H',I.unwish,q⟩
 | brk=>obtain⟨σ',H',I,q⟩:=h; exact⟨σ',H',I.unwish,q⟩
 | cont=>obtain⟨σ',H',I,q⟩:=h; exact⟨σ',H',I.unwish,q⟩
 | ret u=>obtain⟨v,σ',H',I,r,q⟩:=h; exact⟨v,σ',H',I.unwish,r,q⟩
theorem PT.nox {e:Aw} {t:TT} (h:PT X.nox e t):PT X e t:=fun pins s σ H Q I hw=>
 Fv (h pins s σ H Q (I.wish _) hw) (fun _ _ ⟨H',I',q⟩=>⟨H',I'.unwish,q⟩) fun _ _ z=>GJ z
theorem PSs.nox {st:List Ar} {t:TS} (h:PSs X.nox st t):PSs X st t:=fun pins s σ H D I hw=>
 Fv (h pins s σ H D (I.wish _) hw) (fun _ _ q=>q.unwish) fun _ _ z=>GJ z
end
section
variable {X:Cx} {st:Ar} {rest:List Ar} {t u:TS} {e:Aw} {te:TE} {pos:Pos}
noncomputable abbrev ZJv:TS:=fun D σ H=>D.nx σ H
noncomputable def tSeq (t u:TS):TS:=fun D σ H=>t { D with nx:=u D } σ H
theorem Bq:PSs X [] ZJv:=fun _ _ σ H _ I h=>Oc ⟨σ,H,I,h⟩
theorem Ai (h1:PS X st t) (h2:PSs X rest u):PSs X (st::rest) (tSeq t u):=by
 intro pins s σ H D I h;refine TV (thn (h1 pins s σ H { D with nx:=u D } I h) fun f s1 q=>?_)
 cases f with
 | next=>
  obtain⟨σ',H',I',q⟩:=q;exact h2 pins s1 σ' H' D I' q
 | ret v=>exact q
 | brk=>exact q
 | cont=>exact q
theorem Ah (h1:PS X st t):PSs X [st] t:=by
 intro pins s σ H D I h;refine TV (thn (h1 pins s σ H D I h) fun f s1 q=>?_)
 cases f with
 | next=>exact Oc q
 | ret v=>exact q
 | brk=>exact q
 | cont=>exact q
theorem Inv.quiet {pins:List (Ab×Obj)} {σ:St} {H:Hp} {s:Ak} (I:Inv X pins σ H s):interactive X.env=false:=by simp[interactive,I.ok.kind]
noncomputable abbrev lg (te:TE):TS:=fun D σ H=>te σ H fun _ H1=>D.nx σ H1
theorem Dc (he:PE X e te) (hs:swapsWith e none pos.line X.env=pure false:=by rfl):PS X (.Expr e pos) (lg te):=by
 intro pins s σ H D I h;exact wpAny_Expr_any (thn (he pins s σ H _ I h) fun v s1 ⟨x,H1,I1,r1,q1⟩=>⟨σ,H1,I1,q1⟩) I.quiet hs
noncomputable abbrev tRet (te:TE):TS:=fun D σ H=>te σ H D.rt
theorem Av (he:PE X e te):PS X (.Return (some e) pos) (tRet te):=by
 intro pins s σ H D I h;exact Ybo (thn (he pins s σ H _ I h) fun v s1 ⟨x,H1,I1,r1,q1⟩=>⟨x,σ,H1,I1,r1,q1⟩)
noncomputable abbrev tIfS (c:TT) (t u:TS):TS:=fun D σ H=>c σ H fun b H1=>if b=true then t D σ H1 else u D σ H1
theorem Bl {c:Aw} {a b:List Ar} {tc:TT} (hc:PT X c tc) (ha:PSs X a t) (hb:PSs X b u):PS X (.If c a b pos) (tIfS tc t u):=by
 intro pins s σ H D I h;refine wpAny_If (thn (hc pins s σ H _ I h) fun d s1 ⟨H1,I1,q1⟩=>?_)
 cases d with
 | true=>exact ha pins s1 σ H1 D I1 q1
 | false=>exact hb pins s1 σ H1 D I1 q1
noncomputable def ZJu:TS:=fun _ _ _=>False
theorem Gr:PS X st ZJu:=fun _ _ _ _ _ _ h=>h.elim
end
noncomputable abbrev TG:=V→St→Hp→(St→Hp→Prop)→Prop
noncomputable abbrev TGs:=List V→St→Hp→(St→Hp→Prop)→Prop
def PG (X:Cx) (target:Aw) (t:TG):Prop:=
 ∀(pins:List (Ab×Obj)) (s:Ak) (σ:St) (H:Hp) (v:V) (u:Ae) (Q:St→Hp→Prop),Inv X pins σ H s→RelV v u→t v σ H Q→
  Bb (model X.prog X.w) X.A (assign target X.env u) (fun _ s'=>∃σ' H',Inv X pins σ' H' s'∧Q σ' H') X.xe s
def PGs (X:Cx) (ts:List Aw) (t:TGs):Prop:=
 ∀(pins:List (Ab×Obj)) (s:Ak) (σ:St) (H:Hp) (vs:List V) (us:List Ae) (Q:St→Hp→Prop),Inv X pins σ H s→Vals vs us→t vs σ H Q→
  Bb (model X.prog X.w) X.A (assignInOrder ((assignEach ts X.env).map (·.2)) us) (fun _ s'=>∃σ' H',Inv X pins σ' H' s'∧Q σ' H') X.xe s
noncomputable abbrev TSet:=V→V→V→Hp→(Hp→Prop)→Prop
def PSet (X:Cx) (t:TSet):Prop:=
 ∀(pins:List (Ab×Obj)) (s:Ak) (σ:St) (H:Hp) (o i v:V) (ov iv u:Ae) (Q:Hp→Prop),Inv X pins σ H s→RelV o ov→RelV i iv→RelV v u→t o i v H Q→
  Bb (model X.prog X.w) X.A (setItem ov iv u) (fun _ s'=>∃H',Inv X pins σ H' s'∧Q H') X.xe s
section
variable {X:Cx} {pos:Pos}
noncomputable def Ir (i:Nat):TG:=fun v σ H Q=>Q (σ.set i (some v)) H
theorem ZBd {i:Nat} {x:Str} (hN:X.N.Nodup) (hi:X.N[i]?=some x) (hx:Loc X.env.scope x) (hf:X.fn x=true∨X.env.scope.names.lookup x=some .local:=by first | exact .inl rfl | exact .inr rfl | assumption):PG X (.Name x pos) (Ir i):=by
 intro pins s σ H v u Q I r h;exact Yal (ZxQ I hN hi hx r (fun s' I'=>⟨_,H,I',h⟩) hf)
noncomputable def gNil:TGs:=fun vs σ H Q=>vs=[]∧Q σ H
noncomputable def lq (t:TG) (u:TGs):TGs:=fun vs σ H Q=>∃v r,vs=v::r∧t v σ H fun σ' H'=>u r σ' H' Q
theorem Iu:PGs X [] gNil:=by
 intro pins s σ H vs us Q I r h;obtain⟨e,h⟩:=h;subst e
 cases r
 exact assignInOrder_nil ⟨σ,H,I,h⟩
theorem Fb {e:Aw} {es:List Aw} {t:TG} {u:TGs} (h1:PG X e t) (h2:PGs X es u)
  (hs:(assignEach (e::es) X.env).map (·.2)=assign e X.env::(assignEach es X.env).map (·.2):=by rfl):PGs X (e::es) (lq t u):=by
 intro pins s σ H vs us Q I r h;obtain⟨v,vr,e1,h⟩:=h;subst e1
 cases r with
 | cons r rr=>
  rw[hs];refine assignInOrder_cons (thn (h1 pins s σ H _ _ _ I r h) fun _ s1 h_=>?_);obtain⟨σ1,H1,I1,q1⟩:=h_;exact h2 pins s1 σ1 H1 _ _ Q I1 rr q1
noncomputable def gTup (K:Ao) (n:Nat) (t:TGs):TG:=fun v σ H Q=>∃a xs,v=.ref a∧SqT K H a xs∧xs.length=n∧t xs σ H Q
theorem Iv {es:List Aw} {k:Nat} {t:TGs} {n:Nat} (hc:X.calm=true) (h:PGs X es t)
  (hn:(assignEach es X.env).length=n:=by rfl) (hst:(assignEach es X.env).findIdx? (·.1)=none:=by rfl):PG X (.Tuple es k pos) (gTup X.K n t):=by
 intro pins s σ H v u Q I r hw;obtain⟨a,xs,e1,hq,hl,hw⟩:=hw;subst e1
 cases r
 obtain⟨its,rv,ht,hz⟩:=I.tuple hq;refine assign_Tuple_tuple (I.ok.hd hc) ht (by simp[hn,←hl,rv.length]) hst fun h' hx=>?_;have I1:Inv X pins σ H { s with heap:=h' }:=I.kept (t':=s.toks) fun b o e=>hx b o (DQ (CQ e)) e;exact h pins _ σ H xs _ Q I1 (by simpa using rv) hw
noncomputable abbrev gSub (to ti:TE) (t:TSet):TG:=fun v σ H Q=>to σ H fun o H1=>ti σ H1 fun i H2=>t o i v H2 fun H3=>Q σ H3
theorem lr {o i:Aw} {to ti:TE} {t:TSet} (ho:PE X o to) (hi:PE X i ti) (hs:PSet X t)
  (ha:∀v,assign (.Subscript o i pos) X.env v=(do
   let ov ←holding [v] (eval o X.env)
   let iv ←holding [v,ov] (eval i X.env)
   standAt pos
   holding [v,ov,iv] (setItem ov iv v)
   release [v,ov,iv] []):=by intro _; rfl):PG X (.Subscript o i pos) (gSub to ti t):=by
 intro pins s σ H v u Q I r h;rw[ha];refine BP (cz (thn (ho pins s σ H _ I h) fun ov s1 h_=>?_));obtain⟨x,H1,I1,r1,q1⟩:=h_;refine BP (cz (thn (hi pins s1 σ H1 _ I1 q1) fun iv s2 h_=>?_));obtain⟨y,H2,I2,r2,q2⟩:=h_;refine BP (wpAny_standAt (BP (cz (thn (hs pins s2 σ H2 x y v ov iv u _ I2 r1 r2 r q2) fun _ s3 ⟨H3,I3,q3⟩=>?_))));exact wpAny_release ⟨σ,H3,I3,q3⟩
noncomputable abbrev tAsg (te:TE) (g:TG):TS:=fun D σ H=>te σ H fun x H1=>g x σ H1 D.nx
theorem Kr {tg e:Aw} {te:TE} {g:TG} (he:PE X e te) (hg:PG X tg g) (hs:swapsWithSole [tg] e pos.line X.env=pure false:=by rfl) (hw:swappedStores [tg] e X.env=pure none:=by rfl)
  (h1:(assignEach [tg] X.env).map (·.2)=[assign tg X.env]:=by rfl):PS X (.Assign [tg] e pos) (tAsg te g):=by
 intro pins s σ H D I h;refine wpAny_Assign_stores (thn (he pins s σ H _ I h) fun v s1 h_=>?_) hs hw;obtain⟨x,H1,I1,r1,q1⟩:=h_;rw[h1];exact thn (hg pins s1 σ H1 x v _ I1 r1 q1) fun _ s2 q=>q
theorem ZIP {i:Nat} {x:Str} {e:Aw} {te:TE} {pos':Pos} (hN:X.N.Nodup) (hi:X.N[i]?=some x) (hx:Loc X.env.scope x) (he:PE X e te) (hs:swapsWith e (some (.Name x pos')) pos.line X.env=pure false:=by rfl) (hf:X.fn x=true∨X.env.scope.names.lookup x=some .local:=by first | exact .inl rfl | exact .inr rfl | assumption) :
  PS X (.Assign [.Name x pos'] e pos) (tAsg te (Ir i)):=by
 intro pins s σ H D I h;refine Yam (thn (he pins s σ H _ I h) fun v s1 h_=>?_) hs;obtain⟨y,H1,I1,r1,q1⟩:=h_;exact ZxQ I1 hN hi hx r1 (fun s2 I2=>⟨_,H1,I2,q1⟩) hf
end
section
variable {X:Cx} {pos:Pos}
noncomputable def ZJA (c:TT) (tb:TS):TS:=fun D σ H=>∃W:Nat→St→Hp→Prop,(∃m,W m σ H)∧∀m σ H,W m σ H→
 c σ H fun b H1=>if b=true then ∃N:St→Hp→Prop,(∀σ' H',N σ' H'→∃m',m' < m∧W m' σ' H')∧tb { D with nx:=N,ct:=N,bk:=D.nx } σ H1 else D.nx σ H1
theorem lw {c:Aw} {body:List Ar} {tc:TT} {tb:TS} (hp:Yan (model X.prog X.w) X.A X.env X.xe) (hc:PT X c tc) (hb:PSs X body tb):PS X (.While c body [] pos) (ZJA tc tb):=by
 intro pins s σ H D I h;obtain⟨W,⟨m0,w0⟩,turn⟩:=h;refine wpAny_While (codeAny_whileLoop (fun n s'=>∃σ' H',Inv X pins σ' H' s'∧W n σ' H') ?_ m0 ⟨σ,H,I,w0⟩);rintro n s1 ⟨σ1,H1,I1,w1⟩;refine JK hp (thn (hc pins s1 σ1 H1 _ I1 (turn n σ1 H1 w1)) fun b s2 ⟨H2,I2,q2⟩=>?_)
 cases b with
 | true=>
  obtain⟨N,hN,q2⟩:=q2;rw[if_pos rfl];refine JK hp (thn (hb pins s2 σ1 H2 _ I2 q2) fun f s3 q3=>?_)
  cases f with
  | next=>
   obtain⟨σ3,H3,I3,n3⟩:=q3;obtain⟨m',hm,w3⟩:=hN σ3 H3 n3;exact⟨m',hm,σ3,H3,I3,w3⟩
  | cont=>
   obtain⟨σ3,H3,I3,n3⟩:=q3;obtain⟨m',hm,w3⟩:=hN σ3 H3 n3;exact⟨m',hm,σ3,H3,I3,w3⟩
  | brk=>exact q3
  | ret v=>exact q3
 | false=>
  rw[if_neg Dt];exact Oc ⟨σ1,H2,I2,q2⟩
end
structure It where
 go:Nat→Hp→Prop
 yld:Nat→Hp→V→Hp→Prop
 stop:Nat→Hp→Prop
def FpOk (X:Cx) (pins:List (Ab×Obj)) (H:Hp) (b:Ab):Prop:=
 H b=none∧b≠X.env.locals∧b∉X.fs∧(b∈X.ex∨X.s₀.heap.objs.size≤b)∧(∀x c,X.env.cells.lookup x=some c→c≠b)∧∀p∈X.pn++pins,p.1≠b
theorem Inv.fpOk {X:Cx} {pins:List (Ab×Obj)} {σ:St} {H H':Hp} {s:Ak} {b:Ab} (I:Inv X pins σ H s) (hb:s.heap.objs.size≤b) (hn:H' b=none):FpOk X pins H' b:=by
 refine⟨hn,Od (Ez I.lt hb),I.nofs hb,.inr (Ex I.sz hb),fun x c e z=>?_,fun p hp z=>?_⟩
 ·obtain⟨v,q⟩:=I.cell x c e
  exact absurd (Ez q.lt (by rw[z]; exact hb)) (N7 _)
 ·exact absurd (Ez (CQ (I.pin p hp).1) (by rw[z]; exact hb)) (N7 _)
structure Turn (P:Bp) (w:Bg) (K:Ao) (tg:Aw) (J:It) (fp:List Ab) (it:Ab) (tn:Nat→Aq→Prop):Prop where
 mem:it∈fp
 obj:∀i h,tn i h→∀b∈fp,∃o,h.get? b=some o∧∀v,o.data≠.cell v
 keep:∀i h h',tn i h→(∀b∈fp,∀o,h.get? b=some o→h'.get? b=some o)→tn i h'
 item:∀(X:Cx),X.prog=P→X.w=w→X.K=K→X.calm=true→∀(i:Nat) (pins:List (Ab×Obj)) (s:Ak) (σ:St) (H:Hp) (E:Ae→Ak→Prop),Inv X pins σ H s→(∀b∈fp,FpOk X pins H b)→tn i s.heap→J.go i H→
  Bb (model P w) X.A (pyNext (.ref it)) (fun r s1=>∃u,r=some u∧
   Bb (model P w) X.A (letOwnedTupleGo tg (.ref it) u) (fun _ s2=>∃x H',Inv X pins σ H' s2∧RelV x u∧J.yld i H x H'∧tn (i+1) s2.heap∧∀b∈fp,H' b=none) E s1) E s
 done:∀(X:Cx),X.prog=P→X.w=w→X.K=K→X.calm=true→∀(i:Nat) (pins:List (Ab×Obj)) (s:Ak) (σ:St) (H:Hp) (E:Ae→Ak→Prop),Inv X pins σ H s→(∀b∈fp,FpOk X pins H b)→tn i s.heap→J.stop i H→
  Bb (model P w) X.A (pyNext (.ref it)) (fun r s1=>r=none∧Inv X pins σ H s1) E s
 self:∀(A:Cu) (i:Nat) (s:Ak) (Q:Ae→Ak→Prop) (E:Ae→Ak→Prop),tn i s.heap→Q (.ref it) s→Bb (model P w) A (pyIter (.ref it)) Q E s
noncomputable abbrev TI:=St→Hp→(It→Hp→Prop)→Prop
def PIE (X:Cx) (pins:List (Ab×Obj)) (σ:St) (tg:Aw) (R:It→Hp→Prop) (itv:Ae) (s2:Ak):Prop:=
 ∃(it:Ab) (fp:List Ab) (tn:Nat→Aq→Prop) (J:It) (H':Hp),itv=.ref it∧Inv X pins σ H' s2∧Turn X.prog X.w X.K tg J fp it tn∧tn 0 s2.heap∧(∀b∈fp,FpOk X pins H' b)∧R J H'
def PI (X:Cx) (tg iter:Aw) (wi:TI):Prop:=
 ∀(pins:List (Ab×Obj)) (s:Ak) (σ:St) (H:Hp) (R:It→Hp→Prop),Inv X pins σ H s→wi σ H R→
  Bb (model X.prog X.w) X.A (eval iter X.env) (fun v s1=>Bb (model X.prog X.w) X.A (pyIter v) (PIE X pins σ tg R) X.xe s1) X.xe s
theorem Oq {M:Oa} {A:Cu} {E:Ae→Ak→Prop} {s:Ak} {tg:Aw} {it:Ab} {u:Ae} {o:Obj} {n:String} {vs:Array Ae} {Q:Unit→Ak→Prop} (ho:s.heap.get? it=some o) (hc:o.cls=.type n) (hd:o.data=.fields vs)
    (hn:["enumerate","zip","dict_itemiterator","dict_reverseitemiterator","odict_iterator","itertools.zip_longest","itertools.pairwise"].contains n=false) (hQ:Q () s):Bb M A (letOwnedTupleGo tg (.ref it) u) Q E s:=by
  unfold letOwnedTupleGo
  cases tg <;> first
    | exact DK hQ
    | (cases u <;> first
        | exact DK hQ
        | (refine BP (wpAny_load ho ?_)
           rw[hc,hd];show Bb M A (if (["enumerate","zip","dict_itemiterator","dict_reverseitemiterator","odict_iterator","itertools.zip_longest","itertools.pairwise"].contains n && vs[0]? == some (rawInt _))=true then _ else _) Q E s;rw[if_neg (by intro h; rw[hn,Yao]at h; cases h)]
           exact DK hQ))
noncomputable def Itl (K:Ao) (a:Ab):It:=
 ⟨fun i H=>∃xs x,SqL K H a xs∧xs[i]?=some x,fun i H x H'=>H'=H∧∀xs,SqL K H a xs→xs[i]?=some x,fun i H=>∃xs,SqL K H a xs∧xs.length≤i⟩
noncomputable def Itt (K:Ao) (a:Ab):It:=
 ⟨fun i H=>∃xs x,SqT K H a xs∧xs[i]?=some x,fun i H x H'=>H'=H∧∀xs,SqT K H a xs→xs[i]?=some x,fun i H=>∃xs,SqT K H a xs∧xs.length≤i⟩
noncomputable def Itr (lo:Int) (n:Nat):It:=⟨fun i _=>i < n,fun i H x H'=>H'=H∧x=.int (lo+i),fun i _=>n≤i⟩
theorem ZBX {P:Bp} {w:Bg} {K:Ao} {tg:Aw} (a it:Ab):Turn P w K tg (Itl K a) [it] it (fun i h=>h.IsListIter it a i) where
 mem:=by simp
 obj:=fun i h st b hb=>by
  have e:b=it:=by simpa using hb
  subst e;obtain⟨o,e,c,d⟩:=st;exact⟨o,e,fun v z=>by rw[d]at z; cases z⟩
 keep:=fun i h h' st k=>st.at fun o e=>k it (by simp) o e
 item:=by
  intro X hP hw hK hc i pins s σ H E I hf st hg;subst hP hw hK;obtain⟨xs,x,hq,hx⟩:=hg;obtain⟨its,rv,p,hz⟩:=I.list hq;obtain⟨u,hu,ru⟩:=rv.get hx;obtain⟨f0,f1,f2,f3,f4,f5⟩:=hf it (by simp);refine wpAny_pyNext_list_item st p.isList (x:=u) (by simpa using hu) fun h' st' sb=>?_;have I1:Inv X pins σ H { s with heap:=h' }:=I.turned (t':=s.toks) (fun b o hb e=>(sb.2 b hb).trans e) f0 f1 f3 f4 f5;obtain⟨o,e,c,d⟩:=id st';exact⟨u,rfl,Oq (s:={ s with heap:=h' }) e c d (by decide) ⟨x,H,I1,ru,⟨rfl,fun ys hy=>by rw[I.list_inj hy hq]; exact hx⟩,st',fun b hb=>(hf b hb).1⟩⟩
 done:=by
  intro X hP hw hK hc i pins s σ H E I hf st hg;subst hP hw hK;obtain⟨xs,hq,hx⟩:=hg;obtain⟨its,rv,p,hz⟩:=I.list hq;obtain⟨f0,f1,f2,f3,f4,f5⟩:=hf it (by simp);have hl:=rv.length;exact wpAny_pyNext_list_end (I.ok.hd hc) st p.isList (by simp; omega) fun h' eb=>⟨rfl,I.turned (t':=s.toks) (fun b o hb e=>eb b o hb e) f0 f1 f3 f4 f5⟩
 self:=fun _ _ _ _ _ st h=>wpAny_pyIter_listiter st h
theorem Zzb {P:Bp} {w:Bg} {K:Ao} {tg:Aw} (a it:Ab):Turn P w K tg (Itt K a) [it] it (fun i h=>h.IsTupleIter it a i) where
 mem:=by simp
 obj:=fun i h st b hb=>by
  have e:b=it:=by simpa using hb
  subst e;obtain⟨o,e,c,d⟩:=st;exact⟨o,e,fun v z=>by rw[d]at z; cases z⟩
 keep:=fun i h h' st k=>st.at fun o e=>k it (by simp) o e
 item:=by
  intro X hP hw hK hc i pins s σ H E I hf st hg;subst hP hw hK;obtain⟨xs,x,hq,hx⟩:=hg;obtain⟨its,rv,p,hz⟩:=I.tuple hq;obtain⟨u,hu,ru⟩:=rv.get hx;obtain⟨f0,f1,f2,f3,f4,f5⟩:=hf it (by simp);refine wpAny_pyNext_tuple_item st (show s.heap.IsTuple a its.toArray from p) (x:=u) (by simpa using hu) fun h' st' sb=>?_;have I1:Inv X pins σ H { s with heap:=h' }:=I.turned (t':=s.toks) (fun b o hb e=>(sb.2 b hb).trans e) f0 f1 f3 f4 f5;obtain⟨o,e,c,d⟩:=id st';exact⟨u,rfl,Oq (s:={ s with heap:=h' }) e c d (by decide) ⟨x,H,I1,ru,⟨rfl,fun ys hy=>by rw[I.tuple_inj hy hq]; exact hx⟩,st',fun b hb=>(hf b hb).1⟩⟩
 done:=by
  intro X hP hw hK hc i pins s σ H E I hf st hg;subst hP hw hK;obtain⟨xs,hq,hx⟩:=hg;obtain⟨its,rv,p,hz⟩:=I.tuple hq;obtain⟨f0,f1,f2,f3,f4,f5⟩:=hf it (by simp);have hl:=rv.length;exact wpAny_pyNext_tuple_end (I.ok.hd hc) st (show s.heap.IsTuple a its.toArray from p) (by simp; omega) fun h' eb=>⟨rfl,I.turned (t':=s.toks) (fun b o hb e=>eb b o hb e) f0 f1 f3 f4 f5⟩
 self:=fun _ _ _ _ _ st h=>wpAny_pyIter_tupleiter st h
theorem Zza {P:Bp} {w:Bg} {K:Ao} {tg:Aw} (it:Ab) (lo:Int) (n:Nat):Turn P w K tg (Itr lo n) [it] it (fun i h=>IsRangeIter h it (lo+(i:Nat) * 1) ((n:Int) - (i:Nat)) 1) where
 mem:=by simp
 obj:=fun i h st b hb=>by
  have e:b=it:=by simpa using hb
  subst e
  exact⟨_,st,fun v z=>by
   have z':Data.fields _=Data.cell v:=z
   cases z'⟩
 keep:=fun i h h' st k=>k it (by simp) _ st
 item:=by
  intro X hP hw hK hc i pins s σ H E I hf st hg;subst hP hw hK;obtain⟨f0,f1,f2,f3,f4,f5⟩:=hf it (by simp);have W:=Walks.range (prog:=X.prog) (w:=X.w) (I.ok.hd hc) it lo 1 n;refine W.item i s _ _ hg st fun v h' tk hv st' kk=>?_;obtain⟨t,rfl⟩:=hv;have I1:Inv X pins σ H { s with heap:=h',toks:=tk }:=I.turned (fun b o hb e=>kk b o (by simpa using hb) e) f0 f1 f3 f4 f5;refine⟨_,rfl,Oq (s:={ s with heap:=h',toks:=tk }) (n:="range_iterator") st' rfl rfl (by decide) ⟨.int (lo+i),H,I1,⟨t,?_⟩,⟨rfl,rfl⟩,st',fun b hb=>(hf b hb).1⟩⟩;rw[Int.mul_one]
 done:=by
  intro X hP hw hK hc i pins s σ H E I hf st hg;subst hP hw hK;obtain⟨f0,f1,f2,f3,f4,f5⟩:=hf it (by simp);exact wpAny_pyNext_range_end (I.ok.hd hc) st (by have:n≤i:=hg; omega) fun h' eb=>⟨rfl,I.turned (t':=s.toks) (fun b o hb e=>eb b o hb e) f0 f1 f3 f4 f5⟩
 self:=fun _ _ _ _ _ st h=>wpAny_pyIter_rangeiter st h
end L2
namespace L2
open PySem PySem.Spec PyProof.Rows
section
variable {X:Cx} {tg:Aw}
theorem ZxI {pins:List (Ab×Obj)} {σ:St} {H:Hp} {s:Ak} {R:It→Hp→Prop} {E:Ae→Ak→Prop} {lo hi:Int} {t u v:Tok} {tk:Nat} (I:Inv X pins σ H s) (h1 : -(2 ^ 62)≤lo) (h2:lo < 2 ^ 62) (h3 : -(2 ^ 62)≤hi) (h4:hi < 2 ^ 62)
  (q:R (Itr lo (hi - lo).toNat) H):Bb (model X.prog X.w) X.A (pyIter (.ref s.heap.objs.size)) (PIE X pins σ tg R) E { s with heap:=s.heap.push { cls:=.type "range",data:=.fields #[.int lo t,.int hi u,.int 1 v] },toks:=tk }:=by
 refine wpAny_pyIter_range (IsRange.new ..) (small_one h1 h2 h3 h4) ?_;have I1:Inv X pins σ H { s with heap:=s.heap.push { cls:=.type "range",data:=.fields #[.int lo t,.int hi u,.int 1 v] },toks:=tk }:=I.kept fun b o e=>Ek _ e
 refine⟨(s.heap.push { cls:=.type "range",data:=.fields #[.int lo t,.int hi u,.int 1 v] }).objs.size,[(s.heap.push { cls:=.type "range",data:=.fields #[.int lo t,.int hi u,.int 1 v] }).objs.size],_,_,H,rfl,
  I1.kept (t':=tk) fun b o e=>Ek _ e,Zza _ lo (hi - lo).toNat,?_,fun b hb=>?_,q⟩
 ·have e1:lo+((0:Nat):Int) * 1=lo:=by simp
  have e2:(((hi - lo).toNat:Nat):Int) - ((0:Nat):Int)=YcO lo hi 1:=by rw[rangeSize_one]; split <;> omega
  show IsRangeIter _ _ (lo+((0:Nat):Int) * 1) ((((hi - lo).toNat:Nat):Int) - ((0:Nat):Int)) 1;rw[e1,e2];exact FZ _ rfl
 ·have e:b=(s.heap.push { cls:=.type "range",data:=.fields #[.int lo t,.int hi u,.int 1 v] }).objs.size:=by simpa using hb
  subst e;exact I1.fpOk (Bv _) (I1.hok.fresh (Bv _))
noncomputable def lz (ta:TA):TI:=fun σ H R=>ta σ H fun vs H1=>∃j:Int,vs=[.int j]∧-(2 ^ 62)≤j∧j < 2 ^ 62∧R (Itr 0 j.toNat) H1
noncomputable def ZHA (ta:TA):TI:=fun σ H R=>ta σ H fun vs H1=>∃i j:Int,vs=[.int i,.int j]∧(-(2 ^ 62)≤i∧i < 2 ^ 62∧-(2 ^ 62)≤j∧j < 2 ^ 62)∧R (Itr i (j - i).toNat) H1
theorem Hn {a:Aw} {ta:TA} {p pos:Pos} (hg:Gl X "range") (hm:X.mg "range" = none) (ha:PA X [a] ta) (hs:BX [a] X.env=[(false,eval a X.env)]:=by rfl):PI X tg (.Call (.Name "range" p) [a] [] pos) (lz ta):=by
 intro pins s σ H R I h;refine Call_ (Lf I hg hm boot_range (VJ (thn (ha pos pins s σ H _ I h) fun us s1 h_=>?_) hs rfl));obtain⟨vs,H1,I1,r1,q1⟩:=h_;obtain⟨j,e,q1,q2,q⟩:=q1;subst e
 cases r1 with
 | cons r rr=>
  cases rr
  obtain⟨t,rfl⟩:=r;exact call_range_1 (ZxI I1 (by omega) (by omega) q1 q2 (by simpa using q))
theorem mj {a b:Aw} {ta:TA} {p pos:Pos} (hg:Gl X "range") (hm:X.mg "range" = none) (ha:PA X [a,b] ta) (hs:BX [a,b] X.env=[(false,eval a X.env),(false,eval b X.env)]:=by rfl) (hs2:BX [b] X.env=[(false,eval b X.env)]:=by rfl) :
  PI X tg (.Call (.Name "range" p) [a,b] [] pos) (ZHA ta):=by
 intro pins s σ H R I h;refine Call_ (Lf I hg hm boot_range (VJ (thn (ha pos pins s σ H _ I h) fun us s1 ⟨vs,H1,I1,r1,q1⟩=>?_) (by rw[hs,hs2]) (by rw[hs2]; rfl)));obtain⟨i,j,e,⟨q1,q2,q3,q4⟩,q⟩:=q1;subst e
 cases r1 with
 | cons r rr=>
  cases rr with
  | cons r' rr=>
   cases rr
   obtain⟨t,rfl⟩:=r;obtain⟨t',rfl⟩:=r';exact call_range_2 (ZxI I1 q1 q2 q3 q4 q)
noncomputable def tFor (wi:TI) (g:TG) (tb:TS):TS:=fun D σ H=>wi σ H fun J H1=>∃W:Nat→Nat→St→Hp→Prop,(∃m,W 0 m σ H1)∧∀i m σ H,W i m σ H→
 (J.stop i H∧D.nx σ H)∨(J.go i H∧∃N:St→Hp→Prop,(∀σ' H',N σ' H'→∃m',m' < m∧W (i+1) m' σ' H')∧∀x H',J.yld i H x H'→g x σ H' fun σ2 H2=>tb { D with nx:=N,ct:=N,bk:=D.nx } σ2 H2)
noncomputable def Uo (fp:List Ab) (h:Aq):List (Ab×Obj):=fp.filterMap fun b=>(h.get? b).map fun o=>(b,o)
theorem Up {fp:List Ab} {h:Aq} {b:Ab} {o:Obj} (hb:b∈fp) (e:h.get? b=some o):(b,o)∈Uo fp h:=Yap.mpr ⟨b,hb,by rw[e]; rfl⟩
theorem ZAR {fp:List Ab} {h:Aq} {p:Ab×Obj} (hp:p∈Uo fp h):p.1∈fp∧h.get? p.1=some p.2:=by
 obtain⟨b,hb,e⟩:=Yap.mp hp
 cases q:h.get? b with
 | none=>rw[q]at e; cases e
 | some o=>
  rw[q]at e;have e':(b,o)=p:=Dl e;subst e';exact⟨hb,q⟩
theorem Inv.pinned {pins:List (Ab×Obj)} {σ:St} {H:Hp} {s:Ak} {fp:List Ab} (I:Inv X pins σ H s) (hf:∀b∈fp,FpOk X pins H b) (ho:∀b∈fp,∃o,s.heap.get? b=some o∧∀v,o.data≠.cell v):Inv X (pins++Uo fp s.heap) σ H s:=
 I.pins_of fun p hp=>(Er.mp hp).elim (fun z=>I.pin p (Hu _ z)) fun z=>by
  obtain⟨hb,e⟩:=ZAR z;obtain⟨f0,f1,f2,_⟩:=hf p.1 hb;obtain⟨o,e',d⟩:=ho p.1 hb;rw[e]at e'; cases e';exact⟨e,f0,f1,f2,d⟩
theorem Inv.unpinned {pins pl:List (Ab×Obj)} {σ:St} {H:Hp} {s:Ak} (I:Inv X (pins++pl) σ H s):Inv X pins σ H s:=I.pins_of fun p hp=>I.pin p (Hu _ (Yag _ hp))
theorem Dd {iter:Aw} {body:List Ar} {wi:TI} {g:TG} {tb:TS} {pos:Pos} (hp:Yan (model X.prog X.w) X.A X.env X.xe) (hc:X.calm=true) (hi:PI X tg iter wi) (hg:PG X tg g) (hb:PSs X body tb)
  (hs:∀x,foldedSetIterable iter X.env x=pure x:=by intro _; rfl):PS X (.For tg iter body [] pos) (tFor wi g tb):=by
 intro pins s σ H D I h;refine wpAny_For (thn (hi pins s σ H _ I h) fun v s1 h1=>thn h1 fun itv s2 h2=>?_) hs;obtain⟨it,fp,tn,J,H2,e,I2,T,st2,f2,W,⟨m0,w0⟩,turn⟩:=h2;subst e;have stat:∀{H':Hp},(∀b∈fp,H' b=none)→∀b∈fp,FpOk X pins H' b:=fun hn b hb=>⟨hn b hb,(f2 b hb).2⟩;refine Ybp (fun n s'=>∃i σ' H',Inv X pins σ' H' s'∧tn i s'.heap∧(∀b∈fp,H' b=none)∧W i n σ' H') ?_ m0 ⟨0,σ,H2,I2,st2,fun b hb=>(f2 b hb).1,w0⟩;rintro n s3 ⟨i,σ3,H3,I3,st3,fr3,w3⟩
 rcases turn i n σ3 H3 w3 with⟨stop,qn⟩ | ⟨go,N,hN,step⟩
 ·refine JK hp (thn (T.done X rfl rfl rfl hc i pins s3 σ3 H3 X.xe I3 (stat fr3) st3 stop) fun r s4 ⟨hr,I4⟩=>?_)
  subst hr;exact Oc ⟨σ3,H3,I4,qn⟩
 ·refine JK hp (thn (T.item X rfl rfl rfl hc i pins s3 σ3 H3 X.xe I3 (stat fr3) st3 go) fun r s4 ⟨u,hr,h4⟩=>?_)
  subst hr;refine JK hp (thn h4 fun _ s5 ⟨x,H5,I5,r5,y5,st5,fr5⟩=>?_);have I5':=I5.pinned (stat fr5) (T.obj _ _ st5);refine JK hp (thn (hg _ s5 σ3 H5 x u _ I5' r5 (step x H5 y5)) fun _ s6 ⟨σ6,H6,I6,q6⟩=>?_);refine JK hp (thn (hb _ s6 σ6 H6 _ I6 q6) fun f s7 q7=>?_)
  have again:∀{σ7:St} {H7:Hp},Inv X (pins++Uo fp s5.heap) σ7 H7 s7→N σ7 H7→∃m,m < n∧∃i σ' H',Inv X pins σ' H' s7∧tn i s7.heap∧(∀b∈fp,H' b=none)∧W i m σ' H':=fun {σ7 H7} I7 n7=>by
   obtain⟨m',hm,w7⟩:=hN σ7 H7 n7;refine⟨m',hm,i+1,σ7,H7,I7.unpinned,T.keep _ _ _ st5 fun b hb o e=>(I7.pin (b,o) (Hu _ (Hu _ (Up hb e)))).1,fun b hb=>?_,w7⟩;obtain⟨o,e,d⟩:=T.obj _ _ st5 b hb;exact(I7.pin (b,o) (Hu _ (Hu _ (Up hb e)))).2.1
  cases f with
  | next=>obtain⟨σ7,H7,I7,n7⟩:=q7; exact again I7 n7
  | cont=>obtain⟨σ7,H7,I7,n7⟩:=q7; exact again I7 n7
  | brk=>obtain⟨σ7,H7,I7,q7⟩:=q7; exact⟨σ7,H7,I7.unpinned,q7⟩
  | ret v=>obtain⟨x7,σ7,H7,I7,r7,q7⟩:=q7; exact⟨x7,σ7,H7,I7.unpinned,r7,q7⟩
end
theorem ZCw {K:Ao} {a:Ab} {xs:List V} {g:TG} {tb:TS} {D:Ends} {σ:St} {H:Hp} (Pv:Nat→St→Hp→Prop) (h0:Pv 0 σ H) (hl:∀i σ H,i≤xs.length→Pv i σ H→SqL K H a xs)
  (hs:∀i x σ H,xs[i]?=some x→Pv i σ H→g x σ H fun σ2 H2=>tb { D with nx:=Pv (i+1),ct:=Pv (i+1),bk:=D.nx } σ2 H2) (hd:∀σ H,Pv xs.length σ H→D.nx σ H) :
  ∃W:Nat→Nat→St→Hp→Prop,(∃m,W 0 m σ H)∧∀i m σ H,W i m σ H→
   ((Itl K a).stop i H∧D.nx σ H)∨((Itl K a).go i H∧∃N:St→Hp→Prop,(∀σ' H',N σ' H'→∃m',m' < m∧W (i+1) m' σ' H')∧∀x H',(Itl K a).yld i H x H'→g x σ H' fun σ2 H2=>tb { D with nx:=N,ct:=N,bk:=D.nx } σ2 H2):=by
 refine⟨fun i m σ H=>m=xs.length - i∧i≤xs.length∧Pv i σ H,⟨xs.length,by simp,De _,h0⟩,?_⟩;rintro i m σ H ⟨rfl,hi,p⟩;have q:=hl i σ H hi p
 by_cases hlt:i < xs.length
 ·refine .inr ⟨⟨xs,xs[i],q,by simp[hlt]⟩,Pv (i+1),fun σ' H' p'=>⟨xs.length - (i+1),by omega,rfl,hlt,p'⟩,fun x H' y=>?_⟩
  obtain⟨e,y⟩:=y;subst e;exact hs i x σ _ (y xs q) p
 ·have e:i=xs.length:=by omega
  subst e;exact .inl ⟨⟨xs,q,Bv _⟩,hd σ H p⟩
theorem ZFh {K:Ao} {a:Ab} {xs:List V} {g:TG} {tb:TS} {D:Ends} {σ:St} {H:Hp} (Pv:Nat→St→Hp→Prop) (h0:Pv 0 σ H) (hl:∀i σ H,i≤xs.length→Pv i σ H→SqT K H a xs)
  (hs:∀i x σ H,xs[i]?=some x→Pv i σ H→g x σ H fun σ2 H2=>tb { D with nx:=Pv (i+1),ct:=Pv (i+1),bk:=D.nx } σ2 H2) (hd:∀σ H,Pv xs.length σ H→D.nx σ H) :
  ∃W:Nat→Nat→St→Hp→Prop,(∃m,W 0 m σ H)∧∀i m σ H,W i m σ H→
   ((Itt K a).stop i H∧D.nx σ H)∨((Itt K a).go i H∧∃N:St→Hp→Prop,(∀σ' H',N σ' H'→∃m',m' < m∧W (i+1) m' σ' H')∧∀x H',(Itt K a).yld i H x H'→g x σ H' fun σ2 H2=>tb { D with nx:=N,ct:=N,bk:=D.nx } σ2 H2):=by
 refine⟨fun i m σ H=>m=xs.length - i∧i≤xs.length∧Pv i σ H,⟨xs.length,by simp,De _,h0⟩,?_⟩;rintro i m σ H ⟨rfl,hi,p⟩;have q:=hl i σ H hi p
 by_cases hlt:i < xs.length
 ·refine .inr ⟨⟨xs,xs[i],q,by simp[hlt]⟩,Pv (i+1),fun σ' H' p'=>⟨xs.length - (i+1),by omega,rfl,hlt,p'⟩,fun x H' y=>?_⟩
  obtain⟨e,y⟩:=y;subst e;exact hs i x σ _ (y xs q) p
 ·have e:i=xs.length:=by omega
  subst e;exact .inl ⟨⟨xs,q,Bv _⟩,hd σ H p⟩
theorem Uq {lo:Int} {n:Nat} {g:TG} {tb:TS} {D:Ends} {σ:St} {H:Hp} (Pv:Nat→St→Hp→Prop) (h0:Pv 0 σ H)
  (hs:∀i σ H,i < n→Pv i σ H→g (.int (lo+i)) σ H fun σ2 H2=>tb { D with nx:=Pv (i+1),ct:=Pv (i+1),bk:=D.nx } σ2 H2) (hd:∀σ H,Pv n σ H→D.nx σ H) :
  ∃W:Nat→Nat→St→Hp→Prop,(∃m,W 0 m σ H)∧∀i m σ H,W i m σ H→
   ((Itr lo n).stop i H∧D.nx σ H)∨((Itr lo n).go i H∧∃N:St→Hp→Prop,(∀σ' H',N σ' H'→∃m',m' < m∧W (i+1) m' σ' H')∧∀x H',(Itr lo n).yld i H x H'→g x σ H' fun σ2 H2=>tb { D with nx:=N,ct:=N,bk:=D.nx } σ2 H2):=by
 refine⟨fun i m σ H=>m=n - i∧i≤n∧Pv i σ H,⟨n,by simp,De _,h0⟩,?_⟩;rintro i m σ H ⟨rfl,hi,p⟩
 by_cases hlt:i < n
 ·refine .inr ⟨hlt,Pv (i+1),fun σ' H' p'=>⟨n - (i+1),by omega,rfl,hlt,p'⟩,fun x H' y=>?_⟩
  obtain⟨e,y⟩:=y;subst e y;exact hs i σ _ hlt p
 ·have e:i=n:=by omega
  subst e;exact .inl ⟨Bv _,hd σ H p⟩
end L2
namespace L2
open PySem PySem.Spec PyProof.Rows
noncomputable abbrev R2:=V→V→Hp→VK→Prop
def OpR (X:Cx) (f:Ae→Ae→Sem Ae) (r:R2):Prop:=
 ∀(pins:List (Ab×Obj)) (s:Ak) (σ:St) (H:Hp) (x y:V) (v u:Ae) (Q:VK),Inv X pins σ H s→RelV x v→RelV y u→r x y H Q→
  Bb (model X.prog X.w) X.A (f v u) (EP X pins σ Q) X.xe s
def UnR (X:Cx) (f:Ae→Sem Ae) (r:V→Hp→VK→Prop):Prop:=
 ∀(pins:List (Ab×Obj)) (s:Ak) (σ:St) (H:Hp) (x:V) (v:Ae) (Q:VK),Inv X pins σ H s→RelV x v→r x H Q→
  Bb (model X.prog X.w) X.A (f v) (EP X pins σ Q) X.xe s
def Gy (X:Cx) (f:Ae) (r:List V→Hp→VK→Prop):Prop:=
 ∀(pins:List (Ab×Obj)) (s:Ak) (σ:St) (H:Hp) (xs:List V) (us:List Ae) (Q:VK),Inv X pins σ H s→Vals xs us→r xs H Q→
  Bb (model X.prog X.w) X.A (call f us) (EP X pins σ Q) X.xe s
def TruR (X:Cx) (r:V→Hp→(Bool→Hp→Prop)→Prop):Prop:=
 ∀(pins:List (Ab×Obj)) (s:Ak) (σ:St) (H:Hp) (x:V) (v:Ae) (Q:Bool→Hp→Prop),Inv X pins σ H s→RelV x v→r x H Q→
  Bb (model X.prog X.w) X.A (truthy v) (TP X pins σ Q) X.xe s
noncomputable abbrev tOp (r:R2) (ta tb:TE):TE:=fun σ H Q=>ta σ H fun x H1=>tb σ H1 fun y H2=>r x y H2 Q
noncomputable abbrev tUn (r:V→Hp→VK→Prop) (ta:TE):TE:=fun σ H Q=>ta σ H fun x H1=>r x H1 Q
noncomputable def rI (C:Int→Int→Prop) (g:Int→Int→V):R2:=fun x y H Q=>∃i j,x=.int i∧y=.int j∧C i j∧Q (g i j) H
noncomputable def rI0 (g:Int→Int→V):R2:=fun x y H Q=>∃i j,x=.int i∧y=.int j∧Q (g i j) H
noncomputable def rU (g:Int→V):V→Hp→VK→Prop:=fun x H Q=>∃i,x=.int i∧Q (g i) H
section
variable {X:Cx} {a b c:Aw} {ta tb tc:TE} {pos:Pos}
theorem binT (ha:PE X a ta) (hb:PE X b tb) {pins:List (Ab×Obj)} {s:Ak} {σ:St} {H:Hp} {R:V→V→Hp→Prop} (I:Inv X pins σ H s)
  (h:ta σ H fun x H1=>tb σ H1 fun y H2=>R x y H2) {Q:Ae→Ak→Prop} {f:Ae→Ae→Sem Ae}
  (hf:∀v u s2 x y H2,Inv X pins σ H2 s2→RelV x v→RelV y u→R x y H2→Bb (model X.prog X.w) X.A (f v u) Q X.xe s2) :
  Bb (model X.prog X.w) X.A (eval a X.env) (fun v s₁=>Bb (model X.prog X.w) X.A (eval b X.env) (fun u s₂=>Bb (model X.prog X.w) X.A (f v u) Q X.xe s₂) X.xe s₁) X.xe s:=by
 refine thn (ha pins s σ H _ I h) fun v s1 h_=>?_;obtain⟨x,H1,I1,r1,q1⟩:=h_;refine thn (hb pins s1 σ H1 _ I1 q1) fun u s2 h_=>?_;obtain⟨y,H2,I2,r2,q2⟩:=h_;exact hf v u s2 x y H2 I2 r1 r2 q2
theorem Aj {op:Operator} {r:R2} (ho:OpR X (binaryOp op) r) (ha:PE X a ta) (hb:PE X b tb):PE X (.BinOp a op b pos) (tOp r ta tb):=by
 intro pins s σ H Q I h;exact wpAny_BinOp (binT ha hb I h fun v u s2 x y H2 I2 rx ry q=>ho pins s2 σ H2 x y v u Q I2 rx ry q)
theorem JT {op:UnaryOp} {r:V→Hp→VK→Prop} (ho:UnR X (unaryOp op) r) (ha:PE X a ta):PE X (.UnaryOp op a pos) (tUn r ta):=by
 intro pins s σ H Q I h;exact UnaryOp_ (thn (ha pins s σ H _ I h) fun v s1 ⟨x,H1,I1,r1,q1⟩=>ho pins s1 σ H1 x v Q I1 r1 q1)
theorem opI {f:Ae→Ae→Sem Ae} {C:Int→Int→Prop} {g:Int→Int→Int}
  (rule:∀(i j:Int) (t u:Tok) (s:Ak) (Q:Ae→Ak→Prop) (E:Ae→Ak→Prop),C i j→Q (.int (g i j) s.toks) { s with toks:=s.toks+1 }→Bb (model X.prog X.w) X.A (f (.int i t) (.int j u)) Q E s) :
  OpR X f (rI C fun i j=>.int (g i j)):=by
 intro pins s σ H x y v u Q I rx ry h;obtain⟨i,j,rfl,rfl,hc,q⟩:=h;obtain⟨t,rfl⟩:=rx;obtain⟨t',rfl⟩:=ry;exact rule i j t t' s _ _ hc ⟨.int (g i j),H,I.tok _,⟨_,rfl⟩,q⟩
theorem opI0 {f:Ae→Ae→Sem Ae} {g:Int→Int→Int}
  (rule:∀(i j:Int) (t u:Tok) (s:Ak) (Q:Ae→Ak→Prop) (E:Ae→Ak→Prop),Q (.int (g i j) s.toks) { s with toks:=s.toks+1 }→Bb (model X.prog X.w) X.A (f (.int i t) (.int j u)) Q E s) :
  OpR X f (rI0 fun i j=>.int (g i j)):=by
 intro pins s σ H x y v u Q I rx ry h;obtain⟨i,j,rfl,rfl,q⟩:=h;obtain⟨t,rfl⟩:=rx;obtain⟨t',rfl⟩:=ry;exact rule i j t t' s _ _ ⟨.int (g i j),H,I.tok _,⟨_,rfl⟩,q⟩
theorem opB0 {f:Ae→Ae→Sem Ae} {g:Int→Int→Bool}
  (rule:∀(i j:Int) (t u:Tok) (s:Ak) (Q:Ae→Ak→Prop) (E:Ae→Ak→Prop),Q (.bool (g i j)) s→Bb (model X.prog X.w) X.A (f (.int i t) (.int j u)) Q E s) :
  OpR X f (rI0 fun i j=>.bl (g i j)):=by
 intro pins s σ H x y v u Q I rx ry h;obtain⟨i,j,rfl,rfl,q⟩:=h;obtain⟨t,rfl⟩:=rx;obtain⟨t',rfl⟩:=ry;exact rule i j t t' s _ _ ⟨.bl (g i j),H,I,rfl,q⟩
def CPow (i j:Int):Prop:=0≤j∧j≤1000000∧i.natAbs < 2 ^ 64
def CMul (i j:Int):Prop:=(-(2 ^ 64) < i∧i < 2 ^ 64)∨(-(2 ^ 64) < j∧j < 2 ^ 64)
theorem CMul.ok {i j:Int} (h:CMul i j):IntMulOk i j:=by
 rcases h with⟨h1,h2⟩ | ⟨h1,h2⟩
 ·exact .of_left (intBits_le_64 h1 h2)
 ·exact .of_right (intBits_le_64 h1 h2)
theorem Zzc (k:Nat):(0:Int)≤2 ^ k:=by
 rw[two_pow_cast];exact dg _
theorem ZIv:OpR X (binaryOp .Add) (rI0 fun i j=>.int (i+j)):=opI0 fun _ _ _ _ _ _ _ q=>add_int q
theorem Fq:OpR X (binaryOp .Sub) (rI0 fun i j=>.int (i - j)):=opI0 fun _ _ _ _ _ _ _ q=>sub_int q
theorem ZIz:OpR X (binaryOp .Mult) (rI CMul fun i j=>.int (i * j)):=opI fun _ _ _ _ _ _ _ hc q=>mul_int q hc.ok
theorem Cv:OpR X (binaryOp .Mod) (rI (fun _ j=>0 < j) fun i j=>.int (i % j)):=opI fun i j _ _ _ _ _ hc q=>by
 have h1:(0:Int) < j:=hc;exact mod_int' (by omega) (by rw[Int.fmod_eq_emod_of_nonneg i (by omega)]; exact q)
theorem JV:OpR X (binaryOp .LShift) (rI CPow fun i j=>.int (i * 2 ^ j.toNat)):=opI fun _ _ _ _ _ _ _ hc q=>lshift_int_small hc.1 hc.2.1 hc.2.2 q
theorem ZEG:OpR X (binaryOp .RShift) (rI (fun _ j=>0≤j) fun i j=>.int (i / 2 ^ j.toNat)):=opI fun i j _ _ _ _ _ hc q=>
 rshift_int hc (by rw[Ybq i (Zzc _)]; exact q)
theorem Ur:OpR X (binaryOp .BitAnd) (rI0 fun i j=>.int (Jh i j)):=opI0 fun _ _ _ _ _ _ _ q=>and_int q
theorem Ks:OpR X (binaryOp .BitOr) (rI0 fun i j=>.int (dh i j)):=opI0 fun _ _ _ _ _ _ _ q=>or_int q
theorem ZEH:OpR X (binaryOp .BitXor) (rI0 fun i j=>.int (Ybr i j)):=opI0 fun _ _ _ _ _ _ _ q=>xor_int q
theorem unI {f:Ae→Sem Ae} {g:Int→Int}
  (rule:∀(i:Int) (t:Tok) (s:Ak) (Q:Ae→Ak→Prop) (E:Ae→Ak→Prop),Q (.int (g i) s.toks) { s with toks:=s.toks+1 }→Bb (model X.prog X.w) X.A (f (.int i t)) Q E s) :
  UnR X f (rU fun i=>.int (g i)):=by
 intro pins s σ H x v Q I rx h;obtain⟨i,rfl,q⟩:=h;obtain⟨t,rfl⟩:=rx;exact rule i t s _ _ ⟨.int (g i),H,I.tok _,⟨_,rfl⟩,q⟩
theorem Lh:UnR X (unaryOp .USub) (rU fun i=>.int (-i)):=unI fun _ _ _ _ _ q=>neg_int q
theorem ZER:UnR X (unaryOp .Invert) (rU fun i=>.int (Ji i)):=unI fun _ _ _ _ _ q=>invert_int q
end
noncomputable def scal:V→V→Bool
 | .non,.non=>true | .non,.int _=>true | .int _,.non=>true | .non,.bl _=>true | .bl _,.non=>true | .non,.str _=>true | .str _,.non=>true
 | .int _,.int _=>true | .bl _,.bl _=>true | .str _,.str _=>true | .byt _,.byt _=>true
 | .int _,.str _=>true | .str _,.int _=>true | .bl _,.str _=>true | .str _,.bl _=>true
 | _,_=>false
noncomputable def rEq:R2:=fun x y H Q=>scal x y=true∧Q (.bl (decide (x=y))) H
noncomputable def rNe:R2:=fun x y H Q=>scal x y=true∧Q (.bl (!decide (x=y))) H
theorem ZzQ {i j:Int}:decide (V.int i=V.int j)=(i == j):=by
 rw[VL];simp
theorem ZDU {i j:Bool}:decide (V.bl i=V.bl j)=(i == j):=by
 rw[VL];simp
theorem ZzR {i j:Str}:decide (V.str i=V.str j)=(i == j):=by
 rw[VL];simp
theorem ZzP {i j:Array UInt8}:decide (V.byt i=V.byt j)=(i.toList == j.toList):=by
 rw[VL]
 cases i
 cases j
 simp
section
variable {X:Cx} {a b c:Aw} {ta tb tc:TE} {pos:Pos}
theorem Dw {pins:List (Ab×Obj)} {σ:St} {H:Hp} {s:Ak} {Q:VK} {k k':Bool} (I:Inv X pins σ H s) (q:Q (.bl k) H) (e:k=k'):EP X pins σ Q (.bool k') s:=by
 subst e;exact⟨.bl k,H,I,rfl,q⟩
theorem ZJ3:OpR X (compareOp .Eq) rEq:=by
 intro pins s σ H x y v u Q I rx ry h;obtain⟨hs,q⟩:=h
 cases x with
 | non=>
  cases rx
  cases y with
  | non=>cases ry; exact YcP (Dw I q (by simp))
  | bl j=>cases ry; exact YcQ (Dw I q (by simp))
  | int j=>obtain⟨t',rfl⟩:=ry; exact YcR (Dw I q (by simp))
  | str j=>obtain⟨t',rfl⟩:=ry; exact YcS (Dw I q (by simp))
  | _=>exact absurd (show false=true from hs) Dt
 | bl i=>
  cases rx
  cases y with
  | non=>cases ry; exact YcT (Dw I q (by simp))
  | bl j=>cases ry; exact eq_bool (Dw I q ZDU)
  | str j=>obtain⟨t',rfl⟩:=ry; exact YcU (Dw I q (by simp))
  | _=>exact absurd (show false=true from hs) Dt
 | int i=>
  obtain⟨t,rfl⟩:=rx
  cases y with
  | non=>cases ry; exact YcV (Dw I q (by simp))
  | int j=>obtain⟨t',rfl⟩:=ry; exact eq_int (Dw I q ZzQ)
  | str j=>obtain⟨t',rfl⟩:=ry; exact YcW (Dw I q (by simp))
  | _=>exact absurd (show false=true from hs) Dt
 | str i=>
  obtain⟨t,rfl⟩:=rx
  cases y with
  | non=>cases ry; exact YcX (Dw I q (by simp))
  | bl j=>cases ry; exact YcY (Dw I q (by simp))
  | int j=>obtain⟨t',rfl⟩:=ry; exact YcZ (Dw I q (by simp))
  | str j=>obtain⟨t',rfl⟩:=ry; exact eq_str (Dw I q ZzR)
  | _=>exact absurd (show false=true from hs) Dt
 | byt i=>
  obtain⟨t,rfl⟩:=rx
  cases y with
  | byt j=>obtain⟨t',rfl⟩:=ry; exact PySem.W.eq_bytes (Dw I q ZzP)
  | _=>exact absurd (show false=true from hs) Dt
 | _=>cases y <;> exact absurd (show false=true from hs) Dt
theorem ZJ4:OpR X (compareOp .NotEq) rNe:=by
 intro pins s σ H x y v u Q I rx ry h;obtain⟨hs,q⟩:=h
 cases x with
 | non=>
  cases rx
  cases y with
  | non=>cases ry; exact Yc0 (Dw I q (by simp))
  | bl j=>cases ry; exact Yc1 (Dw I q (by simp))
  | int j=>obtain⟨t',rfl⟩:=ry; exact Yc2 (Dw I q (by simp))
  | str j=>obtain⟨t',rfl⟩:=ry; exact Yc3 (Dw I q (by simp))
  | _=>exact absurd (show false=true from hs) Dt
 | bl i=>
  cases rx
  cases y with
  | non=>cases ry; exact Yc4 (Dw I q (by simp))
  | bl j=>cases ry; exact ne_bool (Dw I q (congrArg not ZDU))
  | str j=>obtain⟨t',rfl⟩:=ry; exact Yc5 (Dw I q (by simp))
  | _=>exact absurd (show false=true from hs) Dt
 | int i=>
  obtain⟨t,rfl⟩:=rx
  cases y with
  | non=>cases ry; exact Yc6 (Dw I q (by simp))
  | int j=>obtain⟨t',rfl⟩:=ry; exact ne_int (Dw I q (congrArg not ZzQ))
  | str j=>obtain⟨t',rfl⟩:=ry; exact Yc7 (Dw I q (by simp))
  | _=>exact absurd (show false=true from hs) Dt
 | str i=>
  obtain⟨t,rfl⟩:=rx
  cases y with
  | non=>cases ry; exact Yc8 (Dw I q (by simp))
  | bl j=>cases ry; exact Yc9 (Dw I q (by simp))
  | int j=>obtain⟨t',rfl⟩:=ry; exact Yda (Dw I q (by simp))
  | str j=>obtain⟨t',rfl⟩:=ry; exact ne_str (Dw I q (congrArg not ZzR))
  | _=>exact absurd (show false=true from hs) Dt
 | byt i=>
  obtain⟨t,rfl⟩:=rx
  cases y with
  | byt j=>obtain⟨t',rfl⟩:=ry; exact PySem.W.ne_bytes (Dw I q (congrArg not ZzP))
  | _=>exact absurd (show false=true from hs) Dt
 | _=>cases y <;> exact absurd (show false=true from hs) Dt
theorem Jo:OpR X (compareOp .Lt) (rI0 fun i j=>.bl (decide (i < j))):=opB0 fun _ _ _ _ _ _ _ q=>lt_int q
theorem ZIy:OpR X (compareOp .LtE) (rI0 fun i j=>.bl (decide (i≤j))):=opB0 fun _ _ _ _ _ _ _ q=>le_int q
theorem Iw:OpR X (compareOp .Gt) (rI0 fun i j=>.bl (decide (j < i))):=opB0 fun _ _ _ _ _ _ _ q=>gt_int q
theorem Us:OpR X (compareOp .GtE) (rI0 fun i j=>.bl (decide (j≤i))):=opB0 fun _ _ _ _ _ _ _ q=>ge_int q
theorem ZAZ:OpR X (compareOp .In) (fun x y H Q=>∃i j,x=.str i∧y=.str j∧Q (.bl (!(Hv j i 0 j.length 1).isEmpty)) H):=by
 intro pins s σ H x y v u Q I rx ry h;obtain⟨i,j,rfl,rfl,q⟩:=h;obtain⟨t,rfl⟩:=rx;obtain⟨t',rfl⟩:=ry;exact in_str (Dw I q rfl)
theorem ZEF:OpR X (compareOp .Is) (fun x y H Q=>y=.non∧Q (.bl (decide (x=.non))) H):=by
 intro pins s σ H x y v u Q I rx ry h;obtain⟨rfl,q⟩:=h
 cases ry
 refine is_none_gen (Dw I q ?_)
 cases x <;> first
  | (cases rx; rfl)
  | (obtain⟨t,rfl⟩:=rx; rfl)
theorem ZuH:OpR X (compareOp .NotIn) (fun x y H Q=>∃i j,x=.str i∧y=.str j∧Q (.bl (!(!(Hv j i 0 j.length 1).isEmpty))) H):=by
 intro pins s σ H x y v u Q I rx ry h;obtain⟨i,j,rfl,rfl,q⟩:=h;obtain⟨t,rfl⟩:=rx;obtain⟨t',rfl⟩:=ry;exact notIn_str (Dw I q rfl)
theorem OpR.or {f:Ae→Ae→Sem Ae} {r r':R2} (h:OpR X f r) (h':OpR X f r'):OpR X f (fun x y H Q=>r x y H Q∨r' x y H Q):=by
 intro pins s σ H x y v u Q I rx ry q
 rcases q with q | q
 ·exact h pins s σ H x y v u Q I rx ry q
 ·exact h' pins s σ H x y v u Q I rx ry q
theorem Bd (b:Aw) {op:CmpOp} (h:op≠.In:=by decide) (h2:op≠.NotIn:=by decide):behindInMarks op b=false:=by
 have e1:(op == CmpOp.In)=false:=by cases op <;> first | rfl | exact absurd rfl h
 have e2:(op == CmpOp.NotIn)=false:=by cases op <;> first | rfl | exact absurd rfl h2
 cases b <;> simp[behindInMarks,e1,e2]
theorem Jp {op:CmpOp} {r:R2} (ho:OpR X (compareOp op) r) (ha:PE X a ta) (hb:PE X b tb) (hm:behindInMarks op b=false):PE X (.Compare a [op] [b] pos) (tOp r ta tb):=by
 intro pins s σ H Q I h;exact wpAny_Compare1 (binT ha hb I h fun v u s2 x y H2 I2 rx ry q=>ho pins s2 σ H2 x y v u Q I2 rx ry q) hm
noncomputable abbrev ZJz (t:TE):TT:=fun σ H Q=>t σ H fun x H'=>∃k,x=.bl k∧Q k H'
theorem Ay {op:CmpOp} {r:R2} (ho:OpR X (compareOp op) r) (ha:PE X a ta) (hb:PE X b tb) (hm:behindInMarks op b=false):PT X (.Compare a [op] [b] pos) (ZJz (tOp r ta tb)):=by
 intro pins s σ H Q I h
 refine wpAny_isTrue_Compare1 (thn (ha pins s σ H _ I h) fun v s1 ⟨x,H1,I1,r1,q1⟩=>thn (hb pins s1 σ H1 _ I1 q1) fun u s2 ⟨y,H2,I2,r2,q2⟩=>
  thn (ho pins s2 σ H2 x y v u _ I2 r1 r2 q2) fun c s3 ⟨z,H3,I3,r3,k,e,q3⟩=>?_) hm
 subst e
 cases r3
 exact VG ⟨H3,I3,q3⟩
noncomputable abbrev ZEN (r r':R2) (ta tb tc:TE):TE:=fun σ H Q=>ta σ H fun x H1=>tb σ H1 fun y H2=>r x y H2 fun z H3=>∃k,z=.bl k∧
 (if k=true then tc σ H3 fun w' H4=>r' y w' H4 Q else Q (.bl false) H3)
theorem ZDf {op op':CmpOp} {r r':R2} (ho:OpR X (compareOp op) r) (ho':OpR X (compareOp op') r') (ha:PE X a ta) (hb:PE X b tb) (hc:PE X c tc)
  (hm:lastMarks [op,op'] [b,c]=false:=by with_unfolding_all rfl):PE X (.Compare a [op,op'] [b,c] pos) (ZEN r r' ta tb tc):=by
 intro pins s σ H Q I h
 refine Compare_chain (thn (ha pins s σ H _ I h) fun v s1 ⟨x,H1,I1,r1,q1⟩=>chain_link (thn (hb pins s1 σ H1 _ I1 q1) fun u s2 ⟨y,H2,I2,r2,q2⟩=>
  thn (ho pins s2 σ H2 x y v u _ I2 r1 r2 q2) fun d s3 ⟨z,H3,I3,r3,k,e,q3⟩=>?_)) hm
 subst e
 cases r3
 refine VG ?_
 cases k with
 | false=>exact ite_ff ⟨.bl false,H3,I3,rfl,q3⟩
 | true=>exact ite_tt (chain_last (thn (hc pins s3 σ H3 _ I3 q3) fun w' s4 ⟨z',H4,I4,r4,q4⟩=>ho' pins s4 σ H4 y z' u w' Q I4 r2 r4 q4))
def TruV (K:Ao) (x:V) (H:Hp) (k:Bool):Prop:=
 match x with
 | .non=>k=false
 | .bl b=>k=b
 | .int i=>k=(i != 0)
 | .str y=>y.length≤BW∧k=((y.length:Int) != 0)
 | .byt y=>y.size≤BW∧k=((y.size:Int) != 0)
 | .ref p=>(∃xs,SqL K H p xs∧k = !xs.isEmpty)∨(∃xs,SqT K H p xs∧k = !xs.isEmpty)∨∃kvs,H p=some (.dK kvs)∧k = !kvs.isEmpty
 | _=>False
theorem Zyt {κ:Type} {kvs:List (κ×V)} {vs:List (κ×Ae)} (r:KV kvs vs):(!vs.isEmpty) = !kvs.isEmpty:=by
 cases r <;> rfl
theorem Zq7 {xs:List V} {its:List Ae} (r:Vals xs its):(!its.toArray.isEmpty) = !xs.isEmpty:=by
 cases r <;> simp
theorem Ot:(BW:Nat) < 2 ^ 63:=by rw[VM]; decide
theorem ZEQ:TruR X (fun x H Q=>∃k,TruV X.K x H k∧Q k H):=by
 intro pins s σ H x v Q I rx h;obtain⟨k,e,q⟩:=h;have hl:=Ot;have hs:BW=16777216:=VM
 cases x with
 | non=>
  cases rx
  have e':k=false:=e;subst e';exact truthy_none ⟨H,I,q⟩
 | bl b=>
  cases rx
  have e':k=b:=e;subst e';exact VG ⟨H,I,q⟩
 | int i=>
  obtain⟨t,rfl⟩:=rx;have e':k=(i != 0):=e;subst e';exact PySem.P.truthy_int ⟨H,I,q⟩
 | str y=>
  obtain⟨t,rfl⟩:=rx;obtain⟨hy,e'⟩ : y.length≤BW∧k=((y.length:Int) != 0):=e;subst e';exact PySem.P.truthy_str (by omega) ⟨H,I.tok _,q⟩
 | byt y=>
  obtain⟨t,rfl⟩:=rx;obtain⟨hy,e'⟩ : y.size≤BW∧k=((y.size:Int) != 0):=e;subst e';exact PySem.W.truthy_bytes (by omega) ⟨H,I.tok _,q⟩
 | ref p=>
  cases rx
  have e':(∃xs,SqL X.K H p xs∧k = !xs.isEmpty)∨(∃xs,SqT X.K H p xs∧k = !xs.isEmpty)∨∃kvs,H p=some (.dK kvs)∧k = !kvs.isEmpty:=e
  rcases e' with⟨xs,hx,e'⟩ | ⟨xs,hx,e'⟩ | ⟨kvs,hx,e'⟩
  ·subst e'
   obtain⟨its,r,pl,hz⟩:=I.list hx;have hlen:=r.length;exact wpAny_truthy_list pl.isList (by simp only [Du]; omega) ⟨H,I.tok _,by rw[Zq7 r]; exact q⟩
  ·subst e'
   obtain⟨its,r,pl,hz⟩:=I.tuple hx;have hlen:=r.length;exact truthy_tuple pl (by simp only [Du]; omega) ⟨H,I.tok _,by rw[Zq7 r]; exact q⟩
  ·subst e'
   obtain⟨hz,hS,vs,r,m⟩ : kvs.length≤BW∧(p == sysModules)=false∧∃vs,KV kvs vs∧s.heap.DictOf (Gq X.prog X.w) p vs:=I.hok p _ hx;have hlen:kvs.length=vs.length:=Yab r;exact wpAny_truthy_dict hS m (by omega) ⟨H,I.tok _,by rw[Zyt r]; exact q⟩
 | _=>exact(show False from e).elim
theorem DX (ha:PE X a ta) (he:∀whole,isTrue a X.env whole=(do let v ←whole; standAt a.pos; holding [v] (truthy v))) :
  PT X a (fun σ H Q=>ta σ H fun x H'=>∃k,TruV X.K x H' k∧Q k H'):=by
 intro pins s σ H Q I h;exact isTrue_plain (thn (ha pins s σ H _ I h) fun v s1 ⟨x,H1,I1,r1,q1⟩=>ZEQ pins s1 σ H1 x v Q I1 r1 q1) (he _)
theorem ZyX:OpR X (binaryOp .Add) (fun x y H Q=>∃i j,x=.str i∧y=.str j∧i.length+j.length≤BW∧Q (.str (i++j)) H):=by
 intro pins s σ H x y v u Q I rx ry h;obtain⟨i,j,rfl,rfl,hz,q⟩:=h;obtain⟨t,rfl⟩:=rx;obtain⟨t',rfl⟩:=ry;exact add_str (fun t' tk=>⟨.str (i++j),H,I.tok _,⟨_,rfl⟩,q⟩) hz
theorem Li {x:V} {us:List Ae} (r:Vals [x] us):∃u,us=[u]∧RelV x u:=by
 cases r with
 | cons r1 r2=>cases r2; exact⟨_,rfl,r1⟩
theorem Wu {x y:V} {us:List Ae} (r:Vals [x,y] us):∃u w',us=[u,w']∧RelV x u∧RelV y w':=by
 cases r with
 | cons r1 r2=>
  cases r2 with
  | cons r3 r4=>cases r4; exact⟨_,_,rfl,r1,r3⟩
theorem ZzD (hc:X.calm=true):Gy X (.builtin "max") (fun xs H Q=>∃i j,xs=[.int i,.int j]∧Q (.int (if j > i then j else i)) H):=by
 intro pins s σ H xs us Q I r h;obtain⟨i,j,rfl,q⟩:=h;obtain⟨u,w',rfl,⟨t,rfl⟩,⟨t',rfl⟩⟩:=Wu r;refine max_two_ints (I.ok.hd hc) fun h' tk k=>⟨_,H,I.kept k,?_,q⟩
 by_cases hj:j > i
 ·rw[if_pos hj,if_pos hj]; exact⟨_,rfl⟩
 ·rw[if_neg hj,if_neg hj]; exact⟨_,rfl⟩
theorem ZzF (hc:X.calm=true):Gy X (.builtin "min") (fun xs H Q=>∃i j,xs=[.int i,.int j]∧Q (.int (if j < i then j else i)) H):=by
 intro pins s σ H xs us Q I r h;obtain⟨i,j,rfl,q⟩:=h;obtain⟨u,w',rfl,⟨t,rfl⟩,⟨t',rfl⟩⟩:=Wu r;refine min_two_ints (I.ok.hd hc) fun h' tk k=>⟨_,H,I.kept k,?_,q⟩
 by_cases hj:j < i
 ·rw[if_pos hj,if_pos hj]; exact⟨_,rfl⟩
 ·rw[if_neg hj,if_neg hj]; exact⟨_,rfl⟩
theorem ZzC:Gy X (.type "int") (fun xs H Q=>(∃i,xs=[.int i]∧Q (.int i) H)∨∃k,xs=[.bl k]∧Q (.int (if k then 1 else 0)) H):=by
 intro pins s σ H xs us Q I r h
 rcases h with⟨i,rfl,q⟩ | ⟨k,rfl,q⟩
 ·obtain⟨u,rfl,t,rfl⟩:=Li r
  exact call_int_int ⟨.int i,H,I,⟨_,rfl⟩,q⟩
 ·obtain⟨u,rfl,r1⟩:=Li r
  cases r1
  exact call_int_bool ⟨.int (if k then 1 else 0),H,I.tok _,⟨_,rfl⟩,q⟩
def LenV (K:Ao) (x:V) (H:Hp) (n:Nat):Prop:=
 match x with
 | .str y=>y.length≤BW∧n=y.length
 | .byt y=>y.size≤BW∧n=y.size
 | .ref p=>(∃xs,SqL K H p xs∧n=xs.length)∨∃xs,SqT K H p xs∧n=xs.length
 | _=>False
theorem ZCp:Gy X (.builtin "len") (fun xs H Q=>∃x n,xs=[x]∧LenV X.K x H n∧Q (.int n) H):=by
 intro pins s σ H xs us Q I r h;obtain⟨x,n,rfl,e,q⟩:=h;obtain⟨u,rfl,rx⟩:=Li r;have hl:=Ot;have hs:BW=16777216:=VM
 cases x with
 | str y=>
  obtain⟨t,rfl⟩:=rx;obtain⟨hy,e'⟩ : y.length≤BW∧n=y.length:=e;subst e';exact len_str (by omega) ⟨.int _,H,I.tok _,⟨_,rfl⟩,q⟩
 | byt y=>
  obtain⟨t,rfl⟩:=rx;obtain⟨hy,e'⟩ : y.size≤BW∧n=y.size:=e;subst e';exact PySem.W.len_bytes (by omega) ⟨.int _,H,I.tok _,⟨_,rfl⟩,q⟩
 | ref p=>
  cases rx
  have e':(∃xs,SqL X.K H p xs∧n=xs.length)∨∃xs,SqT X.K H p xs∧n=xs.length:=e
  rcases e' with⟨xs,hx,e'⟩ | ⟨xs,hx,e'⟩
  ·subst e'
   obtain⟨its,r',pl,hz⟩:=I.list hx;have hlen:=r'.length;exact Calls.call_len_list pl.isList (by simp only [Du]; omega) ⟨.int xs.length,H,I.tok _,⟨_,by simp only [Du]; rw[hlen]⟩,q⟩
  ·subst e'
   obtain⟨its,r',pl,hz⟩:=I.tuple hx;have hlen:=r'.length;exact len_tuple pl (by simp only [Du]; omega) ⟨.int xs.length,H,I.tok _,⟨_,by simp only [Du]; rw[hlen]⟩,q⟩
 | _=>exact(show False from e).elim
end
end L2
namespace L2
open PySem PySem.Spec PyProof.Rows
structure ObjM (h:Aq) (x dx C:Ab) (mA:Str→Option Ae):Prop where
 obj:h.get? x=some (K6 C dx)
 ns:h.Ns1 dx mA
 ne:dx≠x
theorem ZAC {h:Aq} {dx:Ab} {mA:Str→Option Ae} (n:h.Ns1 dx mA):∃od,h.get? dx=some od∧∀name,dm name od=some (mA name):=by
 obtain⟨o,es,ep,ho,hd,hk,_,hm⟩:=n;refine⟨o,ho,fun name=>?_⟩;have e:=hm name;unfold nsFind findBy at e;rw[←Array.find?_toList]at e;unfold dm;rw[hd]
 dsimp only
 split
 ·rename_i y q
  rw[q]at e;exact congrArg some e
 ·rename_i q
  rw[q]at e
  have a:es.toList.any (·.refKey)=false:=by
   rw[List.any_eq_false];intro y hy;obtain⟨z,t,hkey⟩:=hk y (Array.mem_toList_iff.mp hy);simp[DictEntry.refKey,hkey]
  have a' : ¬es.toList.any (·.refKey)=true:=by rw[a]; exact Dt
  rw[if_neg a'];exact congrArg some e
theorem ObjM.look {h:Aq} {x dx C:Ab} {mA:Str→Option Ae} (I:ObjM h x dx C mA):∃od,PySem.W.InstAt h x (K6 C dx) C (some od)∧∀name,dm name od=some (mA name):=
 let ⟨od,ho,hl⟩:=ZAC I.ns
 ⟨od,⟨I.obj,rfl,rfl,ho⟩,hl⟩
section
variable {prog:Bp} {w:Bg} {A:Cu} {E:Ae→Ak→Prop} {s:Ak} {K:Ao} {x dx C f:Ab} {mA:Str→Option Ae} {name:Str} {v:Ae}
theorem ZFk {expr:Bool} {Q:Ae→Ak→Prop} (X:K.In s.heap) (I:ObjM s.heap x dx C mA) (hg:Hh K C name=true) (hh:Hl K C=true)
  (ha:Bk K (.ref C) name=some none) (hv:mA name=some v) (hv':Ybs v=true) (h:Q v { s with toks:=s.toks+1 }) :
  Bb (model prog w) A (getAttr (.ref x) name expr) Q E s:=by
 obtain⟨od,J,hl⟩:=I.look;exact PySem.W.get_value X J (Yaq hg).1 (PySem.W.findObj_own hh ha rfl (by rw[hl,hv])) hv' h
theorem ZCy {pl:Sem Bool} {Q:Ae×List Ae→Ak→Prop} (X:K.In s.heap) (I:ObjM s.heap x dx C mA) (hg:Hh K C name=true)
  (hf:Bk K (.ref C) name=some (some (.ref f))) (ht:Cy K (.ref f)=true) (hv:mA name=none) (h:Q (.ref f,[.ref x]) s) :
  Bb (model prog w) A (getMethod (.ref x) name pl) Q E s:=by
 obtain⟨od,J,hl⟩:=I.look;exact PySem.W.method_fn X J (Yaq hg).1 (Yaq hg).2 hf (beq_iff_eq.mp ht) (by show(dm name od).map (·.isSome)=some false; rw[hl,hv]; rfl) h
theorem ZGF {ns:List Str} {Q:Unit→Ak→Prop} (X:K.In s.heap) (I:ObjM s.heap x dx C mA)
  (hs:Bk K (.ref C) "__setattr__" = some (some (.builtin "object.__setattr__"))) (hp:Hw K C=true) (ht:Yar K C name=some none) (hh:Hl K C=true)
  (hw:Yac mA ns) (hsz:ns.length≤BW)
  (h:∀h',ObjM h' x dx C (fun y=>if y=name then some v else mA y)→Ob dx s.heap h'→Q () { s with heap:=h',toks:=s.toks+2 }) :
  Bb (model prog w) A (setAttr (.ref x) name v) Q E s:=by
 obtain⟨od,J,hl⟩:=I.look;refine PySem.W.set_plain X J hs (PySem.W.osa_open (s:={ s with toks:=s.toks+1 }) (r:=none) X J hp ht fun b=>?_);obtain⟨cd,hc,hd'⟩:=PySem.W.any_some hh;have hx:s.heap.get? x=some ⟨.ref C,some dx,.plain,#[]⟩:=I.obj;refine BP (DK (BP (BP (wpAny_loadPart hx (BP (Ydb (s:={ s with toks:=s.toks+1 }) (PySem.W.looks_clsIn X hc) ?_))))));rw[hd'];refine DK (a:=some dx) (BP (DK (BP ?_)));refine wpAny_nsSet1 (s:={ s with toks:=s.toks+1 }) I.ns fun h' hn2 hs2=>?_;obtain⟨oD,esD,epD,hoD,hdD,hcD⟩:=hn2.count (Ydc name v hw);refine BP (wpAny_lookBehind hoD (by rw[hdD]; exact pastItsLine_dict (Ex hcD (by rw[CT]; omega))) ?_);exact DK (h _ ⟨(hs2.2 _ (Gs I.ne)).trans I.obj,hn2,I.ne⟩ hs2)
theorem ZC1 {R:Result→Ak→Prop} {vs:List Ae} {kw:List (Str×Ae)} (X:K.In s.heap) (hm:Hx K C=true)
  (hi:Bk K (.ref C) "__init__" = some (some (.ref f))) (hf:PySem.W.typeIn K (.ref f)=some (.type "function"))
  (h:codeAny (model prog w) (A.under (.builtin "type.__call__" ⟨.ref C::vs,kw⟩)) (.call (.ref f) ⟨.ref (s.heap.objs.size+1)::vs,kw⟩) (PySem.W.InitBack (s.heap.objs.size+1) R)
   { s with heap:=(s.heap.push Kd).push (K6 C s.heap.objs.size) }) :
  codeAny (model prog w) A (.call (.ref C) ⟨vs,kw⟩) R s:=by
 obtain⟨hh,g,d,t,os⟩:=s;exact PySem.W.make_core (PySem.W.makes_of X hm) (PySem.W.looks_findIn X hi) (fun self=>PySem.W.bind_fn X self hf) (.inl rfl) h
end
noncomputable def putF (f:Str) (v:V):List (Str×V)→List (Str×V)
 | []=>[(f,v)]
 | (g,x)::r=>if g=f then(g,v)::r else(g,x)::putF f v r
theorem DN (f g:Str) (v:V):∀fs:List (Str×V),(putF f v fs).lookup g=if g=f then some v else fs.lookup g
 | []=>by
  show Ke g [(f,v)]=_
  by_cases h:g=f
  ·have hb:(g == f)=true:=beq_iff_eq.mpr h
   simp only [Ke,hb,if_pos h]
  ·have hb:(g == f)=false:=beq_eq_false_iff_ne.mpr h
   simp only [Ke,hb,if_neg h]
 | (k,x)::r=>by
  have ih:=DN f g v r;rw[show putF f v ((k,x)::r)=(if k=f then(k,v)::r else(k,x)::putF f v r) from rfl]
  by_cases hk:k=f
  ·rw[if_pos hk]
   by_cases h:g=k
   ·have hb:(g == k)=true:=beq_iff_eq.mpr h
    simp only [Ke,hb,if_pos (h.trans hk)]
   ·have hb:(g == k)=false:=beq_eq_false_iff_ne.mpr h
    simp only [Ke,hb,if_neg (fun e:g=f=>h (e.trans hk.symm))]
  ·rw[if_neg hk]
   by_cases h:g=k
   ·have hb:(g == k)=true:=beq_iff_eq.mpr h
    simp only [Ke,hb,if_neg (fun e:g=f=>hk (h.symm.trans e))]
   ·have hb:(g == k)=false:=beq_eq_false_iff_ne.mpr h
    simp only [Ke,hb];exact ih
theorem mq (f:Str) (v:V):∀fs:List (Str×V),f∈(putF f v fs).map (·.1)∧∀g,g∈fs.map (·.1)→g∈(putF f v fs).map (·.1)
 | []=>⟨by simp[putF],fun g h=>by simp at h⟩
 | (k,x)::r=>by
  obtain⟨i1,i2⟩:=mq f v r;rw[show putF f v ((k,x)::r)=(if k=f then(k,v)::r else(k,x)::putF f v r) from rfl]
  by_cases hk:k=f
  ·rw[if_pos hk]
   subst hk;exact⟨by simp,fun g h=>by simpa using h⟩
  ·rw[if_neg hk]
   refine⟨?_,fun g h=>?_⟩
   ·rw[Dq]
    exact CW _ i1
   ·rw[Dq]at h ⊢
    rcases Bu.mp h with e | e
    ·exact Bu.mpr (.inl e)
    ·exact CW _ (i2 g e)
theorem Zpe (f:Str) (v:V):∀fs:List (Str×V),(putF f v fs).length≤fs.length+1
 | []=>by simp[putF]
 | (k,x)::r=>by
  have ih:=Zpe f v r;rw[show putF f v ((k,x)::r)=(if k=f then(k,v)::r else(k,x)::putF f v r) from rfl]
  by_cases hk:k=f
  ·rw[if_pos hk,CT,CT]; omega
  ·rw[if_neg hk,CT,CT]; omega
theorem RelO.some_of {v:V} {o:Option Ae} (r:RelO (some v) o):∃u,o=some u∧RelV v u:=by
 cases o with
 | none=>exact(show False from r).elim
 | some u=>exact⟨u,rfl,r⟩
theorem RelO.none_of {o:Option Ae} (r:RelO none o):o=none:=by
 cases o with
 | none=>rfl
 | some u=>exact(show False from r).elim
theorem Zz0 {v:V} {u:Ae} (r:RelV v u):Ybs u=true:=by
 cases v with
 | non=>cases (show u=Gm from r); rfl
 | bl b=>cases (show u=N6 b from r); rfl
 | int i=>obtain⟨t,e⟩:=(show ∃t,u=VB i t from r); cases e; rfl
 | str x=>obtain⟨t,e⟩:=(show ∃t,u=Ht x t from r); cases e; rfl
 | byt b=>obtain⟨t,e⟩:=(show ∃t,u=Ybj b t from r); cases e; rfl
 | flt b=>obtain⟨t,e⟩:=(show ∃t,u=Yaa b t from r); cases e; rfl
 | ref a=>cases (show u=Do a from r); rfl
 | ty n=>cases (show u=Jg n from r); rfl
section
variable {P:Bp} {w:Bg} {H H':Hp} {h h':Aq} {a C dx:Ab} {fs fs':List (Str×V)}
theorem Wv (hok:HOk P w H h) (e:H a=some (.ins C dx fs)):∃mA,ObjM h a dx C mA∧(∀f,RelO (fs.lookup f) (mA f))∧Yac mA (fs.map (·.1))∧fs.length≤1000∧H dx=some (.own a):=by
 obtain⟨d,z,ne,ob,mA,n,r,q⟩:=(show DG P w H h a (.ins C dx fs) from hok a _ e);exact⟨mA,⟨ob,n,ne⟩,r,q,z,d⟩
end
structure Cls (K:Ao) (C:Ab):Prop where
 pg:Hh K C BK=true
 hd:Hl K C=true
 po:Hw K C=true
 sa:Bk K (.ref C) "__setattr__" = some (some (.builtin "object.__setattr__"))
theorem Cls.get {K:Ao} {C:Ab} (c:Cls K C) (f:Str):Hh K C f=true:=c.pg
def Dn (K:Ao) (C:Ab) (f:Str):Prop:=Bk K (.ref C) f=some none
theorem Dn.taker {K:Ao} {C:Ab} {f:Str} (n:Dn K C f):Yar K C f=some none:=by
 unfold Yar;rw[show Bk K (.ref C) f=some none from n];rfl
structure Meth (K:Ao) (C:Ab) (m:Str) (f:Ab):Prop where
 at_:Bk K (.ref C) m=some (some (.ref f))
 fn:Cy K (.ref f)=true
 kp:Fz K (.ref f)=true
section
variable {X:Cx} {pins:List (Ab×Obj)} {σ:St} {H:Hp} {s:Ak} {a C dx:Ab} {fs:List (Str×V)} {f:Str} {v:V} {A:Cu} {E:Ae→Ak→Prop}
theorem Zyl {b:Bool} {Q:Ae→Ak→Prop} (I:Inv X pins σ H s) (e:H a=some (.ins C dx fs)) (c:Cls X.K C) (n:Dn X.K C f) (l:fs.lookup f=some v)
  (h:∀u s',Inv X pins σ H s'→RelV v u→Q u s'):Bb (model X.prog X.w) A (getAttr (.ref a) f b) Q E s:=by
 obtain⟨mA,O,r,_,_,_⟩:=Wv I.hok e;obtain⟨u,hu,ru⟩:=RelO.some_of (v:=v) (o:=mA f) (by rw[←l]; exact r f);exact ZFk I.kIn O (c.get f) c.hd n hu (Zz0 ru) (h u _ (I.tok _) ru)
theorem my {m:Str} {g:Ab} {pl:Sem Bool} {Q:Ae×List Ae→Ak→Prop} (I:Inv X pins σ H s) (e:H a=some (.ins C dx fs)) (c:Cls X.K C) (k:Meth X.K C m g) (l:fs.lookup m=none)
  (h:Q (.ref g,[.ref a]) s):Bb (model X.prog X.w) A (getMethod (.ref a) m pl) Q E s:=by
 obtain⟨mA,O,r,_,_,_⟩:=Wv I.hok e;have hn:mA m=none:=RelO.none_of (by rw[←l]; exact r m);exact ZCy I.kIn O (c.get m) k.at_ k.fn hn h
theorem Zy8 {y:V} {u:Ae} {Q:Unit→Ak→Prop} (I:Inv X pins σ H s) (e:H a=some (.ins C dx fs)) (c:Cls X.K C) (n:Dn X.K C f) (hl:fs.length < 1000) (ry:RelV y u)
  (h:∀s',Inv X pins σ (upd H a (.ins C dx (putF f y fs))) s'→Q () s'):Bb (model X.prog X.w) A (setAttr (.ref a) f u) Q E s:=by
 obtain⟨mA,O,r,wi,_,ho⟩:=Wv I.hok e
 have hz:(fs.map (·.1)).length≤BW:=by rw[Ax,VM]; omega
 refine ZGF I.kIn O c.sa c.po n.taker c.hd wi hz fun h' O' sb=>h _ ?_;have hd:∃o,h'.get? dx=some o:=let ⟨o,_,_,e',_⟩:=O'.ns; ⟨o,e'⟩;refine I.write (x:=a) (e:=dx) (by rw[e]; exact Jj) (.inr ho) (fun b q hb z=>(sb.2 b hb).trans z) hd ?_;refine⟨by rw[Cd O.ne]; exact ho,?_,O.ne,O'.obj,_,O'.ns,fun g=>?_,fun g hg=>?_⟩
 ·have:=Zpe f y fs; omega
 ·show RelO ((putF f y fs).lookup g) (if g=f then some u else mA g)
  rw[DN]
  by_cases q:g=f
  ·rw[if_pos q,if_pos q]; exact ry
  ·rw[if_neg q,if_neg q]; exact r g
 ·by_cases q:g=f
  ·rw[q]; exact(mq f y fs).1
  ·refine(mq f y fs).2 g (wi g fun z=>hg ?_)
   show(if g=f then some u else mA g)=none;rw[if_neg q]; exact z
theorem Inv.made (I:Inv X pins σ H s):Inv X pins σ (upd (upd H s.heap.objs.size (.own (s.heap.objs.size+1))) (s.heap.objs.size+1) (.ins C s.heap.objs.size []))
  { s with heap:=(s.heap.push Kd).push (K6 C s.heap.objs.size) }:=by
 have e1:(s.heap.push Kd).get? s.heap.objs.size=some Kd:=FZ s.heap rfl
 have e2:((s.heap.push Kd).push (K6 C s.heap.objs.size)).get? (s.heap.objs.size+1)=some (K6 C s.heap.objs.size):=by
  have:=FZ (s.heap.push Kd) (o:=K6 C s.heap.objs.size) rfl
  rwa [VN]at this
 have e3:(s.heap.push Kd).Ns s.heap.objs.size (fun _=>none):=⟨Kd,#[],_,e1,rfl,(fun e he=>absurd he (by simp)),fun _=>rfl⟩;have I1:=I.laid (a:=s.heap.objs.size) (o:=.own (s.heap.objs.size+1)) (h':=s.heap.push Kd) (t':=s.toks) (fun b u q=>Ek _ q) (Bv _) ⟨_,e1⟩;refine I1.laid (a:=s.heap.objs.size+1) (o:=.ins C s.heap.objs.size []) (t':=s.toks) (fun b u q=>Ek _ q) (Ybt (VN _ _)) ?_;have ne:s.heap.objs.size≠s.heap.objs.size+1:=DQ (Oe _);refine⟨by rw[Cd ne,Cm],De _,ne,e2,fun _=>none,(Aq.Ns1.of_empty e3).at fun o q=>Ek _ q,fun _=>Jj,fun y hy=>absurd rfl hy⟩
theorem ZE9 {prog:Bp} {w:Bg} {env:Env} {e:Aw} {f:Str} {pos:Pos} {s:Ak} {Q:Ae→Ak→Prop} (hb:attributeBase e f env (eval e env)=eval e env)
  (h:Bb (model prog w) A (eval e env) (fun o s₁=>Bb (model prog w) A (getAttr o f true) Q E s₁) E s):Bb (model prog w) A (eval (.Attribute e f pos) env) Q E s:=
 Attribute_any_ h (by rw[arm_eval_Attribute,hb])
end
noncomputable abbrev tFld (K:Ao) (ta:TE) (f:Str):TE:=fun σ H Q=>ta σ H fun x H1=>∃a C dx fs v,x=.ref a∧H1 a=some (.ins C dx fs)∧Cls K C∧Dn K C f∧fs.lookup f=some v∧Q v H1
noncomputable abbrev sFld (K:Ao) (ta tv:TE) (f:Str):TS:=fun D σ H=>tv σ H fun y H1=>ta σ H1 fun x H2=>∃a C dx fs,x=.ref a∧H2 a=some (.ins C dx fs)∧Cls K C∧Dn K C f∧fs.length < 1000∧
 D.nx σ (upd H2 a (.ins C dx (putF f y fs)))
section
variable {X:Cx} {o e value:Aw} {f:Str} {pos pos' tpos:Pos} {ta tv:TE}
theorem Cj (he:PE X e ta) (hb:attributeBase e f X.env (eval e X.env)=eval e X.env):PE X (.Attribute e f pos) (tFld X.K ta f):=by
 intro pins s σ H Q I h;refine ZE9 hb (thn (he pins s σ H _ I h) fun u s1 h=>?_);obtain⟨x,H1,I1,rx,a,C,dx,fs,v,ex,ea,c,n,l,q⟩:=h;subst ex;obtain rfl:u=Do a:=rx;exact Zyl I1 ea c n l fun u' s2 I2 ru=>⟨v,H1,I2,ru,q⟩
theorem DY (ha:PE X o ta) (hv:PE X value tv) (hs:swapsWith value (some (.Attribute o f pos')) pos.line X.env=pure false):PS X (.Assign [.Attribute o f pos'] value pos) (sFld X.K ta tv f):=by
 intro pins s σ H D I h;refine plainObj_wpAny_Assign_Attribute (thn (hv pins s σ H _ I h) fun u s1 ⟨y,H1,I1,ry,q⟩=>thn (ha pins s1 σ H1 _ I1 q) fun ov s2 h=>?_) hs;obtain⟨x,H2,I2,rx,a,C,dx,fs,ex,ea,c,n,l,q2⟩:=h;subst ex;obtain rfl:ov=Do a:=rx;exact Zy8 I2 ea c n l ry fun s3 I3=>⟨σ,_,I3,q2⟩
end
section
variable {X:Cx} {pins:List (Ab×Obj)} {σ:St} {H:Hp} {s:Ak} {A:Cu} {E:Ae→Ak→Prop} {Q:Ae→Ak→Prop} {c:Ae} {b:Bool}
inductive TyOf (K:Ao) (H:Hp):V→Ae→Prop where
 | non:TyOf K H .non (.type "NoneType")
 | bl (x:Bool):TyOf K H (.bl x) (.type "bool")
 | int (i:Int):TyOf K H (.int i) (.type "int")
 | str (x:Str):TyOf K H (.str x) (.type "str")
 | flt (x:UInt64):TyOf K H (.flt x) (.type "float")
 | lst {a:Ab} {xs:List V} (e:H a=some (.lst xs)):TyOf K H (.ref a) (.type "list")
 | frz {a:Ab} {o:Obj} {xs:List V} (e:H a=some (.frz o (.lst xs))):TyOf K H (.ref a) (.type "list")
 | tup {a:Ab} {xs:List V} (e:H a=some (.tup xs)):TyOf K H (.ref a) (.type "tuple")
 | dK {a:Ab} {kvs:List (Key×V)} (e:H a=some (.dK kvs)):TyOf K H (.ref a) (.type "dict")
 | dT {a:Ab} {kvs:List (List Key×V)} (e:H a=some (.dT kvs)):TyOf K H (.ref a) (.type "dict")
 | ins {a C dx:Ab} {fs:List (Str×V)} (e:H a=some (.ins C dx fs)) (cl:Cls K C) (ha:Bk K (.ref C) "__class__" = some (some (.builtin "object.__class__")))
   (hn:PySem.W.specialIn K (.builtin "object.__class__") "__get__" = some (some (.builtin "getset_descriptor.__get__"))) (htk:PySem.W.takesIn K (.builtin "object.__class__")=some true)
   (hm:VP K C (.type "object")=some true):TyOf K H (.ref a) (.ref C)
theorem ZtS {x:V} {u t:Ae} (I:Inv X pins σ H s) (rx:RelV x u) (ty:TyOf X.K H x t) (e:Kf X.K t c=some b) (h:∀tk,Q (.bool b) { s with toks:=tk }) :
  Bb (model X.prog X.w) A (call (.builtin "isinstance") [u,c]) Q E s:=by
 cases ty with
 | non=>cases (show u=Gm from rx); exact Jk PySem.W.kitx_none I.kIn Jj e (fun z=>nomatch z) h
 | bl y=>cases (show u=N6 y from rx); exact Jk PySem.W.kitx_bool I.kIn Jj e (fun z=>nomatch z) h
 | int i=>obtain⟨t,q⟩:=(show ∃t,u=VB i t from rx); cases q; exact Jk PySem.W.kitx_int I.kIn Jj e (fun z=>nomatch z) h
 | str y=>obtain⟨t,q⟩:=(show ∃t,u=Ht y t from rx); cases q; exact Jk PySem.W.kitx_str I.kIn Jj e (fun z=>nomatch z) h
 | flt y=>obtain⟨t,q⟩:=(show ∃t,u=Yaa y t from rx); cases q; exact Jk PySem.W.kitx_float I.kIn Jj e (fun z=>nomatch z) h
 | @lst a xs ea=>
  cases (show u=Do a from rx)
  obtain⟨_,_,n,_,h1⟩:=(show DG X.prog X.w H s.heap a (.lst xs) from I.hok a _ ea);exact Jk Ybu I.kIn ⟨_,h1,rfl⟩ e (fun z=>nomatch z) h
 | @frz a ob xs ea=>
  cases (show u=Do a from rx)
  obtain⟨_,_,_,n,_,h1⟩:=(show DG X.prog X.w H s.heap a (.frz ob (.lst xs)) from I.hok a _ ea);exact Jk Ybu I.kIn ⟨_,h1,rfl⟩ e (fun z=>nomatch z) h
 | @tup a xs ea=>
  cases (show u=Do a from rx)
  obtain⟨_,_,_,p⟩:=(show DG X.prog X.w H s.heap a (.tup xs) from I.hok a _ ea);obtain⟨o,h1,h2,_⟩:=p;exact Jk PySem.W.kitx_tuple I.kIn ⟨o,h1,h2⟩ e (fun z=>nomatch z) h
 | @dK a kvs ea=>
  cases (show u=Do a from rx)
  obtain⟨_,_,vs,_,p⟩:=(show DG X.prog X.w H s.heap a (.dK kvs) from I.hok a _ ea);obtain⟨o,es,ep,h1,h2,_⟩:=p;exact Jk Ybv I.kIn ⟨o,h1,h2.1⟩ e (fun z=>nomatch z) h
 | @dT a kvs ea=>
  cases (show u=Do a from rx)
  obtain⟨_,_,xs,_,o,es,ep,h1,h2,_⟩:=(show DG X.prog X.w H s.heap a (.dT kvs) from I.hok a _ ea);exact Jk Ybv I.kIn ⟨o,h1,h2.1⟩ e (fun z=>nomatch z) h
 | @ins a C dx fs ea cl ha hn htk hm=>
  cases (show u=Do a from rx)
  obtain⟨mA,O,_⟩:=Wv I.hok ea;obtain⟨od,J,_⟩:=O.look;exact Jk (PySem.W.kitx_own (cl.get _) cl.hd ha hn htk hm) I.kIn J e (fun z=>nomatch z) h
end
end L2
namespace L2
open PySem PySem.Spec PyProof.Rows
structure Room (k:Nat) (A:Cu):Prop where
 hd:A.handled=none
 dp:A.depth+3 * k+5 < recursionLimit
 un:A.units+16 * k+200 < cLine
theorem Room.mono {j k:Nat} {A:Cu} (r:Room k A) (h:j≤k):Room j A:=⟨r.hd,by have:=r.dp; omega,by have:=r.un; omega⟩
theorem Room.deeper {k:Nat} {A:Cu} (r:Room (k+1) A) (env:Env):Room k (A.deeper env):=
 ⟨r.hd,by have:=r.dp; show A.depth+1+3 * k+5 < _; omega,by have:=r.un; show A.units+3+16 * k+200 < _; omega⟩
theorem ZyJ {A:Cu} {C:Ab} {us:List Ae} {kw:List (Str×Ae)}:(A.under (.builtin "type.__call__" ⟨.ref C::us,kw⟩)).depth=A.depth+1:=by
 first | rfl | simp[Yas,Code.weight,Code.isCreation,Code.isGuard,Code.isCaller,Ybw,Yat,guardIds]
theorem ZyK {A:Cu} {C:Ab} {us:List Ae} {kw:List (Str×Ae)}:(A.under (.builtin "type.__call__" ⟨.ref C::us,kw⟩)).units=A.units+1:=by
 first | rfl | simp[Yas,Code.cUnits,Ybw,Yat]
theorem Room.make {k:Nat} {A:Cu} (r:Room (k+1) A) (C:Ab) (us:List Ae) (kw:List (Str×Ae)):Room k (A.under (.builtin "type.__call__" ⟨.ref C::us,kw⟩)):=
 ⟨r.hd,by have:=r.dp; rw[ZyJ]; omega,by have:=r.un; rw[ZyK]; omega⟩
theorem Room.depth {k:Nat} {A:Cu} (r:Room k A):A.depth < recursionLimit:=by have:=r.dp; omega
theorem Room.units {k:Nat} {A:Cu} (r:Room k A):A.units+64 < cLine:=by have:=r.un; omega
noncomputable abbrev tNil:TA:=fun _ H Q=>Q [] H
noncomputable abbrev HH (ta:TE) (tr:TA):TA:=fun σ H Q=>ta σ H fun x H1=>tr σ H1 fun xs H2=>Q (x::xs) H2
section
variable {X:Cx} {e:Aw} {es:List Aw} {te:TE} {t:TA} {pos:Pos}
theorem Af:PA X [] tNil:=fun _ _ _ _ H Q I h=>dq ⟨[],H,I,.nil,h⟩
theorem Ac (ha:PE X e te) (hr:PA X es t) (hs:BX (e::es) X.env=(false,eval e X.env)::BX es X.env:=by rfl):PA X (e::es) (HH te t):=by
 intro pos pins s σ H Q I h;rw[hs];show Bb _ _ (spliced ((false,eval e X.env)::backTo pos (BX es X.env))) _ _ s;refine Og (thn (ha pins s σ H _ I h) fun u s1 h_=>?_);obtain⟨x,H1,I1,r1,q1⟩:=h_;exact thn (hr pos pins s1 σ H1 _ I1 q1) fun us s2 ⟨xs,H2,I2,r2,q2⟩=>⟨x::xs,H2,I2,.cons r1 r2,q2⟩
noncomputable def tTup (t:TA):TE:=fun σ H Q=>t σ H fun xs H1=>xs.length≤BW∧∀p,H1 p=none→Q (.ref p) (upd H1 p (.tup xs))
noncomputable def tLst (t:TA):TE:=fun σ H Q=>t σ H fun xs H1=>xs.length≤BW∧∀p,H1 p=none→Q (.ref p) (upd H1 p (.lst xs))
theorem Eh {x1} (h:PA X es t):PE X (.Tuple es x1 pos) (tTup t):=by
 intro pins s σ H Q I hq;refine wpAny_Tuple_spliced (thn (h pos pins s σ H _ I hq) fun us s1 ⟨xs,H1,I1,r,z,q⟩=>⟨by rw[←r.length]; exact z,?_⟩);have hf:H1 s1.heap.objs.size=none:=I1.hok.fresh (Bv _);refine⟨.ref s1.heap.objs.size,upd H1 s1.heap.objs.size (.tup xs),I1.laid (t':=s1.toks) (fun b u e=>Ek _ e) (Bv _) ?_,rfl,q _ hf⟩;exact⟨z,us,r,⟨_,FZ _ rfl,rfl,_,rfl,rfl⟩⟩
theorem Br (h:PA X es t):PE X (.List es pos) (tLst t):=by
 intro pins s σ H Q I hq;refine wpAny_List_spliced (thn (h pos pins s σ H _ I hq) fun us s1 ⟨xs,H1,I1,r,z,q⟩=>⟨by rw[←r.length]; exact z,?_⟩);have hf:H1 s1.heap.objs.size=none:=I1.hok.fresh (Bv _);refine⟨.ref s1.heap.objs.size,upd H1 s1.heap.objs.size (.lst xs),I1.laid (t':=s1.toks) (fun b u e=>Ek _ e) (Bv _) ?_,rfl,q _ hf⟩;exact⟨z,us,0,r,FZ _ rfl⟩
end
noncomputable abbrev Sp:=List V→Hp→VK→XK→Prop
noncomputable abbrev CXT:=List Env→Hp→Ak→XK→Ae→Ak→Prop
structure Env0 (P:Bp) (w:Bg) (K:Ao) (mg:Str→Option Ae) (base:Aq) (A:Cu) (outer:List Env) (s:Ak) (H:Hp):Prop where
 frames:A.frames=some outer
 mod:Mod K mg base
 bs:∀b o,base.get? b=some o→s.heap.get? b=some o∧H b=none
 bsz:base.objs.size≤s.heap.objs.size
 funs:s.heap.FunFrames base outer
 frf:∀b∈frs outer,H b=none
 hok:HOk P w H s.heap
 bare:JH s.gens
def CE (outer:List Env) (P:Bp) (w:Bg) (H:Hp) (s:Ak) (Q:VK) (u:Ae) (s':Ak):Prop:=
 ∃v H',s'.os=s.os∧JH s'.gens∧Un (frs outer) [] H H' s.heap s'.heap∧HOk P w H' s'.heap∧RelV v u∧Q v H'
def CR (CX:CXT) (outer:List Env) (P:Bp) (w:Bg) (H:Hp) (s:Ak) (Q:VK) (E:XK) (r:Result) (s':Ak):Prop:=
 match r with
 | .ok (.ret u)=>CE outer P w H s Q u s'
 | .ok _=>False
 | .error e=>CX outer H s E e s'
structure FnOk (P:Bp) (w:Bg) (K:Ao) (mg:Str→Option Ae) (base:Aq) (CX:CXT) (k:Nat) (f:Ab) (fd:Bc) (ps:List Str) (sp:Sp):Prop where
 len:∀vs H Q E,sp vs H Q E→vs.length=ps.length
 run:∀(A:Cu) (outer:List Env) (s:Ak) (H:Hp) (args:Args) (us:List Ae) (vs:List V) (Q:VK) (E:XK),Room k A→Env0 P w K mg base A outer s H→TX s fd args (ps.zip us)→Vals vs us→sp vs H Q E→
  codeAny (model P w) A (.call (.ref f) args) (CR CX outer P w H s Q E) s
theorem FnOk.mono {P:Bp} {w:Bg} {K:Ao} {mg:Str→Option Ae} {base:Aq} {CX:CXT} {j k:Nat} {f:Ab} {fd:Bc} {ps:List Str} {sp:Sp} (F:FnOk P w K mg base CX j f fd ps sp) (h:j≤k) :
  FnOk P w K mg base CX k f fd ps sp:=⟨F.len,fun A outer s H args us vs Q E hr=>F.run A outer s H args us vs Q E (hr.mono h)⟩
theorem Env0.make {P:Bp} {w:Bg} {K:Ao} {mg:Str→Option Ae} {base:Aq} {A:Cu} {outer:List Env} {s:Ak} {H:Hp} (e:Env0 P w K mg base A outer s H) (C:Ab) (us:List Ae) (kw:List (Str×Ae)) :
  Env0 P w K mg base (A.under (.builtin "type.__call__" ⟨.ref C::us,kw⟩)) outer s H:=⟨by first | exact e.frames | (simpa [Yas,Code.envs,Yat,pushEnvs] using e.frames),e.mod,e.bs,e.bsz,e.funs,e.frf,e.hok,e.bare⟩
section
variable {X:Cx} {pins:List (Ab×Obj)} {σ:St} {H:Hp} {s s':Ak}
theorem Inv.env0 (I:Inv X pins σ H s):Env0 X.prog X.w X.K X.mg X.base X.A X.stack s H:=
 ⟨I.ok.frames,I.ok.mod,I.bs,Ex I.ok.bsz I.sz,I.stack,I.stkFree,I.hok,I.bare⟩
theorem Inv.after {Q:VK} {u:Ae} (I:Inv X pins σ H s) (h:CE X.stack X.prog X.w H s Q u s'):EP X pins σ Q u s':=by
 obtain⟨v,H',os,bare,un,hok,r,q⟩:=h;obtain⟨hh,g,d,t,os'⟩:=s';obtain rfl:os'=s.os:=os;exact⟨v,H',I.call (h':=hh) (g':=g) (d':=d) (t':=t) (ch:=[]) un hok bare (fun b z=>absurd z (by simp)),r,q⟩
end
noncomputable def ni (sp:Sp) (dvs:List V) (E:XK) (t:TA):TE:=fun σ H Q=>t σ H fun vs H1=>sp (vs++dvs) H1 Q E
noncomputable def Wx (C:Ab) (sp:Sp) (dvs:List V) (E:XK) (t:TA):TE:=fun σ H Q=>t σ H fun vs H1=>∀x dx,H1 x=none→H1 dx=none→dx≠x→
 sp (.ref x::(vs++dvs)) (upd (upd H1 dx (.own x)) x (.ins C dx [])) (fun v H2=>v=.non∧Q (.ref x) H2) E
def Be (K:Ao) (fd:Bc) (ps:List Str) (ds:List Ae):Prop:=
 ∀(s:Ak) (us:List Ae),K.In s.heap→(us++ds).length=ps.length→TX s fd ⟨us,[]⟩ (ps.zip (us++ds))
theorem Be.all {K:Ao} {fd:Bc} {ps:List Str} (h:∀us:List Ae,us.length=ps.length→bindArgs fd ⟨us,[]⟩=pure (ps.zip us)):Be K fd ps []:=fun s us _ hl=>by
 rw[Es]at hl ⊢;exact .of_eq (h us hl)
def Jq (CX:CXT) (X:Cx) (E:XK):Prop:=∀(pins:List (Ab×Obj)) (σ:St) (H:Hp) (s:Ak) (e:Ae) (s':Ak),Inv X pins σ H s→CX X.stack H s E e s'→X.xe e s'
section
variable {X:Cx} {CX:CXT} {k:Nat} {f C:Ab} {fd:Bc} {ps:List Str} {sp:Sp} {dvs:List V} {ds:List Ae} {E:XK} {x m:Str} {p pos apos:Pos} {e o:Aw} {es:List Aw} {ta:TE} {t:TA}
theorem Wy {pins:List (Ab×Obj)} {σ:St} {H:Hp} {s:Ak} {Q:VK} {us:List Ae} {vs:List V} (F:FnOk X.prog X.w X.K X.mg X.base CX k f fd ps sp) (hr:Room k X.A) (hb:Be X.K fd ps ds) (hd:Vals dvs ds) (hx:Jq CX X E)
  (I:Inv X pins σ H s) (r:Vals vs us) (h:sp (vs++dvs) H Q E):Bb (model X.prog X.w) X.A (call (.ref f) us) (EP X pins σ Q) X.xe s:=by
 have r2:Vals (vs++dvs) (us++ds):=r.append hd
 have hl:(us++ds).length=ps.length:=by rw[←r2.length]; exact F.len _ _ _ _ h
 refine wpAny_call (du (F.run X.A X.stack s H ⟨us,[]⟩ (us++ds) (vs++dvs) Q E hr I.env0 (hb s us I.kIn hl) r2 h) fun r s' hq=>?_)
 cases r with
 | error e=>exact hx pins σ H s e s' I hq
 | ok fl=>
  cases fl with
  | ret u=>exact I.after hq
  | next=>exact GJ hq
  | brk=>exact GJ hq
  | cont=>exact GJ hq
theorem nq (F:FnOk X.prog X.w X.K X.mg X.base CX k f fd ps sp) (hr:Room k X.A) (hg:Gl X x) (hm:X.mg x=some (.ref f)) (hk:Fz X.K (.ref f)=true) (hb:Be X.K fd ps ds) (hd:Vals dvs ds) (hx:Jq CX X E)
  (ha:PA X (e::es) t) (hdb:(x == ("__debug__" : Str))=false:=by decide) (he:BX (e::es) X.env=(false,eval e X.env)::BX es X.env:=by rfl) (hpl:(backTo pos (BX es X.env)).any (·.1)=false:=by rfl) :
  PE X (.Call (.Name x p) (e::es) [] pos) (ni sp dvs E t):=by
 intro pins s σ H Q I h;refine TY (Um I hg hm ?_ hdb);refine dw (h₀:=X.base) I.ok.mod.kin hk (thn (ha pos pins s σ H _ I h) fun us s1 ⟨vs,H1,I1,r,q⟩=>⟨I1.kIn,?_⟩) he hpl;exact Wy F hr hb hd hx I1 r q
structure Mk (K:Ao) (C f:Ab):Prop where
 makes:Hx K C=true
 init:Bk K (.ref C) "__init__" = some (some (.ref f))
 fn:Cy K (.ref f)=true
 kp:Fz K (.ref C)=true
theorem ZxM {pins:List (Ab×Obj)} {σ:St} {H:Hp} {s:Ak} {Q:VK} {us:List Ae} {vs:List V} (M:Mk X.K C f) (F:FnOk X.prog X.w X.K X.mg X.base CX k f fd ps sp) (hr:Room (k+1) X.A) (hb:Be X.K fd ps ds) (hd:Vals dvs ds)
  (hx:Jq CX X E) (I:Inv X pins σ H s) (r:Vals vs us)
  (h:∀x dx,H x=none→H dx=none→dx≠x→sp (.ref x::(vs++dvs)) (upd (upd H dx (.own x)) x (.ins C dx [])) (fun v H2=>v=.non∧Q (.ref x) H2) E) :
  Bb (model X.prog X.w) X.A (call (.ref C) us) (EP X pins σ Q) X.xe s:=by
 have hq:=h (s.heap.objs.size+1) s.heap.objs.size (I.hok.fresh (VR _)) (I.hok.fresh (Bv _)) (DQ (Oe _));have I2:=Inv.made (C:=C) I;have r2:Vals (V.ref (s.heap.objs.size+1)::(vs++dvs)) (Do (s.heap.objs.size+1)::(us++ds)):=.cons rfl (r.append hd)
 have hl:(Do (s.heap.objs.size+1)::us++ds).length=ps.length:=by
  have e:=r2.length;rw[F.len _ _ _ _ hq]at e;exact e.symm
 refine wpAny_call (ZC1 (f:=f) I.kIn M.makes M.init (beq_iff_eq.mp M.fn) (du (F.run _ X.stack _ _ ⟨Do (s.heap.objs.size+1)::us,[]⟩ (Do (s.heap.objs.size+1)::(us++ds)) _ _ E (hr.make C us [])
  (I2.env0.make C us []) (hb _ (Do (s.heap.objs.size+1)::us) I2.kIn hl) r2 hq) fun r s' hq'=>?_))
 cases r with
 | error e=>exact hx pins σ _ _ e s' I2 hq'
 | ok fl=>
  cases fl with
  | ret u=>
   obtain⟨v,H',I3,rv,ev,q3⟩:=I2.after hq';subst ev;exact⟨rv,⟨V.ref (s.heap.objs.size+1),H',I3,rfl,q3⟩⟩
  | next=>exact GJ hq'
  | brk=>exact GJ hq'
  | cont=>exact GJ hq'
theorem ZGl (M:Mk X.K C f) (F:FnOk X.prog X.w X.K X.mg X.base CX k f fd ps sp) (hr:Room (k+1) X.A) (hg:Gl X x) (hm:X.mg x=some (.ref C)) (hb:Be X.K fd ps ds) (hd:Vals dvs ds) (hx:Jq CX X E)
  (ha:PA X (e::es) t) (hdb:(x == ("__debug__" : Str))=false:=by decide) (he:BX (e::es) X.env=(false,eval e X.env)::BX es X.env:=by rfl) (hpl:(backTo pos (BX es X.env)).any (·.1)=false:=by rfl) :
  PE X (.Call (.Name x p) (e::es) [] pos) (Wx C sp dvs E t):=by
 intro pins s σ H Q I h;refine TY (Um I hg hm ?_ hdb);refine dw (h₀:=X.base) I.ok.mod.kin M.kp (thn (ha pos pins s σ H _ I h) fun us s1 ⟨vs,H1,I1,r,q⟩=>⟨I1.kIn,?_⟩) he hpl;exact ZxM M F hr hb hd hx I1 r q
theorem ZDg (M:Mk X.K C f) (F:FnOk X.prog X.w X.K X.mg X.base CX k f fd ps sp) (hr:Room (k+1) X.A) (hg:Gl X x) (hm:X.mg x=some (.ref C)) (hb:Be X.K fd ps ds) (hd:Vals dvs ds) (hx:Jq CX X E)
  (hdb:(x == ("__debug__" : Str))=false:=by decide):PE X (.Call (.Name x p) [] [] pos) (Wx C sp dvs E tNil):=by
 intro pins s σ H Q I h;refine TY (Um I hg hm ?_ hdb);exact Ybx I.kIn M.kp (ZxM (us:=[]) M F hr hb hd hx I .nil h)
end
section
variable {X:Cx} {CX:CXT} {k:Nat} {f C:Ab} {fd:Bc} {ps ks:List Str} {sp:Sp} {E:XK} {x m:Str} {p pos apos kpos:Pos} {e o:Aw} {es:List Aw} {kws:List Hy} {te ta:TE} {t tk:TA} {nm:Option Str}
variable {g:List Ae→List Ae→List Ae} {gV:List V→List V→List V}
end
structure FnScope (N P:List Str) (sc:Gn):Prop where
 kind:sc.kind=.function
 co:sc.isCoroutine=false
 gen:sc.isGenerator=false
 nd:N.Nodup
 pre:N.take P.length=P
 par:∀x∈P,sc.names.lookup x=some .local∨sc.names.lookup x=some .cell
 nofree:∀y∈sc.names,y.2≠.free
theorem Zto {kindOf:Str→Option T3} {x:Str}:∀{binds:List (Str×Ae)} {m:Str→Option Ae},(∀v,(x,v)∉binds)→bindL kindOf binds m x=m x
 | [],_,_=>rfl
 | (n,v)::r,m,h=>by
  unfold bindL;rw[Zto fun w hw=>h w (CW _ hw)]
  split
  ·have:x≠n:=by rintro rfl; exact h v Dg
   simp[this]
  ·rfl
theorem Ztm {kindOf:Str→Option T3} {x:Str}:∀{binds:List (Str×Ae)} {m:Str→Option Ae},(∀v,(x,v)∉binds)→bindC kindOf binds m x=m x
 | [],_,_=>rfl
 | (n,v)::r,m,h=>by
  unfold bindC;rw[Ztm fun w hw=>h w (CW _ hw)]
  split
  ·rfl
  ·have:x≠n:=by rintro rfl; exact h v Dg
   simp[this]
theorem Ztn {kindOf:Str→Option T3} {x:Str} {v:Ae}:∀{P:List Str} {vs:List Ae} {i:Nat} {m:Str→Option Ae},P.Nodup→P[i]?=some x→vs[i]?=some v→kindOf x=some .local→
  bindL kindOf (P.zip vs) m x=some v
 | [],_,_,_,_,h,_,_=>by simp at h
 | _::_,[],_,_,_,_,h,_=>by simp at h
 | p::P,w::vs,0,m,nd,h1,h2,hk=>by
  simp at h1 h2; subst h1; subst h2;show bindL kindOf ((p,w)::P.zip vs) m p=_;unfold bindL;rw[Zto fun v hv=>(EY.mp nd).1 (Yau hv).1,if_pos hk];simp
 | p::P,w::vs,i+1,m,nd,h1,h2,hk=>by
  show bindL kindOf ((p,w)::P.zip vs) m x=_;unfold bindL;exact Ztn (i:=i) (EY.mp nd).2 (by simpa using h1) (by simpa using h2) hk
theorem Ztl {kindOf:Str→Option T3} {x:Str} {v:Ae}:∀{P:List Str} {vs:List Ae} {i:Nat} {m:Str→Option Ae},P.Nodup→P[i]?=some x→vs[i]?=some v→kindOf x≠some .local→
  bindC kindOf (P.zip vs) m x=some v
 | [],_,_,_,_,h,_,_=>by simp at h
 | _::_,[],_,_,_,_,h,_=>by simp at h
 | p::P,w::vs,0,m,nd,h1,h2,hk=>by
  simp at h1 h2; subst h1; subst h2;show bindC kindOf ((p,w)::P.zip vs) m p=_;unfold bindC;rw[Ztm fun v hv=>(EY.mp nd).1 (Yau hv).1,if_neg hk];simp
 | p::P,w::vs,i+1,m,nd,h1,h2,hk=>by
  show bindC kindOf ((p,w)::P.zip vs) m x=_;unfold bindC;exact Ztl (i:=i) (EY.mp nd).2 (by simpa using h1) (by simpa using h2) hk
noncomputable def start (N:List Str) (vs:List V):St:=vs.map some++JL (N.length - vs.length) none
noncomputable def cxOf (CX:CXT) (P:Bp) (w:Bg) (K:Ao) (mg:Str→Option Ae) (base:Aq) (N:List Str) (qual:Str) (scope:Gn) (f:Ab) (cd:Ae) (A:Cu) (outer:List Env) (s:Ak) (H:Hp) (E:XK):Cx where
 prog:=P
 w:=w
 K:=K
 mg:=mg
 base:=base
 A:=A.deeper (envOfC qual scope s.heap.objs.size f cd)
 N:=N
 s₀:=s
 H₀:=H
 env:=envOfC qual scope s.heap.objs.size f cd
 outer:=outer
 stack:=envOfC qual scope s.heap.objs.size f cd::outer
 ex:=[]
 calm:=true
 fn:=fun _=>true
 pn:=[]
 xe:=fun e s'=>Bb (model P w) (A.deeper (envOfC qual scope s.heap.objs.size f cd)) (leaving (envOfC qual scope s.heap.objs.size f cd) e) (fun _ s''=>CX outer H s E e s'') (fun e' s''=>CX outer H s E e' s'') s'
theorem Zw3 {sc:Gn} {n:Nat} {x:Str} (h:sc.names.lookup x=some .cell):∃c,(cellsFrom n sc.names []).lookup x=some c:=by
 have q:=Yby sc.names n [] (.inl h);exact Option.isSome_iff_exists.mp q
theorem ZAf {CX:CXT} {P:Bp} {w:Bg} {K:Ao} {mg:Str→Option Ae} {base:Aq} {N ps:List Str} {qual:Str} {scope:Gn} {f:Ab} {cd:Ae} {A:Cu} {outer:List Env} {s s1:Ak} {H:Hp} {E:XK} {us:List Ae} {vs:List V}
  (S:FnScope N ps scope) (hd:A.handled=none) (e0:Env0 P w K mg base A outer s H) (hl:vs.length=ps.length) (r:Vals vs us)
  (x:InCallC s s.heap.objs.size (bindL (envOfC qual scope s.heap.objs.size f cd).kindOf (ps.zip us) fun _=>none) (cellsFrom (s.heap.objs.size+1) scope.names []) (bindC (envOfC qual scope s.heap.objs.size f cd).kindOf (ps.zip us) fun _=>none) s1) :
  Inv (cxOf CX P w K mg base N qual scope f cd A outer s H E) [] (start N vs) H s1:=by
 have hpl:ps.length≤N.length:=by have:=congrArg K7 S.pre; rw[Gu]at this; omega
 obtain⟨h1,tk,rfl,hk⟩:=x.done;have noA:∀b:Ab,b∉(cxOf CX P w K mg base N qual scope f cd A outer s H E).ex:=fun b z=>absurd (show b∈([]:List Ab) from z) (by simp)
 refine⟨⟨e0.mod,S.kind,rfl,rfl,Bv _,fun y z c h1 h2=>?_,fun y hy=>?_,fun y c _ h=>?_,fun _=>hd,Cu.frames_deeper e0.frames,.inr ⟨rfl,rfl⟩,fun b z=>absurd z (noA b),e0.bs,e0.bsz,fun b _ _=>noA b,fun b z=>absurd z (noA b),e0.funs,e0.frf⟩,
  rfl,e0.bare,Un.kept hk,⟨_,x.toInCall.ns,fun i y v h1 h2 h3=>?_⟩,fun y c h=>⟨_,x.cell y c h⟩,e0.hok.fresh (Bv _),fun y c h=>?_,fun p hp=>absurd (show p∈([]:List (Ab×Obj)) from hp) (by simp),e0.hok.kept hk,?_⟩
 ·exact name_of_addr x.apart (V0 h1) (V0 h2)
 ·have hy:scope.names.lookup y=some .cell∨scope.names.lookup y=some .free:=hy
  rcases hy with hy | hy
  ·exact Zw3 hy
  ·exact absurd rfl (S.nofree _ (V0 hy))
 ·exact VD (x.above y c (V0 h))
 ·have hi:i < vs.length:=by
   unfold start at h2
   by_cases hi:i < vs.length
   ·exact hi
   ·rw[Yav (by simpa using hi)]at h2
    rw[List.getElem?_replicate]at h2
    split at h2 <;> cases h2
  have ha:vs[i]?=some v:=by
   unfold start at h2;rw[Yaw (by simpa using hi),El]at h2
   cases e:vs[i]? with
   | none=>rw[e]at h2; cases h2
   | some a=>rw[e]at h2; cases h2; rfl
  obtain⟨u,hu,rv⟩:=r.get ha
  have hp:ps[i]?=some y:=by
   rw[←S.pre,Ybz (by omega)]; exact h1
  have ndP:ps.Nodup:=by rw[←S.pre]; exact S.nd.sublist (List.take_sublist _ _)
  refine⟨u,rv,?_⟩
  rcases S.par y (Dm hp) with k | k
  ·exact .inl ⟨k,Ztn ndP hp hu k⟩
  ·obtain⟨c,e⟩:=Zw3 (n:=s.heap.objs.size+1) k
   refine .inr ⟨.inl k,c,e,?_⟩;have q:=x.cell y c e;rw[Ztl ndP hp hu (by show scope.names.lookup y≠_; rw[k]; decide)]at q;exact q
 ·exact e0.hok.fresh (VD (x.above y c (V0 h)))
 ·unfold start
  show _=N.length;rw[CZ,Ax,Yax];omega
theorem ZHw {CX:CXT} {P:Bp} {w:Bg} {K:Ao} {mg:Str→Option Ae} {base:Aq} {k:Nat} {f:Ab} {name qual:Str} {params:Arguments} {body:List Ar} {scope:Gn} {dV kV doc pm cdv ct oc:Ae} {an od:Option Ab}
  {osl:Array (Option Ae)} {N ps:List Str} {sp:Sp} (lk:K.lookup f=some ⟨oc,od,.func (Kg name qual params body scope dV kV doc pm an cdv ct),osl⟩) (hcd:V2 K cdv qual=true) (S:FnScope N ps scope)
  (len:∀vs H Q E,sp vs H Q E→vs.length=ps.length)
  (hbody:∀(A:Cu) (outer:List Env) (s:Ak) (H:Hp) (vs:List V) (Q:VK) (E:XK),Room k (A.deeper (envOfC qual scope s.heap.objs.size f cdv))→sp vs H Q E→
   ∃t,PSs (cxOf CX P w K mg base N qual scope f cdv A outer s H E) body t∧t { nx:=fun _ H'=>Q .non H',rt:=Q } (start N vs) H) :
  FnOk P w K mg base CX (k+1) f (Kg name qual params body scope dV kV doc pm an cdv ct) ps sp:=by
 refine⟨len,fun A outer s H args us vs Q E hr e0 hb r hsp=>?_⟩;have hl:=len _ _ _ _ hsp;have KX:K.In s.heap:=e0.mod.kin.keeps fun b o e=>(e0.bs b o e).1;have lim:s.heap.NoLimit:=e0.mod.nolimit.keeps fun b o e=>(e0.bs b o e).1
 have hkind:∀y∈ps.zip us,scope.names.lookup y.1=some .local∨(scope.names.lookup y.1=some .cell∧((cellsFrom (s.heap.objs.size+1) scope.names []).lookup y.1).isSome=true):=fun⟨n,v⟩ hy=>by
  rcases S.par n (Yau hy).1 with q | q
  ·exact .inl q
  ·exact .inr ⟨q,Yby _ _ _ (.inl q)⟩
 refine codeAny_call_function hr.depth (KX _ _ lk) rfl S.co S.gen rfl (PySem.W.codeRec_of KX hcd) (hb _ _ _ _ ?_);refine wpAny_newFunctionEnv_cells S.kind hkind fun env he s1 x=>?_;subst he;refine⟨lim.keeps x.toInCall.keep,codeAny_func ?_⟩;obtain⟨t,ht,hq⟩:=hbody A outer s H vs Q E (hr.deeper _) hsp;have I:Inv (cxOf CX P w K mg base N qual scope f cdv A outer s H E) [] (start N vs) H s1:=ZAf S hr.hd e0 hl r x;refine Fv (ht [] s1 (start N vs) H _ I hq) (fun fl s' hs=>?_) fun e s' hs=>hs
 have fin:∀{σ':St} {H':Hp} {v:V} {u:Ae},Inv (cxOf CX P w K mg base N qual scope f cdv A outer s H E) [] σ' H' s'→RelV v u→Q v H'→CE outer P w H s Q u s':=
  fun {σ' H' v u} J rv q=>⟨v,H',J.os,J.bare,J.base,J.hok,rv,q⟩
 cases fl with
 | ret u=>
  obtain⟨v,σ',H',J,rv,q⟩:=hs;exact fin J rv q
 | next=>
  obtain⟨σ',H',J,q⟩:=hs;exact fin (v:=V.non) (u:=Gm) J rfl q
 | brk=>
  obtain⟨_,_,_,q⟩:=hs;exact GJ q
 | cont=>
  obtain⟨_,_,_,q⟩:=hs;exact GJ q
end L2
namespace L2
open PySem PySem.Spec PyProof.Rows
section
variable {X:Cx} {x:Str} {p pos:Pos} {e:Aw} {es:List Aw} {t:TA} {id T:String} {r:List V→Hp→VK→Prop}
noncomputable abbrev tCB (r:List V→Hp→VK→Prop) (t:TA):TE:=fun σ H Q=>t σ H fun vs H1=>r vs H1 Q
theorem Dh (hc:Gy X (.builtin id) r) (hg:Gl X x) (hm:X.mg x=none) (hv:bootBuiltins x=some (.builtin id)) (ha:PA X (e::es) t) (hn:x≠"__name__":=by decide) (hdb:(x == ("__debug__" : Str))=false:=by decide)
  (he:BX (e::es) X.env=(false,eval e X.env)::BX es X.env:=by rfl) (hpl:(backTo pos (BX es X.env)).any (·.1)=false:=by rfl):PE X (.Call (.Name x p) (e::es) [] pos) (tCB r t):=by
 intro pins s σ H Q I h;refine TY (Lf I hg hm hv ?_ hn hdb);exact Ydd (thn (ha pos pins s σ H _ I h) fun us s1 ⟨vs,H1,I1,r1,q1⟩=>hc pins s1 σ H1 vs us Q I1 r1 q1) he hpl
theorem Gg (hc:Gy X (.type T) r) (hg:Gl X x) (hm:X.mg x=none) (hv:bootBuiltins x=some (.type T)) (ha:PA X (e::es) t) (hn:x≠"__name__":=by decide) (hdb:(x == ("__debug__" : Str))=false:=by decide)
  (he:BX (e::es) X.env=(false,eval e X.env)::BX es X.env:=by rfl) (hpl:(backTo pos (BX es X.env)).any (·.1)=false:=by rfl):PE X (.Call (.Name x p) (e::es) [] pos) (tCB r t):=by
 intro pins s σ H Q I h;refine TY (Lf I hg hm hv ?_ hn hdb);exact VJ (thn (ha pos pins s σ H _ I h) fun us s1 ⟨vs,H1,I1,r1,q1⟩=>hc pins s1 σ H1 vs us Q I1 r1 q1) he hpl
end
end L2
namespace HT
open PySem PyProof.Rows
section
open PySem.SeqAt
open PySem.AutoSeq1 (wpAny_loadPart')
open PySem.MeetsSeq PySem.MeetsSeq2 PySem.MeetsSeq3
end
section
variable {prog:Bp} {w:Bg} {A:Cu} {E:Ae→Ak→Prop} {s:Ak}
noncomputable def sIx (n d:Nat):Option Int→Nat
 | none=>d
 | some v=>if v < 0 then(v+(n:Int)).toNat else min v.toNat n
theorem sIx_none (n d:Nat):sIx n d none=d:=rfl
theorem sIx_nat (n d k:Nat):sIx n d (some (k:Int))=min k n:=by
 show(if (k:Int) < 0 then((k:Int)+(n:Int)).toNat else min (k:Int).toNat n)=min k n;rw[if_neg (by omega),JM]
theorem ZI4 (n d:Nat) (hd:d≤n) (o:Option Int):sIx n d o≤n:=by
 cases o with
 | none=>exact hd
 | some v=>
  show(if v < 0 then(v+(n:Int)).toNat else min v.toNat n)≤n
  by_cases hv:v < 0
  ·rw[if_pos hv]; omega
  ·rw[if_neg hv]; exact YbA _ _
theorem ZzJ (v:Int) (n d:Nat):(if v < 0 then max (v+(n:Int)) 0 else min v (n:Int))=((sIx n d (some v):Nat):Int):=by
 show(if v < 0 then max (v+(n:Int)) 0 else min v (n:Int))=(((if v < 0 then(v+(n:Int)).toNat else min v.toNat n):Nat):Int)
 by_cases hv:v < 0
 ·simp only [if_pos hv]; omega
 ·simp only [if_neg hv]; omega
theorem Zyb (lo hi:Option Int) (n:Nat):Yay lo hi 1 (n:Int)=(((sIx n 0 lo:Nat):Int),((sIx n n hi:Nat):Int)):=by
 have h1 : ¬((1:Int) < 0):=by omega
 unfold Yay;simp only [h1,if_false];refine Prod.ext ?_ ?_
 ·cases lo with
  | none=>rfl
  | some v=>exact ZzJ v n 0
 ·cases hi with
  | none=>rfl
  | some v=>exact ZzJ v n n
theorem Zy3 (i j:Nat):fc (i:Int) (j:Int) 1=j - i:=by
 unfold fc
 have h1:(1:Int) > 0:=by omega
 simp only [h1,if_true,Int.ediv_one]
 split <;> omega
theorem Zrp {v:Ae} {o:Option Int} {Q:Option Int→Ak→Prop} (p:Kh v o) (h:Q o s):Bb (model prog w) A (Yde v) Q E s:=by
 cases p with
 | none=>exact slicePart_none h
 | int i t=>exact slicePart_int h
theorem Zn8 {sl:Ab} {vl vu:Ae} {lo hi:Option Int} {n:Nat} {Q:Int×Int×Nat→Ak→Prop} (hs:s.heap.IsSliceOf sl vl vu .none) (pl:Kh vl lo) (pu:Kh vu hi)
  (h:Q (((sIx n 0 lo:Nat):Int),1,sIx n n hi - sIx n 0 lo) s):Bb (model prog w) A (YbB (.ref sl) (pure (n:Int))) Q E s:=by
 obtain⟨os,hos,hcs,hds⟩:=id hs;unfold YbB Ydf;refine BP (BP (Jl hos hds (x:=vl) rfl (BP (Jl hos hds (x:=vu) rfl (BP (Jl hos hds (x:=.none) rfl (DK ?_)))))));refine BP (slicePart_none ?_);show Bb _ _ (if ((1:Int) == 0)=true then _ else _) _ _ s;rw[if_neg (by decide)];refine BP (Zrp pl (BP (Zrp pu (BP (DK ?_)))));show Bb _ _ (match Yay lo hi 1 (n:Int) with | (lo,hi)=>pure (lo,(1:Int),fc lo hi 1)) _ _ s;rw[Zyb lo hi n];show Bb _ _ (pure (((sIx n 0 lo:Nat):Int),(1:Int),fc ((sIx n 0 lo:Nat):Int) ((sIx n n hi:Nat):Int) 1)) _ _ s;rw[Zy3];exact DK h
theorem ZDj (xs:Array Ae) (i k:Nat):((Im k).filterMap fun(m:Nat)=>xs[((i:Int)+(m:Int) * 1).toNat]?).toArray=((xs.toList.drop i).take k).toArray:=by
 have e:(fun(m:Nat)=>xs[((i:Int)+(m:Int) * 1).toNat]?)=fun m=>xs[i+m]?:=by
  funext m
  have:((i:Int)+(m:Int) * 1).toNat=i+m:=by omega
  rw[this]
 rw[e];have:=pick_run xs i k;rw[List.filterMap_map]at this;have e2:((fun x=>xs[x]?) ∘ fun x=>i+x)=fun m=>xs[i+m]?:=rfl;rw[e2]at this;rw[this]
theorem getItem_tuple_cut {t sl:Ab} {items:Array Ae} {vl vu:Ae} {lo hi:Option Int} {Q:Ae→Ak→Prop} (ht:IsTup s.heap t items) (hs:s.heap.IsSliceOf sl vl vu .none) (pl:Kh vl lo) (pu:Kh vu hi)
  (hw : ¬(sIx items.size 0 lo=0∧sIx items.size items.size hi=items.size))
  (h:Q (.ref s.heap.objs.size) { s with heap:=s.heap.push { cls:=.type "tuple",data:=.seq ((items.toList.drop (sIx items.size 0 lo)).take (sIx items.size items.size hi - sIx items.size 0 lo)).toArray } })
  (hsz:items.size≤BW):Bb (model prog w) A (getItem (.ref t) (.ref sl)) Q E s:=by
 have htake:sizeOk (.seq ((items.toList.drop (sIx items.size 0 lo)).take (sIx items.size items.size hi - sIx items.size 0 lo)).toArray):=by
  show((items.toList.drop (sIx items.size 0 lo)).take (sIx items.size items.size hi - sIx items.size 0 lo)).toArray.size≤BW;rw[Du,Gu,JN,Hg];omega
 have hj:sIx items.size items.size hi≤items.size:=ZI4 _ _ (Bv _) hi;obtain⟨os,hos,hcs,hds⟩:=id hs;have hTs:s.TypeIs (.ref sl) "slice":=⟨os,hos,hcs⟩;unfold getItem
 try with_reducible refine cz ?_
 first | refine BP (DK ?_) | skip
 refine BP (wpAny_sequenceKey ht.typeIs (by decide) ?_)
 refine BP (Yaz (name:=Gb "__getitem__") ht.typeIs fj
  (YaA fj ht.typeIs entry_tuple_getitem ?_ (args_tuple_getitem _ _)))
 show Bb _ _ (Ydg (.ref t) >>= _) _ _ s;refine BP (tupleItemsOf_ ht ?_);refine BP (wpAny_typeOf hTs ?_);rw[if_pos (by decide)];refine BP (Zn8 hs pl pu ?_)
 have hno : ¬((((sIx items.size 0 lo:Nat):Int) == 0 && (1:Int) == 1 && (sIx items.size items.size hi - sIx items.size 0 lo) == items.size)=true):=by
  intro q;rw[Fi,Fi]at q;have q1:((sIx items.size 0 lo:Nat):Int)=0:=V3 q.1.1;have q2:sIx items.size items.size hi - sIx items.size 0 lo=items.size:=V3 q.2;exact hw ⟨by omega,by omega⟩
 show Bb _ _ (if (((sIx items.size 0 lo:Nat):Int) == 0 && (1:Int) == 1 && (sIx items.size items.size hi - sIx items.size 0 lo) == items.size)=true then _ else _) _ _ s;rw[if_neg hno,ZDj]
 first
  | exact BP (m:=fu _) (K8 (DK ⟨_,rfl,DK h⟩) htake)
  | exact BP (m:=fu _) (K8 (BP (DK (DK ⟨_,rfl,DK h⟩))) htake)
  | exact BP (BP (m:=fu _) (K8 (DK (DK ⟨_,rfl,DK h⟩)) htake))
  | exact BP (BP (m:=fu _) (K8 (DK ⟨_,rfl,DK h⟩) htake))
end
end HT
namespace L2
open PySem PySem.Spec PyProof.Rows
noncomputable abbrev TO:=St→Hp→(Option Int→Hp→Prop)→Prop
def PO (X:Cx) (e:Option Aw) (t:TO):Prop:=
 ∀(pins:List (Ab×Obj)) (s:Ak) (σ:St) (H:Hp) (Q:Option Int→Hp→Prop),Inv X pins σ H s→t σ H Q→
  Bb (model X.prog X.w) X.A (evalPart e X.env) (fun u s'=>∃o H',Inv X pins σ H' s'∧Kh u o∧Q o H') X.xe s
noncomputable abbrev nu:TO:=fun _ H Q=>Q none H
noncomputable abbrev oh (t:TE):TO:=fun σ H Q=>t σ H fun x H1=>∃i,x=.int i∧Q (some i) H1
section
variable {X:Cx} {e:Aw} {te:TE} {lo hi:Option Aw} {tl th:TO} {pos p2:Pos}
theorem JW:PO X none nu:=by
 intro pins s σ H Q I h;rw[evalPart_none];exact DK ⟨none,H,I,.none,h⟩
theorem Ho (h:PE X e te):PO X (some e) (oh te):=by
 intro pins s σ H Q I hw;rw[evalPart_some];refine thn (h pins s σ H _ I hw) fun u s1 h_=>?_;obtain⟨x,H1,I1,r1,q1⟩:=h_;obtain⟨i,rfl,q⟩:=q1;obtain⟨t,rfl⟩:=r1;exact⟨some i,H1,I1,.int i t,q⟩
def SlR (X:Cx) (r:V→Option Int→Option Int→Hp→VK→Prop):Prop:=
 ∀(pins:List (Ab×Obj)) (s:Ak) (σ:St) (H:Hp) (x:V) (v vl vu:Ae) (lo hi:Option Int) (sl:Ab) (Q:VK),Inv X pins σ H s→RelV x v→s.heap.IsSliceOf sl vl vu .none→Kh vl lo→Kh vu hi→r x lo hi H Q→
  ∃T id,typeLookup (.type T) "__getitem__" = pure (some (.builtin id))∧s.TypeIs v T∧Bb (model X.prog X.w) X.A (getItem v (.ref sl)) (EP X pins σ Q) X.xe s
theorem SlR.or {r r':V→Option Int→Option Int→Hp→VK→Prop} (h:SlR X r) (h':SlR X r'):SlR X (fun x lo hi H Q=>r x lo hi H Q∨r' x lo hi H Q):=by
 intro pins s σ H x v vl vu lo hi sl Q I rx hs pl pu q
 rcases q with q | q
 ·exact h pins s σ H x v vl vu lo hi sl Q I rx hs pl pu q
 ·exact h' pins s σ H x v vl vu lo hi sl Q I rx hs pl pu q
noncomputable abbrev tSl (r:V→Option Int→Option Int→Hp→VK→Prop) (te:TE) (tl th:TO):TE:=fun σ H Q=>te σ H fun x H1=>tl σ H1 fun l H2=>th σ H2 fun u H3=>r x l u H3 Q
theorem Iz {r:V→Option Int→Option Int→Hp→VK→Prop} (hr:SlR X r) (he:PE X e te) (hl:PO X lo tl) (hu:PO X hi th):PE X (.Subscript e (.Slice lo hi none p2) pos) (tSl r te tl th):=by
 intro pins s σ H Q I h;refine YaB (thn (he pins s σ H _ I h) fun v s1 h_=>?_);obtain⟨x,H1,I1,r1,q1⟩:=h_;refine wpAny_Slice (thn (hl pins s1 σ H1 _ I1 q1) fun vl s2 ⟨l,H2,I2,pl,q2⟩=>thn (hu pins s2 σ H2 _ I2 q2) fun vu s3 h_=>?_);obtain⟨u,H3,I3,pu,q3⟩:=h_;rw[evalPart_none];refine DK ?_;have I4:Inv X pins σ H3 { s3 with heap:=s3.heap.push { cls:=.type "slice",data:=.fields #[vl,vu,.none] } }:=I3.kept (t':=s3.toks) fun b ob q=>Ek _ q;obtain⟨T,id,hT,ht,hg⟩:=hr pins { s3 with heap:=s3.heap.push { cls:=.type "slice",data:=.fields #[vl,vu,.none] } } σ H3 x v vl vu l u s3.heap.objs.size Q I4 r1 (Ydh ..) pl pu q3;show Bb (model X.prog X.w) X.A (subscriptTail e (.Slice lo hi none p2) v (.ref s3.heap.objs.size)) (EP X pins σ Q) X.xe { s3 with heap:=s3.heap.push { cls:=.type "slice",data:=.fields #[vl,vu,.none] } };exact tail_any (ops:=[.ref s3.heap.objs.size,v]) ht hT hg (by with_unfolding_all rfl)
noncomputable def cutV (xs:List V) (lo hi:Option Int):List V:=(xs.drop (HT.sIx xs.length 0 lo)).take (HT.sIx xs.length xs.length hi - HT.sIx xs.length 0 lo)
theorem ZoS (xs:List V) (lo hi:Option Int):(cutV xs lo hi).length≤xs.length:=by
 unfold cutV;rw[Gu,JN];omega
noncomputable def rSlT (K:Ao):V→Option Int→Option Int→Hp→VK→Prop:=fun x lo hi H Q=>∃a xs,x=.ref a∧SqT K H a xs∧
 ¬(HT.sIx xs.length 0 lo=0∧HT.sIx xs.length xs.length hi=xs.length)∧∀p,H p=none→Q (.ref p) (upd H p (.tup (cutV xs lo hi)))
theorem ZJa:SlR X (rSlT X.K):=by
 intro pins s σ H x v vl vu lo hi sl Q I rx hs pl pu h;obtain⟨a,xs,rfl,hx,hw,q⟩:=h
 cases rx
 obtain⟨its,r,ht,hz⟩:=I.tuple hx
 have hlen:its.toArray.size=xs.length:=by rw[Du]; exact r.length.symm
 refine⟨"tuple",_,fj.lookup,ht.typeIs,?_⟩;refine HT.getItem_tuple_cut ht hs pl pu (by rw[hlen]; exact hw) ?_ (by rw[hlen]; exact hz);rw[hlen];refine⟨.ref s.heap.objs.size,_,I.laid (t':=s.toks) (o:=.tup (cutV xs lo hi)) (fun b ob q=>Ek _ q) (Bv _) ?_,rfl,q _ (I.hok.fresh (Bv _))⟩;exact⟨Ex (ZoS xs lo hi) hz,_,(r.drop (HT.sIx xs.length 0 lo)).take (HT.sIx xs.length xs.length hi - HT.sIx xs.length 0 lo),TupN.new _ _⟩
end
end L2
namespace L2
open PySem PySem.Spec PyProof.Rows
noncomputable def ixN (n:Nat) (i:Int):Option Nat:=if 0≤i then(if i < n then some i.toNat else none) else if -(n:Int)≤i then some (i+n).toNat else none
noncomputable def atI {α:Type} (xs:List α) (i:Int):Option α:=(ixN xs.length i).bind fun j=>xs[j]?
theorem ZAg {n:Nat} {i:Int} {j:Nat} (h:ixN n i=some j):seqIndex? i n=some j∧j < n∧-(n:Int)≤i∧i < n:=by
 unfold ixN at h
 by_cases h0:0≤i
 ·rw[if_pos h0]at h
  by_cases h1:i < n
  ·rw[if_pos h1]at h
   have e:i.toNat=j:=Dl h;exact⟨by rw[YaC h0 h1,e],by omega,by omega,h1⟩
  ·rw[if_neg h1]at h; cases h
 ·rw[if_neg h0]at h
  by_cases h1 : -(n:Int)≤i
  ·rw[if_pos h1]at h
   have e:(i+n).toNat=j:=Dl h;exact⟨by rw[seqIndex_neg (by omega) h1,e],by omega,h1,by omega⟩
  ·rw[if_neg h1]at h; cases h
theorem ou {α:Type} {xs:List α} {i:Int} {v:α} (h:atI xs i=some v):∃j,seqIndex? i xs.length=some j∧xs[j]?=some v∧j < xs.length∧-(xs.length:Int)≤i∧i < xs.length:=by
 unfold atI at h
 cases e:ixN xs.length i with
 | none=>rw[e]at h; cases h
 | some j=>
  rw[e]at h;obtain⟨h1,h2,h3,h4⟩:=ZAg e;exact⟨j,h1,h,h2,h3,h4⟩
theorem Lj {α:Type} {xs:List α} {j:Nat} {v:α} (h:xs[j]?=some v):atI xs (j:Int)=some v:=by
 have hj:j < xs.length:=(Ej.mp h).1
 have e:ixN xs.length (j:Int)=some j:=by
  unfold ixN;rw[if_pos (by omega),if_pos (by omega)]; simp
 unfold atI; rw[e]; exact h
def ZEZ (b:Aw):Prop:=∀o i,subscripted b false o i=operate [o,i] (getItem o i)
def IxR (X:Cx) (r:R2):Prop:=
 ∀(value slice:Aw) (pins:List (Ab×Obj)) (s:Ak) (σ:St) (H:Hp) (x y:V) (v u:Ae) (Q:VK),Inv X pins σ H s→RelV x v→RelV y u→r x y H Q→
  subscripted slice false v u=operate [v,u] (getItem v u)→Bb (model X.prog X.w) X.A (subscriptTail value slice v u) (EP X pins σ Q) X.xe s
def MtR (X:Cx) (id:String) (r:V→List V→Hp→VK→Prop):Prop:=
 ∀(pins:List (Ab×Obj)) (s:Ak) (σ:St) (H:Hp) (x:V) (xs:List V) (v:Ae) (us:List Ae) (Q:VK),Inv X pins σ H s→RelV x v→Vals xs us→r x xs H Q→
  Bb (model X.prog X.w) X.A (call (.builtin id) (v::us)) (EP X pins σ Q) X.xe s
section
variable {X:Cx} {a b:Aw} {ta tb:TE} {pos:Pos}
theorem IxR.or {r r':R2} (h:IxR X r) (h':IxR X r'):IxR X (fun x y H Q=>r x y H Q∨r' x y H Q):=by
 intro value slice pins s σ H x y v u Q I rx ry q hs
 rcases q with q | q
 ·exact h value slice pins s σ H x y v u Q I rx ry q hs
 ·exact h' value slice pins s σ H x y v u Q I rx ry q hs
theorem Bm {r:R2} (hr:IxR X r) (ha:PE X a ta) (hb:PE X b tb) (hs:ZEZ b):PE X (.Subscript a b pos) (tOp r ta tb):=by
 intro pins s σ H Q I h;exact YaB (binT ha hb I h fun v u s2 x y H2 I2 rx ry q=>hr a b pins s2 σ H2 x y v u Q I2 rx ry q (hs _ _))
noncomputable def rIxL (K:Ao):R2:=fun x y H Q=>∃p xs i v,x=.ref p∧y=.int i∧SqL K H p xs∧atI xs i=some v∧Q v H
noncomputable def rIxT (K:Ao):R2:=fun x y H Q=>∃p xs i v,x=.ref p∧y=.int i∧SqT K H p xs∧atI xs i=some v∧Q v H
noncomputable def rIxS:R2:=fun x y H Q=>∃z i c,x=.str z∧y=.int i∧z.length≤BW∧atI z.cps.toList i=some c∧Q (.str ⟨#[c]⟩) H
theorem ZFD:IxR X (rIxL X.K):=by
 intro value slice pins s σ H x y v u Q I rx ry h hs;obtain⟨p,xs,i,z,rfl,rfl,hq,he,q⟩:=h
 cases rx
 obtain⟨t,rfl⟩:=ry;obtain⟨its,r,pl,hz⟩:=I.list hq;obtain⟨j,h1,h2,h3,h4,h5⟩:=ou he;obtain⟨w,ew,rw'⟩:=r.get h2;have hl:=r.length;have hn:=Ot;have fin:EP X pins σ Q w s:=⟨z,H,I,rw',q⟩
 by_cases h0:0≤i
 ·have hj:i.toNat=j:=by
   rw[YaC h0 h5]at h1;exact Dl h1
  exact item_listR pl.isList h0 (by omega) (by rw[hj]; simpa using ew) fin hs
 ·have hj:(i+(its.toArray.size:Int)).toNat=j:=by
   rw[seqIndex_neg (by omega) h4]at h1;rw[Du,←hl];exact Dl h1
  exact YbC (x:=w) pl.isList.typeIs YbD.lookup
   (wpAny_getItem_list_neg (Q:=fun r s'=>r=w∧EP X pins σ Q r s') pl.isList (by omega) (by rw[Du] <;> omega) (by omega) (by rw[hj]; simpa using ew) ⟨rfl,fin⟩) hs
theorem ZH4:IxR X (rIxT X.K):=by
 intro value slice pins s σ H x y v u Q I rx ry h hs;obtain⟨p,xs,i,z,rfl,rfl,hq,he,q⟩:=h
 cases rx
 obtain⟨t,rfl⟩:=ry;obtain⟨its,r,pl,hz⟩:=I.tuple hq;obtain⟨j,h1,h2,h3,h4,h5⟩:=ou he;obtain⟨w,ew,rw'⟩:=r.get h2;have hl:=r.length;have hn:=Ot;have fin:EP X pins σ Q w s:=⟨z,H,I,rw',q⟩
 exact YbC (x:=w) pl.typeIs fj.lookup
  (getItem_tuple (j:=j) (Q:=fun r s'=>r=w∧EP X pins σ Q r s') pl (by omega) (by omega) (by rw[Du,←hl]; exact h1) (by simpa using ew) ⟨rfl,fin⟩) hs
theorem ZH3:IxR X rIxS:=by
 intro value slice pins s σ H x y v u Q I rx ry h hs;obtain⟨z,i,c,rfl,rfl,hz,he,q⟩:=h;obtain⟨t,rfl⟩:=rx;obtain⟨t',rfl⟩:=ry;obtain⟨j,h1,h2,h3,h4,h5⟩:=ou he
 have hl:z.cps.toList.length=z.length:=by simp[Cq]
 rw[hl]at h1 h4 h5;have hn:=Ot
 exact tail_any (Oh s z t) slot_str_getitem.lookup (getItem_str (c:=c) (by
  have e1:decide (i < -(2 ^ 63:Int))=false:=decide_eq_false (by omega);have e2:decide (i ≥ 2 ^ 63)=false:=decide_eq_false (by omega)
  rw[e1,e2,T4]) (by rw[h1]; simpa using h2) ⟨.str ⟨#[c]⟩,H,I.tok _,⟨_,rfl⟩,q⟩) hs
noncomputable def rIx (K:Ao):R2:=fun x y H Q=>rIxL K x y H Q∨rIxT K x y H Q∨rIxS x y H Q
theorem Bo:IxR X (rIx X.K):=ZFD.or (ZH4.or ZH3)
theorem ZyL (its:List Ae) (n j:Nat) (u:Ae):V4 (·.setIfInBounds j u) { cls:=.type "list",data:=.seq its.toArray n } = { cls:=.type "list",data:=.seq (its.set j u).toArray n }:=by
 simp[V4]
theorem Inv.lst {pins:List (Ab×Obj)} {σ:St} {H:Hp} {s:Ak} {p:Ab} {xs:List V} (I:Inv X pins σ H s) (h:H p=some (.lst xs)) :
  ∃(its:List Ae) (n:Nat),Vals xs its∧s.heap.get? p=some { cls:=.type "list",data:=.seq its.toArray n }∧xs.length≤BW:=by
 obtain⟨z,its,n,r,e⟩:=I.hok p _ h;exact⟨its,n,r,e,z⟩
theorem Inv.lstUpd {pins:List (Ab×Obj)} {σ:St} {H:Hp} {s:Ak} {p:Ab} {xs ys:List V} {its its':List Ae} {n n':Nat} {f:Obj→Obj} (I:Inv X pins σ H s) (h:H p=some (.lst xs))
  (ho:s.heap.get? p=some { cls:=.type "list",data:=.seq its.toArray n }) (hf:f { cls:=.type "list",data:=.seq its.toArray n } = { cls:=.type "list",data:=.seq its'.toArray n' }) (r:Vals ys its') (hz:ys.length≤BW) (t:Nat) :
  Inv X pins σ (upd H p (.lst ys)) { s with heap:=s.heap.update p f,toks:=t }:=by
 have e:(s.heap.update p f).get? p=some { cls:=.type "list",data:=.seq its'.toArray n' }:=by
  rw[gf f ho (by rw[hf] <;> rfl),hf]
 refine I.write (x:=p) (e:=p) (by rw[h]; trivial) (.inl rfl) (fun b u hb q=>(Oi _ _ (Gs hb)).trans q) ⟨_,e⟩ ?_;exact⟨hz,its',n',r,e⟩
noncomputable def ZIW:V→V→V→Hp→(Hp→Prop)→Prop:=fun o i v H Q=>∃p xs k j,o=.ref p∧i=.int k∧H p=some (.lst xs)∧ixN xs.length k=some j∧Q (upd H p (.lst (xs.set j v)))
theorem o5:PSet X ZIW:=by
 intro pins s σ H o i v ov iv u Q I ro ri rv h;obtain⟨p,xs,k,j,rfl,rfl,hp,hj,q⟩:=h
 cases ro
 obtain⟨t,rfl⟩:=ri;obtain⟨its,n,r,ho,hz⟩:=I.lst hp;obtain⟨h1,h2,h3,h4⟩:=ZAg hj;have hl:=r.length;have hn:=Ot
 have I':Inv X pins σ (upd H p (.lst (xs.set j v))) { s with heap:=s.heap.update p (V4 (·.setIfInBounds j u)) }:=
  I.lstUpd hp ho (ZyL its n j u) (r.set rv j) (by rw[List.length_set]; exact hz) s.toks
 by_cases h0:0≤k
 ·have hk:k.toNat=j:=by
   rw[YaC h0 h4]at h1;exact Dl h1
  exact PySem.W.ki_setAt ho h0 (by omega) (by rw[Du,←hl]; exact h4) (by rw[hk]; exact⟨_,I',q⟩)
 ·have hk:(k+(its.toArray.size:Int)).toNat=j:=by
   rw[seqIndex_neg (by omega) h3]at h1;rw[Du,←hl];exact Dl h1
  exact PySem.W.ki_setBack ho (by omega) (by rw[Du,←hl]; exact h3) (by omega) (by rw[hk]; exact⟨_,I',q⟩)
theorem ZuY (lo hi:Option Int) (n:Nat):(sliceBounds lo hi none n).1=((HT.sIx n 0 lo:Nat):Int)∧(sliceBounds lo hi none n).2.1=((HT.sIx n n hi:Nat):Int)∧(sliceBounds lo hi none n).2.2=1:=by
 refine⟨?_,?_,rfl⟩
 ·cases lo with
  | none=>simp[sliceBounds,HT.sIx]
  | some i=>
   simp only [sliceBounds,HT.sIx,YbE,show(1:Int) > 0 by decide,if_true]
   by_cases h:i < 0
   ·simp only [h,if_true] <;> omega
   ·simp only [h,if_false] <;> omega
 ·cases hi with
  | none=>simp[sliceBounds,HT.sIx]
  | some i=>
   simp only [sliceBounds,HT.sIx,YbE,show(1:Int) > 0 by decide,if_true]
   by_cases h:i < 0
   ·simp only [h,if_true] <;> omega
   ·simp only [h,if_false] <;> omega
theorem ZsQ (its:List Ae) (lo hi:Option Int):slicePick its.toArray lo hi none=((its.drop (HT.sIx its.length 0 lo)).take (HT.sIx its.length its.length hi - HT.sIx its.length 0 lo)).toArray:=by
 obtain⟨h1,h2,h3⟩:=ZuY lo hi its.toArray.size;unfold slicePick;rw[h1,h2,h3]
 simp only [sliceRange_one,pick_run,Du] <;> rfl
noncomputable def rSlL (K:Ao):V→Option Int→Option Int→Hp→VK→Prop:=fun x lo hi H Q=>∃a xs,x=.ref a∧SqL K H a xs∧∀p,H p=none→Q (.ref p) (upd H p (.lst (cutV xs lo hi)))
theorem ZGG:SlR X (rSlL X.K):=by
 intro pins s σ H x v vl vu lo hi sl Q I rx hs pl pu h;obtain⟨a,xs,rfl,hx,q⟩:=h
 cases rx
 obtain⟨its,r,ht,hz⟩:=I.list hx;have hlen:=r.length;refine⟨"list",_,YbD.lookup,ht.isList.typeIs,?_⟩;refine wpAny_getItem_list_slice ht.isList hs pl pu .none (by simp) ?_ (by rw[Du] <;> omega);rw[ZsQ,←hlen];refine⟨.ref s.heap.objs.size,_,I.laid (t':=s.toks) (o:=.lst (cutV xs lo hi)) (fun b ob q=>Ek _ q) (Bv _) ?_,rfl,q _ (I.hok.fresh (Bv _))⟩;exact⟨Ex (ZoS xs lo hi) hz,_,0,(r.drop (HT.sIx xs.length 0 lo)).take (HT.sIx xs.length xs.length hi - HT.sIx xs.length 0 lo),FZ _ rfl⟩
noncomputable def Ku:V→Bool
 | .non=>true
 | .bl _=>true
 | .int _=>true
 | .str _=>true
 | _=>false
noncomputable def eqV:V→V→Bool
 | .non,.non=>true
 | .bl a,.bl b=>a == b
 | .bl a,.int b=>(if a then 1 else 0) == b
 | .int a,.bl b=>a == (if b then 1 else 0)
 | .int a,.int b=>a == b
 | .str a,.str b=>a == b
 | _,_=>false
theorem ZHt {A:Cu} {s:Ak} {y x:V} {u v:Ae} (ry:RelV y u) (rx:RelV x v) (fy:Ku y=true) (fx:Ku x=true):YbF A s u v (eqV y x):=by
 cases y with
 | non=>
  cases ry
  cases x with
  | non=>cases rx; exact YbF.same _
  | bl b=>cases rx; exact YbF.none_bool b
  | int b=>obtain⟨t,rfl⟩:=rx; exact YbF.none_int b t
  | str b=>obtain⟨t,rfl⟩:=rx; exact YbF.none_str b t
  | _=>exact absurd (show false=true from fx) Dt
 | bl a=>
  cases ry
  cases x with
  | non=>cases rx; exact YbF.bool_none a
  | bl b=>cases rx; exact YbF.bool_bool a b
  | int b=>obtain⟨t,rfl⟩:=rx; exact YbF.bool_int a b t
  | str b=>obtain⟨t,rfl⟩:=rx; exact YbF.bool_str a b t
  | _=>exact absurd (show false=true from fx) Dt
 | int a=>
  obtain⟨t',rfl⟩:=ry
  cases x with
  | non=>cases rx; exact YbF.int_none a t'
  | bl b=>cases rx; exact YbF.int_bool a t' b
  | int b=>obtain⟨t,rfl⟩:=rx; exact YbF.int_int a t' b t
  | str b=>obtain⟨t,rfl⟩:=rx; exact Ybh a t' b t
  | _=>exact absurd (show false=true from fx) Dt
 | str a=>
  obtain⟨t',rfl⟩:=ry
  cases x with
  | non=>cases rx; exact YbF.str_none a t'
  | bl b=>cases rx; exact YbF.str_bool a t' b
  | int b=>obtain⟨t,rfl⟩:=rx; exact Ybi a t' b t
  | str b=>obtain⟨t,rfl⟩:=rx; exact YbF.str_str a t' b t
  | _=>exact absurd (show false=true from fx) Dt
 | _=>exact absurd (show false=true from fy) Dt
noncomputable def eqU (x:V) (u:Ae):Bool:=match u with
 | .none=>eqV .non x
 | .bool b=>eqV (.bl b) x
 | .int i _=>eqV (.int i) x
 | .str z _=>eqV (.str z) x
 | _=>false
theorem ZDV {x y:V} {u:Ae} (r:RelV y u) (f:Ku y=true):eqU x u=eqV y x:=by
 cases y with
 | non=>cases r; rfl
 | bl b=>cases r; rfl
 | int i=>obtain⟨t,rfl⟩:=r; rfl
 | str z=>obtain⟨t,rfl⟩:=r; rfl
 | _=>exact absurd (show false=true from f) Dt
theorem Ut {x:V}:∀{xs:List V} {us:List Ae},Vals xs us→xs.all Ku=true→us.any (eqU x)=xs.any fun y=>eqV y x
 | _,_,.nil,_=>rfl
 | y::xs,u::us,.cons r t,f=>by
  rw[YbG,Fi]at f;rw[T5,T5,ZDV r f.1,Ut t f.2]
theorem Uu {A:Cu} {s:Ak} {x:V} {v:Ae} (rx:RelV x v) (fx:Ku x=true):∀{xs:List V} {us:List Ae},Vals xs us→xs.all Ku=true→∀u∈us,YbF A s u v (eqU x u)
 | _,_,.nil,_=>fun u hu=>by cases hu
 | y::xs,u::us,.cons r t,f=>fun u' hu=>by
  rw[YbG,Fi]at f
  rcases Bu.mp hu with rfl | hu
  ·rw[ZDV r f.1]; exact ZHt r rx f.1 fx
  ·exact Uu rx fx t f.2 u' hu
noncomputable def inV (x:V) (xs:List V):Bool:=xs.any fun y=>eqV y x
noncomputable def rIn (K:Ao) (neg:Bool):R2:=fun x y H Q=>∃p xs,y=.ref p∧(SqL K H p xs∨SqT K H p xs)∧Ku x=true∧xs.all Ku=true∧Q (.bl (if neg then !inV x xs else inV x xs)) H
theorem ZAY:OpR X (compareOp .In) (rIn X.K false):=by
 intro pins s σ H x y v u Q I rx ry h;obtain⟨p,xs,rfl,hq,fx,fs,q⟩:=h
 cases ry
 rcases hq with hq | hq
 ·obtain⟨its,r,pl,hz⟩:=I.list hq
  refine SeqAt.in_listAt (eqU x) pl.isList (fun w hw=>Uu rx fx r fs w (by simpa using hw)) ⟨.bl _,H,I,rfl,?_⟩;rw[show its.toArray.any (eqU x)=its.any (eqU x) by simp,Ut r fs];exact q
 ·obtain⟨its,r,pl,hz⟩:=I.tuple hq
  refine SeqAt.in_tupleAt (eqU x) pl (fun w hw=>Uu rx fx r fs w (by simpa using hw)) ⟨.bl _,H,I,rfl,?_⟩;rw[show its.toArray.any (eqU x)=its.any (eqU x) by simp,Ut r fs];exact q
theorem ZuG:OpR X (compareOp .NotIn) (rIn X.K true):=by
 intro pins s σ H x y v u Q I rx ry h;obtain⟨p,xs,rfl,hq,fx,fs,q⟩:=h
 cases ry
 rcases hq with hq | hq
 ·obtain⟨its,r,pl,hz⟩:=I.list hq
  refine SeqAt.notIn_listAt (eqU x) pl.isList (fun w hw=>Uu rx fx r fs w (by simpa using hw)) ⟨.bl _,H,I,rfl,?_⟩;rw[show its.toArray.any (eqU x)=its.any (eqU x) by simp,Ut r fs];exact q
 ·obtain⟨its,r,pl,hz⟩:=I.tuple hq
  refine SeqAt.notIn_tupleAt (eqU x) pl (fun w hw=>Uu rx fx r fs w (by simpa using hw)) ⟨.bl _,H,I,rfl,?_⟩;rw[show its.toArray.any (eqU x)=its.any (eqU x) by simp,Ut r fs];exact q
theorem Ztq:Gy X (.type "list") (fun xs H Q=>∃p ys,xs=[.ref p]∧(SqL X.K H p ys∨SqT X.K H p ys)∧∀l,H l=none→Q (.ref l) (upd H l (.lst ys))):=by
 intro pins s σ H xs us Q I r h;obtain⟨p,ys,rfl,hq,q⟩:=h;obtain⟨u,rfl,rx⟩:=Li r
 cases rx
 have fin:∀(its:List Ae),Vals ys its→ys.length≤BW→∀(h':Aq) (c':Nat),(∀b o',s.heap.get? b=some o'→h'.get? b=some o')→
   h'.get? s.heap.objs.size=some { cls:=.type "list",dict:=none,data:=.seq its.toArray c',slots:=#[] }→EP X pins σ Q (.ref s.heap.objs.size) { s with heap:=h' }:=fun its r' hz h' c' kp e=>
  ⟨.ref s.heap.objs.size,_,I.laid (t':=s.toks) kp (Bv _) (show DG X.prog X.w _ h' _ (.lst ys) from⟨hz,its,c',r',e⟩),rfl,q _ (I.hok.fresh (Bv _))⟩
 rcases hq with hq | hq
 ·obtain⟨its,r',pl,hz⟩:=I.list hq
  have hlen:=r'.length;obtain⟨o,ho,hc,n,hd⟩:=pl.isList;exact call_list_seq p (.inl rfl) ho hc hd (fun h' c' kp e=>fin its r' hz h' c' kp e) (by simp only [Du] <;> omega)
 ·obtain⟨its,r',pl,hz⟩:=I.tuple hq
  have hlen:=r'.length;obtain⟨o,ho,hc,n,hd⟩:=pl;exact call_list_seq p (.inr rfl) ho hc hd (fun h' c' kp e=>fin its r' hz h' c' kp e) (by simp only [Du] <;> omega)
theorem ZrF:Gy X (.type "tuple") (fun xs H Q=>∃p ys,xs=[.ref p]∧((SqL X.K H p ys∧∀l,H l=none→Q (.ref l) (upd H l (.tup ys)))∨(SqT X.K H p ys∧Q (.ref p) H))):=by
 intro pins s σ H xs us Q I r h;obtain⟨p,ys,rfl,h⟩:=h;obtain⟨u,rfl,rx⟩:=Li r
 cases rx
 rcases h with⟨hq,q⟩ | ⟨hq,q⟩
 ·obtain⟨its,r',pl,hz⟩:=I.list hq
  have hlen:=r'.length;refine call_tuple_list pl.isList (fun h' kp=>?_) (by simp only [Du] <;> omega);have I1:Inv X pins σ H { s with heap:=h' }:=I.kept (t':=s.toks) kp
  have I2:Inv X pins σ (upd H h'.objs.size (.tup ys)) { s with heap:=h'.push { cls:=.type "tuple",data:=.seq its.toArray } }:=
   I1.laid (t':=s.toks) (fun b o e=>Ek _ e) (Bv _) (show DG X.prog X.w _ _ _ (.tup ys) from⟨hz,its,r',TupN.new _ _⟩)
  exact⟨.ref h'.objs.size,_,I2,rfl,q _ (I1.hok.fresh (Bv _))⟩
 ·obtain⟨its,r',pl,hz⟩:=I.tuple hq
  exact call_tuple_same pl ⟨.ref p,H,I,rfl,q⟩
def tyV (K:Ao) (T:String) (x:V) (H:Hp):Prop:=match x with
 | .str _=>T = "str"
 | .int _=>T = "int"
 | .ref p=>(T = "list"∧∃xs,SqL K H p xs)∨(T = "tuple"∧∃o,K.lookup p=some o∧o.cls=.type "tuple"∧o.dict=none)∨
   (T = "dict"∧((∃kvs,H p=some (.dK kvs))∨∃kvs,H p=some (.dT kvs)))∨(T = "set"∧∃S n,H p=some (.set S n))
 | _=>False
theorem Wz {pins:List (Ab×Obj)} {σ:St} {H:Hp} {s:Ak} {T:String} {x:V} {v:Ae} (I:Inv X pins σ H s) (r:RelV x v) (ty:tyV X.K T x H) :
  s.TypeIs v T∧∀a,v=.ref a→∃ob,s.heap.get? a=some ob∧ob.dict=none:=by
 cases x with
 | str z=>
  obtain⟨t,rfl⟩:=r
  cases (show T = "str" from ty)
  exact⟨Oh s z t,fun _ e=>nomatch e⟩
 | int i=>
  obtain⟨t,rfl⟩:=r
  cases (show T = "int" from ty)
  exact⟨typeIs_int s i t,fun _ e=>nomatch e⟩
 | ref p=>
  cases r
  rcases ty with⟨rfl,xs,hq⟩ | ⟨rfl,o,hk,hc,hd⟩ | ⟨rfl,hk⟩ | ⟨rfl,S,n,hk⟩
  ·obtain⟨its,_,pl,_⟩:=I.list hq
   refine⟨pl.isList.typeIs,fun a e=>?_⟩
   cases e
   obtain⟨o,n,e,c,hd,_⟩:=pl;exact⟨o,e,hd⟩
  ·refine⟨⟨o,I.kIn p o hk,hc⟩,fun a e=>?_⟩
   cases e
   exact⟨o,I.kIn _ o hk,hd⟩
  ·have z:∃o,s.heap.get? p=some o∧o.ExactDict:=by
    rcases hk with⟨kvs,hk⟩ | ⟨kvs,hk⟩
    ·obtain⟨_,_,_,_,o,_,_,e,ex,_⟩:=I.hok p _ hk
     exact⟨o,e,ex⟩
    ·obtain⟨_,_,_,_,o,_,_,e,ex,_⟩:=I.hok p _ hk
     exact⟨o,e,ex⟩
   obtain⟨o,e,ex⟩:=z;refine⟨⟨o,e,ex.1⟩,fun a e2=>?_⟩
   cases e2
   exact⟨o,e,ex.2.1⟩
  ·obtain⟨o,_,_,_,e,ex,_⟩:=I.hok p _ hk
   refine⟨⟨o,e,ex.1⟩,fun a e2=>?_⟩
   cases e2
   exact⟨o,e,ex.2.1⟩
 | _=>exact GJ ty
noncomputable abbrev tBM0 (K:Ao) (T:String) (r:V→List V→Hp→VK→Prop) (to:TE):TE:=fun σ H Q=>to σ H fun x H1=>tyV K T x H1∧r x [] H1 Q
noncomputable abbrev tBM (K:Ao) (T:String) (r:V→List V→Hp→VK→Prop) (to:TE) (t:TA):TE:=fun σ H Q=>to σ H fun x H1=>tyV K T x H1∧t σ H1 fun xs H2=>r x xs H2 Q
variable {o e:Aw} {es:List Aw} {to:TE} {t:TA} {name:Str} {apos cpos:Pos} {T id:String} {r:V→List V→Hp→VK→Prop}
theorem WD (pa:PlainAttrs T) (slot:Slot T name id) (hty:typeOf (.builtin id)=pure (.type "method_descriptor")) (hm:MtR X id r) (ho:PE X o to)
  (hbase:attributeBase o name X.env (eval o X.env)=eval o X.env:=by rfl) (hline:(apos.endLine == cpos.line)=true:=by rfl):PE X (.Call (.Attribute o name apos) [] [] cpos) (tBM0 X.K T r to):=by
 intro pins s σ H Q I h;refine wpAny_Call_method0_late hbase hline (thn (ho pins s σ H _ I h) fun v s1 h_=>?_);obtain⟨x,H1,I1,r1,ty,q1⟩:=h_;obtain⟨h1,h2⟩:=Wz I1 r1 ty;exact⟨T,id,pa,slot,hty,h1,h2,T6 rfl (PySem.evalArgs_none (hm pins s1 σ H1 x [] v [] Q I1 r1 .nil q1))⟩
theorem CG (pa:PlainAttrs T) (slot:Slot T name id) (hty:typeOf (.builtin id)=pure (.type "method_descriptor")) (hm:MtR X id r) (ho:PE X o to) (ha:PA X (e::es) t)
  (hbase:attributeBase o name X.env (eval o X.env)=eval o X.env:=by rfl)
  (hfew:((backTo cpos (BX (e::es) X.env)).all (fun x=>!x.1) && (backToKw cpos (keywordEach [] X.env)).all (fun x=>x.1.isSome)
   && decide ((e::es).length+([]:List Hy).length+(if ([]:List Hy).isEmpty then 0 else 1) < 30))=true:=by rfl)
  (hline:(apos.endLine == cpos.line)=true:=by rfl) (hs:BX (e::es) X.env=(false,eval e X.env)::BX es X.env:=by rfl) (hplain:(backTo cpos (BX es X.env)).any (·.1)=false:=by rfl) :
  PE X (.Call (.Attribute o name apos) (e::es) [] cpos) (tBM X.K T r to t):=by
 intro pins s σ H Q I h;refine gh hbase hfew hline rfl (thn (ho pins s σ H _ I h) fun v s1 h_=>?_);obtain⟨x,H1,I1,r1,ty,q1⟩:=h_;obtain⟨h1,h2⟩:=Wz I1 r1 ty;refine⟨T,id,pa,slot,hty,h1,h2,?_⟩;have hA:=ha cpos pins s1 σ H1 _ I1 q1;rw[hs]at hA ⊢;refine T6 (by show(false || (backTo cpos (BX es X.env)).any (·.1))=false; rw[hplain] <;> rfl) (T7 ?_);exact thn hA fun us s2 ⟨vs,H2,I2,r2,q2⟩=>hm pins s2 σ H2 x vs v us Q I2 r1 r2 q2
end
end L2
namespace L2
open PySem PySem.Spec PyProof.Rows
def MtM (X:Cx) (id:String) (r:V→List V→Hp→VK→Prop):Prop:=
 ∀(pins:List (Ab×Obj)) (s:Ak) (σ:St) (H:Hp) (x:V) (xs:List V) (v:Ae) (us:List Ae) (Q:VK),Inv X pins σ H s→RelV x v→Vals xs us→r x xs H Q→
  Bb (model X.prog X.w) X.A (call (.builtin id) (v::us)) (EP X pins σ Q) X.xe s
theorem Vals.one:∀{x:V} {us:List Ae},Vals [x] us→∃u,us=[u]∧RelV x u:=by
 intro x us h;cases h with
 | cons r h=>cases h; exact⟨_,rfl,r⟩
theorem Vals.zero:∀{us:List Ae},Vals [] us→us=[]
 | _,.nil=>rfl
theorem Vals.dropLast {xs:List V} {us:List Ae} (h:Vals xs us):Vals xs.dropLast us.dropLast:=by
 induction h with
 | nil=>exact .nil
 | cons r t ih=>
  cases t with
  | nil=>exact .nil
  | cons q t'=>exact .cons r ih
theorem Vals.eraseIdx:∀{xs:List V} {us:List Ae} (i:Nat),Vals xs us→Vals (xs.eraseIdx i) (us.eraseIdx i)
 | _,_,_,.nil=>.nil
 | _,_,0,.cons _ t=>t
 | _,_,i+1,.cons r t=>.cons r (Vals.eraseIdx i t)
theorem Zyj {α:Type} (l:List α):l.eraseIdx (l.length - 1)=l.dropLast:=by
 induction l with
 | nil=>rfl
 | cons a r ih=>
  cases r with
  | nil=>rfl
  | cons b r=>
   have e:(a::b::r).length - 1=((b::r).length - 1)+1:=by
    have h1:(a::b::r).length=r.length+2:=rfl;have h2:(b::r).length=r.length+1:=rfl;omega
   rw[e,List.eraseIdx_cons_succ,ih]
   all_goals rfl
theorem Zul {α:Type}:∀(l:List α) (i:Nat),(l.eraseIdx i).length≤l.length
 | [],_=>Bv _
 | _::_,0=>VR _
 | _::r,i+1=>YaD (Zul r i)
section
variable {X:Cx} {pins:List (Ab×Obj)} {σ:St} {H:Hp} {s:Ak} {l b:Ab} {xs ys zs:List V}
theorem Inv.lset {its its':List Ae} {n:Nat} {f:Array Ae→Array Ae} {t':Nat} (I:Inv X pins σ H s) (hH:H l=some (.lst xs))
  (e:s.heap.get? l=some { cls:=.type "list",data:=.seq its.toArray n }) (hf:f its.toArray=its'.toArray) (hv:Vals ys its') (hz:ys.length≤BW) :
  Inv X pins σ (upd H l (.lst ys)) { s with heap:=s.heap.update l (V4 f),toks:=t' }:=by
 have q:=PySem.IsL.update e f;rw[hf]at q;refine I.write (x:=l) (e:=l) (by rw[hH]; exact trivial) (.inl rfl) (fun b' u hb hu=>(Oi s.heap (V4 f) (Gs hb)).trans hu) ⟨_,q⟩ ?_;exact⟨hz,its',_,hv,q⟩
theorem Inv.lnew {its:List Ae} {t':Nat} (I:Inv X pins σ H s) (hv:Vals ys its) (hz:ys.length≤BW) :
  Inv X pins σ (upd H s.heap.objs.size (.lst ys)) { s with heap:=s.heap.push { cls:=.type "list",data:=.seq its.toArray },toks:=t' }:=
 I.laid (fun _ _ q=>Ek _ q) (Bv _) ⟨hz,its,0,hv,FZ _ rfl⟩
theorem Inv.fresh (I:Inv X pins σ H s):H s.heap.objs.size=none:=I.hok.fresh (Bv _)
theorem Inv.lstM (I:Inv X pins σ H s) (hH:H l=some (.lst xs)):xs.length≤BW∧∃(its:List Ae) (n:Nat),Vals xs its∧xs.length=its.length∧s.heap.get? l=some { cls:=.type "list",data:=.seq its.toArray n }:=by
 obtain⟨z,its,n,r,e⟩:=I.hok l _ hH;exact⟨z,its,n,r,r.length,e⟩
end
section
variable {X:Cx}
noncomputable def WF:V→List V→Hp→VK→Prop:=fun x vs H Q=>∃l xs y,x=.ref l∧vs=[y]∧H l=some (.lst xs)∧xs.length < BW∧Q .non (upd H l (.lst (xs++[y])))
theorem Ea:MtM X "list.append" WF:=by
 intro pins s σ H x vs v us Q I rx rv h;obtain⟨l,xs,y,rfl,rfl,hH,hz,q⟩:=h
 cases rx
 obtain⟨u,rfl,ru⟩:=rv.one;obtain⟨z,its,n,r,hl,e⟩:=I.lstM hH;refine JP Eg ⟨_,e,rfl⟩ F.entry_list_append (F.args_list_append_2 _ _) (PySem.list_append l its.toArray n u (by rw[Du]; omega)) ⟨e,?_⟩;refine⟨.non,_,I.lset (its':=its++[u]) hH e (by simp) (r.append (.cons ru .nil)) ?_,rfl,q⟩;rw[CZ,Gv];omega
noncomputable def rPop:V→List V→Hp→VK→Prop:=fun x vs H Q=>∃l xs y,x=.ref l∧vs=[]∧H l=some (.lst xs)∧xs[xs.length - 1]?=some y∧Q y (upd H l (.lst xs.dropLast))
theorem o7:MtM X "list.pop" rPop:=by
 intro pins s σ H x vs v us Q I rx rv h;obtain⟨l,xs,y,rfl,rfl,hH,hy,q⟩:=h
 cases rx
 have hus:=rv.zero;subst hus;obtain⟨z,its,n,r,hl,e⟩:=I.lstM hH;obtain⟨u,hu,ru⟩:=r.get hy
 have hy':its.toArray[its.toArray.size - 1]?=some u:=by
  show its.toArray[its.length - 1]?=some u;rw[←V5,←hl];exact hu
 refine JP T8 ⟨_,e,rfl⟩ YbH (F.args_list_pop_1 _) (MeetsSeq.list_pop_last l its.toArray n u hy' (by rw[Du]; omega)) ⟨e,?_⟩;refine⟨y,_,I.lset (its':=its.dropLast) hH e ?_ r.dropLast ?_,ru,q⟩
 ·show its.toArray.eraseIdxIfInBounds (its.toArray.size - 1)=its.dropLast.toArray
  rw[Du,YbI,Zyj]
 ·rw[T9]
  omega
noncomputable def ZEK:V→List V→Hp→VK→Prop:=fun x vs H Q=>∃l xs i k y,x=.ref l∧vs=[.int i]∧H l=some (.lst xs)∧-(2 ^ 63)≤i∧i < 2 ^ 63∧seqIndex? i xs.length=some k∧xs[k]?=some y∧Q y (upd H l (.lst (xs.eraseIdx k)))
theorem ZC5:MtM X "list.pop" ZEK:=by
 intro pins s σ H x vs v us Q I rx rv h;obtain⟨l,xs,i,k,y,rfl,rfl,hH,h1,h2,hk,hy,q⟩:=h
 cases rx
 obtain⟨u,rfl,ru⟩:=rv.one;obtain⟨t,rfl⟩:=ru;obtain⟨z,its,n,r,hl,e⟩:=I.lstM hH;obtain⟨w,hw,rw'⟩:=r.get hy
 refine JP T8 ⟨_,e,rfl⟩ YbH (F.args_list_pop_2 _ _)
  (MeetsSeq.list_pop_at l its.toArray n i t k w (fitsIndex_both h1 h2) (by rw[Du,←hl]; exact hk) (by rw[←V5]; exact hw) (by rw[Du]; omega)) ⟨e,?_⟩
 refine⟨y,_,I.lset (its':=its.eraseIdx k) hH e ?_ (r.eraseIdx k) ?_,rw',q⟩
 ·show its.toArray.eraseIdxIfInBounds k=(its.eraseIdx k).toArray
  rw[YbI]
 ·have:=Zul xs k
  omega
noncomputable def rCat:R2:=fun x y H Q=>∃l b xs zs,x=.ref l∧y=.ref b∧H l=some (.lst xs)∧H b=some (.lst zs)∧xs.length+zs.length≤BW∧∀p,H p=none→Q (.ref p) (upd H p (.lst (xs++zs)))
theorem ZIw:OpR X (binaryOp .Add) rCat:=by
 intro pins s σ H x y v u Q I rx ry h;obtain⟨l,b,xs,zs,rfl,rfl,hH,hB,hz,q⟩:=h
 cases rx
 cases ry
 obtain⟨z,its,n,r,hl,e⟩:=I.lstM hH;obtain⟨z2,its2,n2,r2,hl2,e2⟩:=I.lstM hB;refine PySem.P.add_list e e2 ?_ (by rw[Du,Du]; omega)
 have ea:its.toArray++its2.toArray=(its++its2).toArray:=by simp
 rw[ea];exact⟨.ref _,_,I.lnew (t':=s.toks) (r.append r2) (by rw[CZ]; omega),rfl,q _ I.fresh⟩
end
section
variable {prog:Bp} {w:Bg} {A:Cu} {E:Ae→Ak→Prop} {s:Ak}
end
section
variable {X:Cx}
end
end L2
namespace L2
open PySem PySem.Spec PyProof.Rows
section
variable {κ:Type} [DecidableEq κ]
noncomputable def valV (kvs:List (κ×V)) (k:κ):Option V:=(kvs.find? fun kv=>decide (kv.1=k)).map (·.2)
noncomputable def putK (kvs:List (κ×V)) (k:κ) (v:V):List (κ×V):=
 if (kvs.any fun kv=>decide (kv.1=k))=true then kvs.map (fun kv=>if kv.1=k then(kv.1,v) else kv) else kvs++[(k,v)]
theorem ZxV {p:κ×V} {r:List (κ×V)} {k:κ} (e:p.1=k):valV (p::r) k=some p.2:=by simp[valV,Ua,e]
theorem ZxU {p:κ×V} {r:List (κ×V)} {k:κ} (e : ¬p.1=k):valV (p::r) k=valV r k:=by simp[valV,Ua,e]
theorem Zwj (kvs:List (κ×V)) (k:κ) (v:V):(putK kvs k v).length≤kvs.length+1:=by
 unfold putK
 split
 ·rw[Ax]; omega
 ·rw[CZ,CT,Gw]; omega
theorem RelO.getD {o:Option V} {u:Option Ae} {d:V} {d':Ae} (r:RelO o u) (rd:RelV d d'):RelV (o.getD d) (u.getD d'):=by
 cases o with
 | none=>cases u with
  | none=>exact rd
  | some _=>exact(show False from r).elim
 | some _=>cases u with
  | none=>exact(show False from r).elim
  | some _=>exact r
theorem KV.val {kvs:List (κ×V)} {vs:List (κ×Ae)} (r:KV kvs vs) (k:κ):RelO (valV kvs k) (valueAt vs k):=by
 unfold KV at r
 induction r with
 | nil=>exact Jj
 | @cons p q ps qs h t ih=>
  obtain⟨h1,h2⟩:=h
  by_cases e:p.1=k
  ·have e':q.1=k:=h1.symm.trans e
   have b:valueAt (q::qs) k=some q.2:=by simp[valueAt,Ua,e']
   rw[ZxV e,b]; exact h2
  ·have e' : ¬q.1=k:=fun z=>e (h1.trans z)
   have b:valueAt (q::qs) k=valueAt qs k:=by simp[valueAt,Ua,e']
   rw[ZxU e,b]; exact ih
theorem KV.any {kvs:List (κ×V)} {vs:List (κ×Ae)} (r:KV kvs vs) (k:κ):(kvs.any fun kv=>decide (kv.1=k))=vs.any fun kv=>decide (kv.1=k):=by
 unfold KV at r
 induction r with
 | nil=>rfl
 | cons h t ih=>rw[T5,T5,ih,h.1]
theorem KV.repl {kvs:List (κ×V)} {vs:List (κ×Ae)} (r:KV kvs vs) (k:κ) {y:V} {u:Ae} (ry:RelV y u) :
  KV (kvs.map fun kv=>if kv.1=k then(kv.1,y) else kv) (vs.map fun kv=>if kv.1=k then(kv.1,u) else kv):=by
 unfold KV at r ⊢
 induction r with
 | nil=>exact .nil
 | @cons p q ps qs h t ih=>
  rw[Dq,Dq];refine .cons ?_ ih;obtain⟨h1,h2⟩:=h
  by_cases e:p.1=k
  ·rw[if_pos e,if_pos (h1.symm.trans e)]; exact⟨h1,ry⟩
  ·rw[if_neg e,if_neg (fun z=>e (h1.trans z))]; exact⟨h1,h2⟩
theorem KV.put {kvs:List (κ×V)} {vs:List (κ×Ae)} (r:KV kvs vs) (k:κ) {y:V} {u:Ae} (ry:RelV y u):KV (putK kvs k y) (stored vs k u):=by
 unfold putK stored;rw[r.any k]
 by_cases e:(vs.any fun kv=>decide (kv.1=k))=true
 ·rw[if_pos e,if_pos e]; exact r.repl k ry
 ·rw[if_neg e,if_neg e]; exact Bs.snoc r ⟨rfl,ry⟩
end
theorem WK {P:Bp} {w:Bg} {k:Key} {u:Ae} (r:RelV (kV k) u):(Gq P w).is k u=true:=by
 cases k with
 | inl i=>obtain⟨t,e⟩:=(show ∃t,u=VB i t from r); subst e; exact Zwl P w i t
 | inr x=>obtain⟨t,e⟩:=(show ∃t,u=Ht x t from r); subst e; exact Zwm P w x t
theorem ZtT {P:Bp} {w:Bg}:∀{ks:List Key} {us:List Ae},Vals (ks.map kV) us→ItemsAre (Gq P w) ks us
 | [],_,r=>by rw[Gx]at r; cases r; exact .nil
 | k::ks,_,r=>by
  rw[Dq]at r
  cases r with
  | cons h t=>exact .cons (WK h) (ZtT t)
noncomputable abbrev KT (H:Hp):List (List Key×V)→List (List Key×Ab×Ae)→Prop:=Bs fun p q=>p.1=q.1∧H q.2.1=some (.tup (p.1.map kV))∧RelV p.2 q.2.2
theorem KT.val {H:Hp} {kvs:List (List Key×V)} {xs:List (List Key×Ab×Ae)} (r:KT H kvs xs) (k:List Key):RelO (valV kvs k) ((atKey xs k).map (·.2)):=by
 induction r with
 | nil=>exact Jj
 | @cons p q ps qs h t ih=>
  obtain⟨h1,_,h2⟩:=h
  by_cases e:p.1=k
  ·have e':q.1=k:=h1.symm.trans e
   have b:atKey (q::qs) k=some q.2:=by simp[atKey,Ua,e']
   rw[ZxV e,b]; exact h2
  ·have e' : ¬q.1=k:=fun z=>e (h1.trans z)
   have b:atKey (q::qs) k=atKey qs k:=by simp[atKey,Ua,e']
   rw[ZxU e,b]; exact ih
section
variable {P:Bp} {w:Bg} {H:Hp} {h:Aq} {a:Ab}
theorem ZIY {u:HO} (ok:HOk P w H h) (e:Rd H a u):DG P w H h a u:=e.ok ok
theorem Uv {kvs:List (Key×V)} (ok:HOk P w H h) (e:Rd H a (.dK kvs)):kvs.length≤BW∧(a == sysModules)=false∧∃vs,KV kvs vs∧h.DictOf (Gq P w) a vs:=
 show DG P w H h a (.dK kvs) from ZIY ok e
theorem ZJO {kvs:List (Key×V)} (ok:HOk P w H h) (e:H a=some (.dK kvs)):kvs.length≤BW∧(a == sysModules)=false∧∃vs,KV kvs vs∧h.DictOf (Gq P w) a vs:=Uv ok (.inl e)
theorem o8 {ks:List Key} (ok:HOk P w H h) (e:H a=some (.tup (ks.map kV))):(tupleKind (Gq P w)).is h ks a:=by
 obtain⟨_,its,r,o,h1,h2,n,h3⟩:=(show DG P w H h a (.tup (ks.map kV)) from ok a _ e);exact⟨o,its.toArray,n,h1,h2,h3.1,by simpa using ZtT r⟩
theorem WL {kvs:List (List Key×V)} (ok:HOk P w H h) (e:Rd H a (.dT kvs)):kvs.length≤BW∧(a == sysModules)=false∧
  ∃xs,KT H kvs xs∧h.DictOfH (tupleKind (Gq P w)) a xs:=by
 obtain⟨z,y,xs,r,o,es,ep,h1,h2,h3,h4,h5⟩:=(show DG P w H h a (.dT kvs) from ZIY ok e);refine⟨z,y,xs,r,o,es,ep,h1,h2,h3,h4,fun x hx=>?_,h5⟩
 have all:∀{l:List (List Key×V)} {m:List (List Key×Ab×Ae)},KT H l m→∀x∈m,(tupleKind (Gq P w)).is h x.1 x.2.1:=by
  intro l m q
  induction q with
  | nil=>intro x hx; exact nomatch hx
  | @cons p q ps qs hq t ih=>
   intro x hx
   rcases Bu.mp hx with e | hx
   ·subst e
    exact o8 ok (by rw[←hq.1]; exact hq.2.1)
   ·exact ih x hx
 exact all r x hx
end
def DGet (H:Hp) (a:Ab) (y:V) (r:Option V):Prop:=
 (∃kvs k,Rd H a (.dK kvs)∧y=kV k∧r=valV kvs k)∨∃kvs k b,Rd H a (.dT kvs)∧y=.ref b∧H b=some (.tup (k.map kV))∧r=valV kvs k
theorem DGet.k {H:Hp} {a:Ab} {kvs:List (Key×V)} {k:Key} (e:H a=some (.dK kvs)):DGet H a (kV k) (valV kvs k):=.inl ⟨kvs,k,.inl e,rfl,rfl⟩
section
variable {X:Cx} {pins:List (Ab×Obj)} {σ:St} {H:Hp} {s:Ak} {a:Ab} {y v:V} {u r:Ae} {o:Option V} {A:Cu} {E:Ae→Ak→Prop}
theorem Inv.big (I:Inv X pins σ H s):sysModules < s.heap.objs.size:=by
 have h:Bf < s.heap.objs.size:=(I.mod.glob.keeps I.bk).lt;exact Nat.lt_trans (by decide) h
theorem ZzO {Q:Ae→Ak→Prop} (hu:A.units+1 < cLine) (I:Inv X pins σ H s) (g:DGet H a y (some v)) (ry:RelV y u) (h:∀w' s',Inv X pins σ H s'→RelV v w'→Q w' s') :
  Bb (model X.prog X.w) A (getItem (.ref a) u) Q E s:=by
 rcases g with⟨kvs,k,e,ey,l⟩ | ⟨kvs,k,b,e,ey,eb,l⟩
 ·subst ey
  obtain⟨z,hd,vs,rel,dd⟩:=Uv I.hok e;obtain⟨w',hw,rw'⟩:=RelO.some_of (v:=v) (o:=valueAt vs k) (by rw[l]; exact rel.val k);exact wpAny_getItem_of (WK ry) dd.mapOf hw (h w' _ (I.tok _) rw')
 ·subst ey
  cases (show u=Do b from ry)
  obtain⟨z,hd,xs,rel,dd⟩:=WL I.hok e;obtain⟨w',hw,rw'⟩:=RelO.some_of (v:=v) (o:=(atKey xs k).map (·.2)) (by rw[l]; exact rel.val k);obtain⟨p,hp,hp2⟩:=Kl.mp hw;refine wpAny_getItem_heap (YbJ hu) (o8 I.hok eb) dd hp ?_;rw[hp2];exact h w' _ (I.tok _) rw'
theorem ZFf {h':Aq} {t':Nat} {ob:HO} (I:Inv X pins σ H s) (mu:Mut (H a)) (hs:Ob a s.heap h') (he:∃q,h'.get? a=some q) (new:DG X.prog X.w (upd H a ob) h' a ob) :
  Inv X pins σ (upd H a ob) { s with heap:=h',toks:=t' }:=
 I.write (x:=a) (e:=a) mu (.inl rfl) (fun b q hb z=>(hs.2 b hb).trans z) he new
theorem ZHr {P:Bp} {w:Bg} {H':Hp} {h':Aq} {kvs:List (Key×V)} {vs:List (Key×Ae)} (z:kvs.length≤BW) (hd:(a == sysModules)=false) (rel:KV kvs vs) (dd:h'.DictOf (Gq P w) a vs) :
  DG P w H' h' a (.dK kvs):=⟨z,hd,vs,rel,dd⟩
end
section
variable {X:Cx} {pins:List (Ab×Obj)} {σ:St} {H:Hp} {s:Ak} {a:Ab} {kvs:List (Key×V)} {k:Key} {u:Ae} {A:Cu} {E:Ae→Ak→Prop}
end
def NoSl (i:Aw):Prop:=∀ov iv,subscripted i false ov iv=operate [ov,iv] (getItem ov iv)
theorem ZGX {prog:Bp} {w:Bg} {A:Cu} {E:Ae→Ak→Prop} {s:Ak} {env:Env} {value slice:Aw} {pos:Pos} {T id:String} {Q:Ae→Ak→Prop}
  (hl:typeLookup (.type T) "__getitem__" = pure (some (.builtin id))) (hs:NoSl slice)
  (h:Bb (model prog w) A (eval value env) (fun o s₁=>Bb (model prog w) A (eval slice env) (fun i s₂=>s₂.TypeIs o T∧Bb (model prog w) A (getItem o i) Q E s₂) E s₁) E s) :
  Bb (model prog w) A (eval (.Subscript value slice pos) env) Q E s:=by
 refine YaB (Fv h (fun o s₁ h₁=>Fv h₁ (fun i s₂ h₂=>?_) fun _ _ x=>x) fun _ _ x=>x);obtain⟨hT,h₂⟩:=h₂;unfold subscriptTail;refine BP ?_;rw[getitemInPython_of_ne hT.not_modules];refine BP (wpAny_specialOf hT hl ?_)
 have fin:Bb (model prog w) A (subscripted slice false o i) (fun r s₃=>Bb (model prog w) A (letTemporaryGo value o r >>= fun _=>pure r) Q E s₃) E s₂:=by
  rw[hs o i];exact wpAny_operating (Fv h₂ (fun r s₃ h₃=>BP (wpAny_letTemporaryGo (DK h₃))) fun _ _ x=>x)
 first
  | exact DK (BP fin)
  | exact BP (DK (BP fin))
  | exact BP fin
theorem Zvy {X:Cx} {pins:List (Ab×Obj)} {σ:St} {H:Hp} {s:Ak} {a:Ab} {y:V} {o:Option V} (I:Inv X pins σ H s) (g:DGet H a y o):s.TypeIs (.ref a) "dict":=by
 rcases g with⟨kvs,k,e,_,_⟩ | ⟨kvs,k,b,e,_,_,_⟩
 ·obtain⟨_,_,vs,_,dd⟩:=Uv I.hok e
  exact dd.typeIs
 ·obtain⟨_,_,xs,_,dd⟩:=WL I.hok e
  exact dd.typeIs
noncomputable def ZJr (td ty:TE):TE:=fun σ H Q=>td σ H fun x H1=>ty σ H1 fun y H2=>∃a v,x=.ref a∧DGet H2 a y (some v)∧Q v H2
section
variable {X:Cx} {o i e value:Aw} {pos pos' tpos:Pos} {td ty tv:TE}
theorem Lk (hu:X.A.units+1 < cLine) (ho:PE X o td) (hi:PE X i ty) (hs:NoSl i):PE X (.Subscript o i pos) (ZJr td ty):=by
 intro pins s σ H Q I h;refine ZGX PySem.F.slot_dict_getitem.lookup hs (thn (ho pins s σ H _ I h) fun u s1 ⟨x,H1,I1,rx,q1⟩=>thn (hi pins s1 σ H1 _ I1 q1) fun iv s2 h_=>?_);obtain⟨y,H2,I2,ry,a,v,ex,g,q2⟩:=h_;subst ex;obtain rfl:u=Do a:=rx;exact⟨Zvy I2 g,ZzO hu I2 g ry fun w' s3 I3 rw'=>⟨v,H2,I3,rw',q2⟩⟩
end
theorem ZCs {P:Bp} {w:Bg} {H:Hp} (h:Aq) (hb:sysModules < h.objs.size):DG P w H (h.push { cls:=.type "dict",data:=.dict #[] }) h.objs.size (.dK []):=
 ⟨De _,beq_eq_false_iff_ne.mpr (Gs (DQ hb)),[],.nil,Ydi h⟩
section
variable {X:Cx} {pos:Pos}
end
noncomputable def Ln:List (TE×TE)→St→Hp→(List (V×V)→Hp→Prop)→Prop
 | [],_,H,Q=>Q [] H
 | (tk,tv)::r,σ,H,Q=>tk σ H fun x H1=>tv σ H1 fun y H2=>Ln r σ H2 fun ps H3=>Q ((x,y)::ps) H3
noncomputable abbrev VV:List (V×V)→List (Ae×Ae)→Prop:=Bs fun p q=>RelV p.1 q.1∧RelV p.2 q.2
def PPs (X:Cx) (pos:Pos) (keys:List (Option Aw)) (values:List Aw) (trs:List (TE×TE)):Prop:=
 ∀(pins:List (Ab×Obj)) (s:Ak) (σ:St) (H:Hp) (Q:List (V×V)→Hp→Prop),Inv X pins σ H s→Ln trs σ H Q→
  Bb (model X.prog X.w) X.A (evalPairs (pairTrees keys values X.env pos)) (fun vs s'=>∃ps H',Inv X pins σ H' s'∧VV ps vs∧Q ps H') X.xe s
theorem Uw {X:Cx} {pos:Pos}:PPs X pos [] [] []:=fun pins s σ H Q I h=>pairTrees_nil_walk ⟨[],H,I,.nil,h⟩
theorem Gh {X:Cx} {pos:Pos} {k v:Aw} {ks:List (Option Aw)} {vs:List Aw} {tk tv:TE} {trs:List (TE×TE)} (hk:PE X k tk) (hv:PE X v tv) (hr:PPs X pos ks vs trs) :
  PPs X pos (some k::ks) (v::vs) ((tk,tv)::trs):=fun pins s σ H Q I h=>
 pairTrees_cons_walk (thn (hk pins s σ H _ I h) fun u s1 ⟨x,H1,I1,rx,q1⟩=>thn (hv pins s1 σ H1 _ I1 q1) fun w2 s2 ⟨y,H2,I2,ry,q2⟩=>
  thn (hr pins s2 σ H2 _ I2 q2) fun ws s3 ⟨ps,H3,I3,rel,q3⟩=>⟨(x,y)::ps,H3,I3,.cons ⟨rx,ry⟩ rel,q3⟩)
noncomputable def Hi (kvs more:List (Key×V)):List (Key×V):=more.foldl (fun acc kv=>putK acc kv.1 kv.2) kvs
theorem KV.merge:∀{more:List (Key×V)} {rs:List (Key×Ae)} {kvs:List (Key×V)} {vs:List (Key×Ae)},KV more rs→KV kvs vs→KV (Hi kvs more) (merged vs rs):=by
 intro more rs kvs vs r;unfold KV at r
 induction r generalizing kvs vs with
 | nil=>intro q; exact q
 | @cons p q ps qs h t ih=>
  intro r0
  have e:KV (putK kvs p.1 p.2) (stored vs q.1 q.2):=by
   have:=r0.put p.1 h.2;rw[←h.1]; exact this
  exact ih e
theorem Zl7:∀(more kvs:List (Key×V)),(Hi kvs more).length≤kvs.length+more.length
 | [],kvs=>by show kvs.length≤kvs.length+0; omega
 | p::r,kvs=>by
  have h1:=Zl7 r (putK kvs p.1 p.2);have h2:=Zwj kvs p.1 p.2;show(Hi (putK kvs p.1 p.2) r).length≤_;rw[CT]; omega
theorem Zq1 {P:Bp} {w:Bg}:∀{kvs:List (Key×V)} {ws:List (Ae×Ae)},VV (kvs.map fun kv=>(kV kv.1,kv.2)) ws→∃rs,Carries (Gq P w) ws rs∧KV kvs rs
 | [],_,r=>by rw[Gx]at r; cases r; exact⟨[],Jj,.nil⟩
 | p::kvs,_,r=>by
  rw[Dq]at r
  cases r with
  | @cons a b as bs h t=>
   obtain⟨rs,c,q⟩:=Zq1 (P:=P) (w:=w) t;obtain⟨b1,b2⟩:=b;exact⟨(p.1,b2)::rs,⟨WK h.1,rfl,c⟩,.cons ⟨rfl,h.2⟩ q⟩
noncomputable def ZJs (trs:List (TE×TE)):TE:=fun σ H Q=>∀p,H p=none→Ln trs σ (upd H p (.dK [])) fun ps H2=>H2 p=some (.dK [])∧∃kvs:List (Key×V),ps=kvs.map (fun kv=>(kV kv.1,kv.2))∧kvs.length≤15∧Q (.ref p) (upd H2 p (.dK (Hi [] kvs)))
theorem Ux {X:Cx} {pos:Pos} {keys:List (Option Aw)} {values:List Aw} {trs:List (TE×TE)} (h:PPs X pos keys values trs) (hall:keys.all (·.isSome)=true) (hl:keys.length=values.length) (h0:keys≠[])
  (h15:keys.length≤15):PE X (.Dict keys values pos) (ZJs trs):=by
 intro pins s σ H Q I q;have hn:=I.hok.fresh (Bv s.heap.objs.size);have I1:=I.laid (a:=s.heap.objs.size) (o:=.dK []) (h':=s.heap.push { cls:=.type "dict",data:=.dict #[] }) (t':=s.toks) (fun _ _ q=>Ek _ q) (Bv _) (ZCs s.heap I.big);refine wpAny_Dict_walk (knd:=Gq X.prog X.w) hall hl h0 h15 (thn (h pins _ σ _ _ I1 (q _ hn)) fun ws s2 h_=>?_);obtain⟨ps,H2,I2,rel,e,kvs,ep,lk,q2⟩:=h_;subst ep;obtain⟨rs,c,rk⟩:=Zq1 (P:=X.prog) (w:=X.w) rel;obtain⟨z,hd,vs0,r0,dd⟩:=ZJO I2.hok e
 cases r0
 refine⟨rs,c,dd,fun h' dd' hs=>⟨.ref s.heap.objs.size,_,?_,rfl,q2⟩⟩
 have hz:(Hi [] kvs).length≤BW:=by
  have h1:=Zl7 kvs [];rw[Gw]at h1;rw[VM]; omega
 have he:∃q,h'.get? s.heap.objs.size=some q:=let ⟨q,_,_,hq,_⟩:=dd'; ⟨q,hq⟩;exact ZFf I2 (by rw[e]; exact Jj) hs he (ZHr hz hd (rk.merge .nil) dd')
structure M2 (X:Cx) (o:Aw) (m:Str) (apos:Pos) (e f:Aw) (cpos:Pos):Prop where
 base:attributeBase o m X.env (eval o X.env)=eval o X.env
 few:((backTo cpos (BX [e,f] X.env)).all (fun x=>!x.1) && (backToKw cpos (keywordEach [] X.env)).all (fun x=>x.1.isSome)
  && decide (([e,f]:List Aw).length+([]:List Hy).length+(if ([]:List Hy).isEmpty then 0 else 1) < 30))=true
 line:(apos.endLine == cpos.line)=true
 trees:backTo cpos (BX [e,f] X.env)=[(false,eval e X.env),(false,eval f X.env)]
def IsD (H:Hp) (a:Ab):Prop:=(∃kvs,Rd H a (.dK kvs))∨∃kvs,Rd H a (.dT kvs)
theorem ZH1 {X:Cx} {pins:List (Ab×Obj)} {σ:St} {H:Hp} {s:Ak} {a:Ab} (I:Inv X pins σ H s) (d:IsD H a) :
  s.TypeIs (.ref a) "dict"∧(∀b,Do a=.ref b→∃ob,s.heap.get? b=some ob∧ob.dict=none)∧(a == sysModules)=false:=by
 rcases d with⟨kvs,e⟩ | ⟨kvs,e⟩
 ·obtain⟨_,hd,vs,_,dd⟩:=Uv I.hok e
  refine⟨dd.typeIs,fun b q=>?_,hd⟩
  cases q
  obtain⟨ob,_,_,h1,h2,_⟩:=dd;exact⟨ob,h1,h2.2.1⟩
 ·obtain⟨_,hd,xs,_,dd⟩:=WL I.hok e
  refine⟨dd.typeIs,fun b q=>?_,hd⟩
  cases q
  obtain⟨ob,_,_,h1,h2,_⟩:=dd;exact⟨ob,h1,h2.2.1⟩
section
variable {X:Cx} {pins:List (Ab×Obj)} {σ:St} {H:Hp} {s:Ak} {a:Ab} {y d:V} {u r:Ae} {o:Option V} {A:Cu} {E:Ae→Ak→Prop}
theorem ZHq {Q:Ae→Ak→Prop} (hu:A.units+1 < cLine) (I:Inv X pins σ H s) (g:DGet H a y o) (ry:RelV y u) (rd:RelV d r) (h:∀w' s',Inv X pins σ H s'→RelV (o.getD d) w'→Q w' s') :
  Bb (model X.prog X.w) A (call (.builtin "dict.get") [.ref a,u,r]) Q E s:=by
 rcases g with⟨kvs,k,e,ey,l⟩ | ⟨kvs,k,b,e,ey,eb,l⟩
 ·subst ey
  obtain⟨z,hd,vs,rel,dd⟩:=Uv I.hok e;refine call_meetsIn YaE dd.typeIs YbK (YbL _ _ _) (meets_dict_get_default (Gq X.prog X.w) a (WK ry) hd r) ⟨_,dd.mapOf,h _ _ (I.tok _) ?_⟩;rw[l];exact(rel.val k).getD rd
 ·subst ey
  cases (show u=Do b from ry)
  obtain⟨z,hd,xs,rel,dd⟩:=WL I.hok e;refine call_meetsIn YaE dd.typeIs YbK (YbL _ _ _) (meetsH_dict_get_default (tupleKind (Gq X.prog X.w)) a b hd r) ⟨YbJ hu,k,xs,o8 I.hok eb,dd,h _ _ (I.tok _) ?_⟩;rw[l];exact(rel.val k).getD rd
end
noncomputable def ZEO (td ty tx:TE):TE:=fun σ H Q=>td σ H fun x H1=>∃a,x=.ref a∧IsD H1 a∧ty σ H1 fun y H2=>tx σ H2 fun z H3=>∃o,DGet H3 a y o∧Q (o.getD z) H3
section
variable {X:Cx} {o e f:Aw} {apos cpos:Pos} {td ty tx:TE}
theorem WM (hu:X.A.units+1 < cLine) (ho:PE X o td) (he:PE X e ty) (hf:PE X f tx) (m:M2 X o "get" apos e f cpos):PE X (.Call (.Attribute o "get" apos) [e,f] [] cpos) (ZEO td ty tx):=by
 intro pins s σ H Q I h;refine wpAny_Call_method m.base m.few m.line PySem.F.plainAttrs_dict YaE PySem.F.type_dict_get (thn (ho pins s σ H _ I h) fun u s1 h_=>?_);obtain⟨x,H1,I1,rx,a,ex,d,q1⟩:=h_;subst ex;obtain rfl:u=Do a:=rx;obtain⟨t1,t2,_⟩:=ZH1 I1 d;refine⟨t1,t2,?_⟩;rw[m.trees]
 refine T6 rfl (T7 (Og (thn (he pins s1 σ H1 _ I1 q1) fun iv s2 ⟨y,H2,I2,ry,q2⟩=>
  Og (thn (hf pins s2 σ H2 _ I2 q2) fun fv s3 ⟨z,H3,I3,rz,ov,g,q3⟩=>dq ?_))))
 exact ZHq hu I3 g ry rz fun w' s4 I4 rw'=>⟨_,H3,I4,rw',q3⟩
end
section
variable {X:Cx} {pins:List (Ab×Obj)} {σ:St} {H:Hp} {s:Ak} {a:Ab} {kvs:List (Key×V)} {A:Cu} {E:Ae→Ak→Prop}
end
section
variable {X:Cx} {pins:List (Ab×Obj)} {σ:St} {H:Hp} {s:Ak} {a:Ab} {y:V} {u:Ae} {A:Cu} {E:Ae→Ak→Prop}
end
end L2
namespace Att
open PySem PySem.W PySem.Calls PyProof.Rows
theorem Zo4 {P:gj} {h:Aq}:∀(ns:List Int) (vs:List Ae),WellAll P h vs (ns.map YbM)→V6 vs ns:=by
 intro ns
 induction ns with
 | nil=>
  intro vs w;rw[Gx]at w
  cases w
  exact .nil
 | cons n ns ih=>
  intro vs w;rw[Dq]at w
  cases w with
  | cons a b=>
   cases a
   exact .cons _ _ (ih _ b)
theorem ZBx {l:V7} {n:Nat} (hn:l.most=some n) {P:gj} {h:Aq} {args:List WData} {vals:List Ae}
  (hpre:l.row.toRowW.claim.pre args=true) (hwl:WellAll P h vals args) :
  ∃a vs ns,vals=[Do a]∧args=[WData.list (ns.map YbM)]∧h.get? a=some { cls:=.type "list",data:=.seq vs.toArray }∧V6 vs ns∧ns.length≤n:=by
 have hsh:WShape.hasAll [] args [.list .int]=true:=(pre_splitW hpre).1;have hc:l.pre.holds [] { args:=args } = true:=(pre_splitW hpre).2;obtain⟨d,r,rfl,h1,h2⟩:=hasAllW_cons hsh;obtain rfl:=hasAllW_nil h2;obtain⟨xs,rfl,h3⟩:=hasW_list h1;obtain⟨ns,rfl⟩:=items_int h3
 have hlen:ns.length≤n:=by
  unfold V7.pre at hc
  have h4:(WTm.not (.lt (.lit (.int (n:Int))) (.len (.arg 0)))).holds [] { args:=[.list (ns.map .int)] } = true:=by
   have h4:=(holds_andW hc).1;rw[hn]at h4;exact h4
  have h5:=condW_of h4 (w_not (w_lt w_lit (w_len_list (w_arg rfl))));rw[Ax]at h5;refine Nat.le_of_not_lt fun q=>?_
  have q':(n:Int) < ((ns.length:Nat):Int):=by omega
  first
   | (rw[decide_eq_true q']at h5; exact absurd h5 (by decide))
   | (simp at h5; omega)
 cases hwl with
 | cons w1 w2=>
  cases w2
  cases w1 with
  | list ho hall=>exact⟨_,_,ns,rfl,rfl,ho,Zo4 ns _ hall,hlen⟩
theorem ZBi (l:V7) (args:List WData):l.row.toRowW.claim.post args (.bool true) args=true:=
 postW_of (r:=l.row.toRowW) (X:=(true == true))
  (show YbN [] (.bool true) .bool=true by first | rfl | decide | simp[YbN,WShape.arms,WShape.armsAll])
  (show(WTm.eq .res (.lit (.bool true))).value [] { args:=args,res:=some (.bool true),after:=args } = some (.bool (true == true)) from w_eq_bool (w_res rfl) w_lit) rfl
theorem attach_call {l:V7} {n:Nat} {q:Bp} {loose:List Str} {XP:(Str→Option Ae)→Aq→Prop} {YP:Bg→Aq→Prop} {d:DefRec}
  (hn:l.most=some n) (hdf:d.params.defaults=[])
  (call:∀(w:Bg) (s₀ s₁:Ak) (mg mb:Str→Option Ae) (fa:Ab) (o:Obj) (pm cd doc:Ae) (a:Ab) (vs:List Ae) (ns:List Int),
   Ground q loose [] XP w s₀ mg mb s₁.heap→YP w s₁.heap→
   s₁.heap.get? fa=some o→o.data=.func (docDef d.name d.params d.body d.scope pm cd doc)→s₁.heap.CodeRec cd d.name→mg d.name=some (.ref fa)→
   s₁.heap.get? a=some { cls:=.type "list",data:=.seq vs.toArray }→V6 vs ns→ns.length≤n→s₁.gens = #[]→
   codeAny (model l.prog w) callerA (.call (.ref fa) ⟨[.ref a],[]⟩) (fun r s'=>r=.ok (.ret (.bool true))∧OldK s₁.heap s'.heap∧s'.os=s₁.os∧JH s'.gens) s₁) :
  YaF q loose XP YP l.row.toRowW d [] (fun f vs=>PySem.call f vs):=by
 intro w s₀ s₁ mg mb G Y fa o pm cd doc dV kV ho hd hcd hD hmg hg args vals as hpre hlay hrd hwl hlo;obtain rfl:dV=.none:=Dflts.none hD hdf;obtain rfl:kV=.none:=Dflts.noKw hD;obtain⟨a,vs,ns,rfl,rfl,hobj,hints,hlen⟩:=ZBx hn hpre hwl;refine enter_call (du (call w s₀ s₁ mg mb fa o pm cd doc a vs ns G Y ho (fd_plain hd) hcd hmg hobj hints hlen hg) fun r s' hq=>?_);obtain⟨rfl,h2,h3,h4⟩:=hq;exact⟨.inl ⟨.bool true,.bool true,[],rfl,fun _=>rfl,.bool true,ZBi l _,fun _=>⟨Ydj,fun _ hm=>(nomatch hm)⟩⟩,h2,h3,h4⟩
section
variable {prog:Bp} {w:Bg} {A:Cu} {E:Ae→Ak→Prop} {s:Ak} {K:Ao}
end
end Att
namespace L2
open PySem PySem.Spec PyProof.Rows
theorem Zu5:∀{vs:List Ae} {ns:List Int},V6 vs ns→Vals (ns.map V.int) vs
 | _,_,.nil=>.nil
 | _,_,.cons n t h=>.cons ⟨t,rfl⟩ (Zu5 h)
def Only (H:Hp):Prop:=∀b,H b=none∨∃o xs,H b=some (.frz o (.lst xs))
theorem ZCV {P:Bp} {w:Bg} {K:Ao} {mg mb:Str→Option Ae} {CX:CXT} {k:Nat} {fa a:Ab} {fd:Bc} {x:Str} {sp:Sp} {s₁:Ak} {vs:List Ae} {ns:List Int}
  (KX:K.In s₁.heap) (hns:s₁.heap.Ns Bf mg) (hb:s₁.heap.Ns builtinsNs mb) (hbb:∀x:Str,x≠"__name__"→mb x=bootBuiltins x) (hlim:s₁.heap.NoLimit) (hg:s₁.gens = #[])
  (ha:s₁.heap.get? a=some { cls:=.type "list",data:=.seq vs.toArray }) (hi:V6 vs ns) (hl:ns.length≤BW) (hr:Room k callerA)
  (F:∀base:Aq,K.In base→base.Ns Bf mg→FnOk P w K mg base CX k fa fd [x] sp) (hbind:∀(s:Ak) (u:Ae),TX s fd ⟨[u],[]⟩ [(x,u)])
  (hsp:∀H:Hp,Only H→SqL K H a (ns.map V.int)→sp [.ref a] H (fun v _=>v=.bl true) fun _ _ _=>False)
  (hCX:∀H e s',CX [] H s₁ (fun _ _ _=>False) e s'→False) :
  codeAny (model P w) callerA (.call (.ref fa) ⟨[.ref a],[]⟩) (fun r s'=>r=.ok (.ret (.bool true))∧OldK s₁.heap s'.heap∧s'.os=s₁.os∧JH s'.gens) s₁:=by
 have rv:=Zu5 hi;have lenV:=hi.length
 have core:∀H:Hp,Only H→SqL K H a (ns.map V.int)→HOk P w H s₁.heap→(∀b,H b≠none→b=a)→(H a≠none→K.lookup a=none)→
   codeAny (model P w) callerA (.call (.ref fa) ⟨[.ref a],[]⟩) (fun r s'=>r=.ok (.ret (.bool true))∧OldK s₁.heap s'.heap∧s'.os=s₁.os∧JH s'.gens) s₁:=by
  intro H hO hS hok hA hK;have base_of:∀{b:Ab} {o:Obj},s₁.heap.get? b=some o→H b=none→(hidT s₁.heap H).get? b=some o:=fun e n=>ZCF e n
  have noA:∀{b:Ab} {o:Obj} {es:Array DictEntry} {ep:Nat},s₁.heap.get? b=some o→o.data=.dict es ep→H b=none:=fun {b o es ep} e d=>by
   cases q:H b with
   | none=>rfl
   | some u=>
    have e':b=a:=hA b (by rw[q]; simp);subst e';rw[ha]at e; cases e;have d':Data.seq vs.toArray _=Data.dict es ep:=d
    cases d'
  have nsK:∀{b:Ab} {m:Str→Option Ae},s₁.heap.Ns b m→(hidT s₁.heap H).Ns b m:=fun {b m} ⟨o,es,ep,e,d,r⟩=>⟨o,es,ep,base_of e (noA e d),d,r⟩
  have hKb:K.In (hidT s₁.heap H):=fun b o e=>base_of (KX b o e) (by
   cases q:H b with
   | none=>rfl
   | some u=>
    have e':b=a:=hA b (by rw[q]; simp);subst e'
    rw[hK (by rw[q]; simp)]at e; cases e)
  have hM:Mod K mg (hidT s₁.heap H):=⟨hKb,nsK hns,⟨mb,nsK hb,hbb⟩,let ⟨mc,h1,h2⟩:=hlim; ⟨mc,nsK h1,h2⟩⟩;have e0:Env0 P w K mg (hidT s₁.heap H) callerA [] s₁ H:=⟨rfl,hM,fun b o e=>ZF3 e,Ybt (Zz2 _ _),trivial,fun b hb=>absurd (show b∈([]:List Ab) from hb) (by simp),hok,.of_eq hg⟩;refine du ((F _ hKb (nsK hns)).run callerA [] s₁ H ⟨[.ref a],[]⟩ [.ref a] [.ref a] _ _ hr e0 (hbind s₁ (.ref a)) (.cons rfl .nil) (hsp H hO hS)) fun r s' h=>?_
  cases r with
  | error e=>exact(hCX H e s' h).elim
  | ok fl=>
   cases fl with
   | next=>exact GJ h
   | brk=>exact GJ h
   | cont=>exact GJ h
   | ret u=>
    obtain⟨v,H',os,bare,un,hok',r',q⟩:=h;have q':v=.bl true:=q;subst q';obtain rfl:u=N6 true:=r';refine⟨rfl,OldK.of_keep fun b o e=>?_,os,bare⟩
    cases q:H b with
    | none=>exact un.keep b o e q (by intro z; exact absurd (show b∈([]:List Ab) from z) (by simp)) (by simp)
    | some u=>
     rcases hO b with z | ⟨ob,xs,z⟩
     ·rw[q]at z; cases z
     ·have z2:=un.frzs b ob _ z
      obtain⟨e1,_⟩:=hok b _ z;obtain⟨e2,_⟩:=hok' b _ z2;rw[e]at e1; cases e1;exact e2
 cases hk:K.lookup a with
 | some o=>
  have e:=KX a o hk;rw[ha]at e
  cases e
  refine core (fun _=>none) (fun _=>.inl rfl) (.inr ⟨_,vs.toArray,_,hk,rfl,rfl,rfl,by rw[Du,lenV]; exact hl,by simpa using rv⟩) (fun b u z=>by have z':(none:Option HO)=some u:=z; cases z') (fun b z=>absurd rfl z) fun z=>absurd rfl z
 | none=>
  refine core (fun b=>if b=a then some (.frz { cls:=.type "list",data:=.seq vs.toArray } (.lst (ns.map V.int))) else none) (fun b=>?_) (.inl (.inr ⟨{ cls:=.type "list",data:=.seq vs.toArray },if_pos rfl⟩)) (fun b u z=>?_) (fun b z=>?_) fun _=>hk
  ·by_cases hb:b=a
   ·exact .inr ⟨_,_,if_pos hb⟩
   ·exact .inl (if_neg hb)
  ·by_cases hb:b=a
   ·have z':=(if_pos hb).symm.trans z
    cases z'
    subst hb;exact⟨ha,by rw[Ax]; exact hl,vs,_,rv,ha⟩
   ·have z':=(if_neg hb).symm.trans z
    cases z'
  ·by_cases hb:b=a
   ·exact hb
   ·exact absurd (if_neg hb) z
end L2
namespace L2
open PySem PySem.Spec PyProof.Rows
noncomputable abbrev KOf {K:Ao} {h:Aq} (_:K.In h):Ao:=K
theorem ZG2 {l:V7} {n k:Nat} {q:Bp} {loose:List Str} {XP:(Str→Option Ae)→Aq→Prop} {YP:Bg→Aq→Prop} {d:DefRec} {K:gj→Ao} {CX:Bg→CXT} {sp:Bg→Sp} {x:Str}
  (hn:l.most=some n) (hn2:n≤BW) (hdf:d.params.defaults=[]) (hr:Room k callerA)
  (hY:∀(w:Bg) (h:Aq),YP w h→(K w.params).In h)
  (F:∀(w:Bg) (mg:Str→Option Ae) (fa:Ab) (h:Aq),(K w.params).In h→h.Ns Bf mg→mg d.name=some (.ref fa)→
   ∃fd:Bc,(∀(s:Ak) (u:Ae),TX s fd ⟨[u],[]⟩ [(x,u)])∧
    ∀base:Aq,(K w.params).In base→base.Ns Bf mg→FnOk l.prog w (K w.params) mg base (CX w) k fa fd [x] (sp w))
  (hsp:∀(w:Bg) (H:Hp) (a:Ab) (ns:List Int),ns.length≤n→Only H→SqL (K w.params) H a (ns.map V.int)→sp w [.ref a] H (fun v _=>v=.bl true) fun _ _ _=>False)
  (hCX:∀(w:Bg) (H:Hp) (s:Ak) (e:Ae) (s':Ak),CX w [] H s (fun _ _ _=>False) e s'→False) :
  YaF q loose XP YP l.row.toRowW d [] (fun f vs=>PySem.call f vs):=by
 refine Att.attach_call hn hdf fun w s₀ s₁ mg mb fa o pm cd doc a vs ns G Y ho hd hcd hmg hobj hints hlen hg=>?_;have KX:=hY w _ Y;obtain⟨fd,hb,hF⟩:=F w mg fa _ KX G.T.g hmg;exact ZCV KX G.T.g G.T.b G.T.builtins G.T.nolimit hg hobj hints (Ex hlen hn2) hr hF hb (fun H hO hS=>hsp w H a ns hlen hO hS) fun H e s'=>hCX w H s₁ e s'
theorem walk_ofK {l:V7} {n k:Nat} {q:Bp} {loose:List Str} {XP:(Str→Option Ae)→Aq→Prop} {YP:Bg→Aq→Prop} {d:DefRec} {K:gj→Ao} {CX:CXT} {sp:Ao→Sp} {x:Str}
  (hn:l.most=some n) (hn2:n≤BW) (hdf:d.params.defaults=[]) (hr:Room k callerA)
  (hY:∀(w:Bg) (h:Aq),YP w h→(K w.params).In h)
  (F:∀(w:Bg) (mg:Str→Option Ae) (fa:Ab) (h:Aq),(K w.params).In h→h.Ns Bf mg→mg d.name=some (.ref fa)→
   ∃fd:Bc,(∀(s:Ak) (u:Ae),TX s fd ⟨[u],[]⟩ [(x,u)])∧
    ∀base:Aq,(K w.params).In base→base.Ns Bf mg→FnOk l.prog w (K w.params) mg base CX k fa fd [x] (sp (K w.params)))
  (hsp:∀(K:Ao) (H:Hp) (a:Ab) (ns:List Int),ns.length≤n→Only H→SqL K H a (ns.map V.int)→sp K [.ref a] H (fun v _=>v=.bl true) fun _ _ _=>False)
  (hCX:∀(H:Hp) (s:Ak) (e:Ae) (s':Ak),CX [] H s (fun _ _ _=>False) e s'→False) :
  YaF q loose XP YP l.row.toRowW d [] (fun f vs=>PySem.call f vs):=
 ZG2 (K:=K) (CX:=fun _=>CX) (sp:=fun w=>sp (K w.params)) hn hn2 hdf hr hY F (fun w H a ns h1 h2 h3=>hsp (K w.params) H a ns h1 h2 h3) fun _ H s e s'=>hCX H s e s'
end L2
namespace L2
open PySem PySem.Spec PyProof.Rows
noncomputable def CJ (s:Ar) (j:Nat):Ar:=match s with
 | .ClassDef _ _ _ body _ _ _ _ _ _ _=>body.getD j (.Pass ⟨0,0,0,0⟩)
 | _=>.Pass ⟨0,0,0,0⟩
noncomputable def Lp (s:Ar):Arguments:=match s with
 | .FunctionDef _ a _ _ _ _ _ _ _ _=>a
 | _=>{ posonlyargs:=[],args:=[],vararg:=none,kwonlyargs:=[],kw_defaults:=[],kwarg:=none,defaults:=[] }
noncomputable def Jr (s:Ar):List Ar:=match s with
 | .FunctionDef _ _ b _ _ _ _ _ _ _=>b
 | _=>[]
noncomputable def Az (s:Ar):Gn:=match s with
 | .FunctionDef _ _ _ _ _ _ sc _ _ _=>sc
 | _=>{ kind:=.function,names:=[],isGenerator:=false,isCoroutine:=false }
noncomputable abbrev CX0:CXT:=fun _ _ _ _ _ _=>False
noncomputable abbrev E0:XK:=fun _ _ _=>False
theorem Uy {X:Cx}:Jq CX0 X E0:=fun _ _ _ _ _ _ _ h=>h.elim
structure Fun (K:Ao) (x qual:Str) (st:Ar) (f:Ab) (fd:Bc):Prop where
 ex:∃(oc:Ae) (od:Option Ab) (kV doc pm:Ae) (an:Option Ab) (cdv ct:Ae) (osl:Array (Option Ae)),
  fd=Kg x qual (Lp st) (Jr st) (Az st) .none kV doc pm an cdv ct∧K.lookup f=some ⟨oc,od,.func fd,osl⟩ ∧V2 K cdv qual=true
 kp:Fz K (.ref f)=true
section
variable {P:Bp} {w:Bg} {K:Ao} {mg:Str→Option Ae} {base:Aq}
theorem Fun.ok {x qual:Str} {st:Ar} {f:Ab} {fd:Bc} {N ps:List Str} {k:Nat} {sp:Sp} (F:Fun K x qual st f fd) (S:FnScope N ps (Az st)) (len:∀vs H Q E,sp vs H Q E→vs.length=ps.length)
  (hbody:∀(cdv:Ae) (A:Cu) (outer:List Env) (s:Ak) (H:Hp) (vs:List V) (Q:VK) (E:XK),Room k (A.deeper (envOfC qual (Az st) s.heap.objs.size f cdv))→sp vs H Q E→
   ∃t,PSs (cxOf CX0 P w K mg base N qual (Az st) f cdv A outer s H E).nox (Jr st) t∧t { nx:=fun _ H'=>Q .non H',rt:=Q } (start N vs) H):FnOk P w K mg base CX0 (k+1) f fd ps sp:=by
 obtain⟨oc,od,kV,doc,pm,an,cdv,ct,osl,rfl,lk,hcd⟩:=F.ex;refine ZHw lk hcd S len fun A outer s H vs Q E hr hsp=>?_;obtain⟨t,h,q⟩:=hbody cdv A outer s H vs Q E hr hsp;exact⟨t,h.nox,q⟩
theorem Fun.binds {x qual:Str} {st:Ar} {f:Ab} {fd:Bc} {ps:List Str} (F:Fun K x qual st f fd)
  (h:∀(kV doc pm:Ae) (an:Option Ab) (cdv ct:Ae) (us:List Ae),us.length=ps.length→bindArgs (Kg x qual (Lp st) (Jr st) (Az st) .none kV doc pm an cdv ct) ⟨us,[]⟩=pure (ps.zip us)):Be K fd ps []:=by
 obtain⟨oc,od,kV,doc,pm,an,cdv,ct,osl,rfl,lk,hcd⟩:=F.ex;exact .all (h kV doc pm an cdv ct)
theorem ZDW {x qual:Str} {st:Ar} {f:Ab} {oc:Ae} {od an:Option Ab} {osl:Array (Option Ae)} {kV doc pm cdv ct:Ae} (l:K.lookup f=some ⟨oc,od,.func (Kg x qual (Lp st) (Jr st) (Az st) .none kV doc pm an cdv ct),osl⟩)
  (c:V2 K cdv qual=true) (k:Fz K (.ref f)=true):Fun K x qual st f (Kg x qual (Lp st) (Jr st) (Az st) .none kV doc pm an cdv ct):=⟨⟨oc,od,kV,doc,pm,an,cdv,ct,osl,rfl,l,c⟩,k⟩
end
section
variable {X:Cx}
theorem pv (i:Nat) {x:Str} {pos:Pos} (hN:X.N[i]?=some x:=by rfl) (hv:Vis X.env.scope x:=by first | exact gk rfl | exact V8 (gk rfl) | exact V8 (V8 rfl)) (hd:(x == ("__debug__" : Str))=false:=by decide)
  (hcd:(x == ("__classdict__" : Str))=false:=by decide):PE X (.Name x pos) (tVar i):=ZII hN hv hd hcd
end
abbrev Same (H H':Hp):Prop:=∀b o,H b=some o→H' b=some o
theorem Same.refl (H:Hp):Same H H:=fun _ _ h=>h
theorem Same.trans {H H1 H2:Hp} (a:Same H H1) (b:Same H1 H2):Same H H2:=fun c o h=>b c o (a c o h)
theorem Same.free {H H':Hp} (e:Same H H') {l:Ab} (h:H' l=Option.none):H l=Option.none:=by
 cases q:H l with
 | none=>rfl
 | some o=>
  rw[e l o q]at h
  cases h
theorem Same.seq {K:Ao} {H H':Hp} {a:Ab} {xs:List V} (e:Same H H') (h:SqL K H a xs):SqL K H' a xs:=by
 rcases h with(h | ⟨o,h⟩) | h
 ·exact .inl (.inl (e _ _ h))
 ·exact .inl (.inr ⟨o,e _ _ h⟩)
 ·exact .inr h
section
variable {X:Cx}
end
section
variable {κ:Type} [DecidableEq κ]
end
end L2
namespace EM
noncomputable def bits (f:Nat→Bool):Nat→Nat
 | 0=>0
 | n+1=>bits f n+(if f n then 2 ^ n else 0)
theorem Uz (f:Nat→Bool):∀n,bits f n < 2 ^ n
 | 0=>by simp[bits]
 | n+1=>by
  have h:=Uz f n;simp only [bits]
  have e:(2:Nat) ^ (n+1)=2 ^ n+2 ^ n:=by rw[YbO]; omega
  split <;> omega
theorem GX (f:Nat→Bool) (i:Nat):∀n,(bits f n).testBit i=(decide (i < n) && f i)
 | 0=>by simp[bits]
 | n+1=>by
  have ih:=GX f i n;have hl:=Uz f n;simp only [bits]
  by_cases hf:f n=true
  ·rw[if_pos hf,Nat.add_comm]
   rcases Nat.lt_trichotomy i n with h | h | h
   ·rw[Nat.testBit_two_pow_add_gt h,ih]
    simp[h,gq h]
   ·subst h
    rw[Nat.testBit_two_pow_add_eq,ih];simp[hf]
   ·have:(2:Nat) ^ n+bits f n < 2 ^ i:=by
     have e:(2:Nat) ^ (n+1)=2 ^ n+2 ^ n:=by rw[YbO]; omega
     have:(2:Nat) ^ (n+1)≤2 ^ i:=gr (by decide) h;omega
    rw[YaG this]
    have : ¬i < n+1:=by omega
    simp[this]
  ·rw[if_neg hf,Nat.add_zero,ih]
   by_cases h:i=n
   ·subst h
    have:f i=false:=by simpa using hf
    simp[this]
   ·have:(i < n+1) ↔ (i < n):=by omega
    simp[this]
theorem o9 {f g:Nat→Bool} {n:Nat} (h:∀i,i < n→f i=g i):bits f n=bits g n:=by
 apply Km;intro i;rw[GX,GX]
 by_cases hi:i < n
 ·simp[hi,h i hi]
 ·simp[hi]
theorem ZCm (f g:Nat→Bool) (n:Nat):bits f n &&& bits g n=bits (fun i=>f i && g i) n:=by
 apply Km;intro i;rw[V9,GX,GX,GX]
 cases decide (i < n) <;> simp
theorem ZFa (f g:Nat→Bool) (n:Nat):bits f n ||| bits g n=bits (fun i=>f i || g i) n:=by
 apply Km;intro i;rw[gw,GX,GX,GX]
 cases decide (i < n) <;> simp
theorem Zw2 (f g:Nat→Bool) (n:Nat):bits f n ^^^ bits g n=bits (fun i=>xor (f i) (g i)) n:=by
 apply Km;intro i;rw[YbP,GX,GX,GX]
 cases decide (i < n) <;> simp
theorem ph (n:Nat):bits (fun _=>true) n=2 ^ n - 1:=by
 apply Km;intro i;rw[GX,Nat.testBit_two_pow_sub_one];simp
theorem pq (n:Nat):bits (fun _=>false) n=0:=by
 apply Km;intro i;rw[GX];simp
theorem Zvv (f:Nat→Bool) (n:Nat) (h:f n=true):bits f n ||| 2 ^ n=bits f (n+1):=by
 have e:=Nat.two_pow_add_eq_or_of_lt (Uz f n) 1;rw[Nat.mul_one]at e;rw[Nat.or_comm,←e];simp only [bits,h,if_true];omega
theorem Zzz (f:Nat→Bool) (n:Nat) (h:f n=false):bits f (n+1)=bits f n:=by
 simp[bits,h]
theorem ZAA (s k:Nat):s.testBit k=decide (s / 2 ^ k % 2=1):=Nat.testBit_eq_decide_div_mod_eq
theorem p7:∀(n x y:Nat),x < n→(x ||| y)=(x &&& y)+(x ^^^ y)
 | 0,x,y,h=>absurd h (by omega)
 | n+1,x,y,h=>by
  by_cases hx:x=0
  ·subst hx; simp
  ·have ih:=p7 n (x / 2) (y / 2) (by omega)
   have e1:=YaH (x ||| y) 2;have e2:=YaH (x &&& y) 2;have e3:=YaH (x ^^^ y) 2;rw[Nat.or_div_two]at e1;rw[Nat.and_div_two]at e2;rw[Nat.xor_div_two]at e3;have m1:(x ||| y) % 2=(x % 2 ||| y % 2):=Nat.or_mod_two_pow (n:=1);have m2:(x &&& y) % 2=(x % 2 &&& y % 2):=Nat.and_mod_two_pow (n:=1);have m3:(x ^^^ y) % 2=(x % 2 ^^^ y % 2):=Nat.xor_mod_two_pow (n:=1)
   have m4:(x % 2 ||| y % 2)=(x % 2 &&& y % 2)+(x % 2 ^^^ y % 2):=by
    rcases YbQ x with a | a <;> rcases YbQ y with b | b <;> rw[a,b] <;> rfl
   omega
end EM
namespace EM
inductive W3 where
 | a | e | o
 deriving DecidableEq
inductive Fm where
 | lamp (k:Nat)
 | sure (b:Bool)
 | neg (f:Fm)
 | join (w:W3) (fs:List Fm)
noncomputable def comb:W3→List Bool→Bool
 | .a,bs=>bs.all id
 | .o,bs=>bs.any id
 | .e,bs=>bs.foldl xor false
mutual
noncomputable def Fm.holds (s:Nat):Fm→Bool
 | .lamp k=>s.testBit k
 | .sure b=>b
 | .neg f=>!(f.holds s)
 | .join w fs=>comb w (Fm.holdsL s fs)
noncomputable def Fm.holdsL (s:Nat):List Fm→List Bool
 | []=>[]
 | f::fs=>f.holds s::Fm.holdsL s fs
end
theorem ZtE (s:Nat):∀fs:List Fm,Fm.holdsL s fs=fs.map (Fm.holds s)
 | []=>by simp[Fm.holdsL]
 | f::fs=>by simp[Fm.holdsL,ZtE s fs]
theorem Kv (s:Nat) (w:W3) (fs:List Fm):(Fm.join w fs).holds s=comb w (fs.map (Fm.holds s)):=by
 simp[Fm.holds,ZtE]
theorem ZoQ (bs:List Bool) (b:Bool):comb .e (bs++[b])=xor (comb .e bs) b:=by simp[comb]
theorem ZoP (bs:List Bool) (b:Bool):comb .a (bs++[b])=(comb .a bs && b):=by simp[comb]
theorem ZoR (bs:List Bool) (b:Bool):comb .o (bs++[b])=(comb .o bs || b):=by simp[comb]
noncomputable def Fm.crowd (f:Fm) (n:Nat):Nat:=bits (fun s=>f.holds s) n
mutual
noncomputable def Fm.low (m:Nat):Fm→Bool
 | .lamp k=>decide (k < m)
 | .sure _=>true
 | .neg f=>f.low m
 | .join _ fs=>Fm.lowL m fs
noncomputable def Fm.lowL (m:Nat):List Fm→Bool
 | []=>true
 | f::fs=>f.low m && Fm.lowL m fs
end
theorem ZAD (m:Nat):∀fs:List Fm,Fm.lowL m fs=fs.all (Fm.low m)
 | []=>by simp[Fm.lowL]
 | f::fs=>by simp[Fm.lowL,ZAD m fs]
theorem Zxn (m:Nat) (w:W3) (fs:List Fm):(Fm.join w fs).low m=fs.all (Fm.low m):=by
 simp[Fm.low,ZAD]
noncomputable def ZHh:W3→Nat→Nat→Nat
 | .a,x,y=>x &&& y
 | .o,x,y=>x ||| y
 | .e,x,y=>x ^^^ y
noncomputable def UG:W3→Bool
 | .a=>true
 | _=>false
noncomputable def b2:W3→Bool→Bool→Bool
 | .a,x,y=>x && y
 | .o,x,y=>x || y
 | .e,x,y=>xor x y
theorem ZCq (w:W3):comb w []=UG w:=by cases w <;> rfl
theorem ZzK (w:W3) (bs:List Bool) (b:Bool):comb w (bs++[b])=b2 w (comb w bs) b:=by
 cases w
 ·exact ZoP bs b
 ·exact ZoQ bs b
 ·exact ZoR bs b
theorem Zyc (w:W3) (f g:Nat→Bool) (n:Nat):ZHh w (bits f n) (bits g n)=bits (fun i=>b2 w (f i) (g i)) n:=by
 cases w
 ·exact ZCm f g n
 ·exact Zw2 f g n
 ·exact ZFa f g n
theorem p8 (w:W3) (n:Nat):(Fm.join w []).crowd n=bits (fun _=>UG w) n:=by
 unfold Fm.crowd;apply o9;intro i _;rw[Kv,Gx,ZCq]
theorem qd (w:W3) (fs:List Fm) (f:Fm) (n:Nat):(Fm.join w (fs++[f])).crowd n=ZHh w ((Fm.join w fs).crowd n) (f.crowd n):=by
 unfold Fm.crowd;rw[Zyc];apply o9;intro i _;rw[Kv,Kv,Cp,Dq,Gx,ZzK]
theorem ZzM (f:Fm) (n:Nat):(Fm.neg f).crowd n=(2 ^ n - 1) ^^^ f.crowd n:=by
 unfold Fm.crowd;rw[←ph,Zw2];apply o9;intro i _;simp[Fm.holds]
theorem Zq3 (b:Bool) (n:Nat):(Fm.sure b).crowd n=if b then 2 ^ n - 1 else 0:=by
 unfold Fm.crowd
 cases b
 ·simp only [Fm.holds]; exact pq n
 ·simp only [Fm.holds]; exact ph n
end EM
namespace L2
open PySem PySem.Spec PyProof.Rows
section
variable {σ:St} {H:Hp} {Q:VK} {D:Ends} {K:Ao} {BQ:Bool→Hp→Prop}
theorem ZHY {i:Nat} {v:V} (h:σ[i]?=some (some v)) (k:Q v H):tVar i σ H Q:=⟨v,h,k⟩
theorem i_c {v:V} (k:Q v H):tC v σ H Q:=k
theorem i_op {r:R2} {ta tb:TE} (h:ta σ H fun x H1=>tb σ H1 fun y H2=>r x y H2 Q):tOp r ta tb σ H Q:=h
theorem i_un {r:V→Hp→VK→Prop} {ta:TE} (h:ta σ H fun x H1=>r x H1 Q):tUn r ta σ H Q:=h
theorem ZHT {g:Int→Int→V} {i j:Int} (h:Q (g i j) H):rI0 g (.int i) (.int j) H Q:=⟨i,j,rfl,rfl,h⟩
theorem i_rI {C:Int→Int→Prop} {g:Int→Int→V} {i j:Int} (c:C i j) (h:Q (g i j) H):rI C g (.int i) (.int j) H Q:=⟨i,j,rfl,rfl,c,h⟩
theorem i_rU {g:Int→V} {i:Int} (h:Q (g i) H):rU g (.int i) H Q:=⟨i,rfl,h⟩
theorem qg {i j:Int} (h:Q (.bl (decide (i=j))) H):rEq (.int i) (.int j) H Q:=by
 refine⟨rfl,?_⟩
 have e:decide (V.int i=V.int j)=decide (i=j):=by simp
 rw[e]; exact h
theorem qi {i j:Str} (h:Q (.bl (decide (i=j))) H):rEq (.str i) (.str j) H Q:=by
 refine⟨rfl,?_⟩
 have e:decide (V.str i=V.str j)=decide (i=j):=by simp
 rw[e]; exact h
theorem qj {i j:Int} (h:Q (.bl (!decide (i=j))) H):rNe (.int i) (.int j) H Q:=by
 refine⟨rfl,?_⟩
 have e:decide (V.int i=V.int j)=decide (i=j):=by simp
 rw[e]; exact h
theorem ql {i j:Str} (h:Q (.bl (!decide (i=j))) H):rNe (.str i) (.str j) H Q:=by
 refine⟨rfl,?_⟩
 have e:decide (V.str i=V.str j)=decide (i=j):=by simp
 rw[e]; exact h
theorem ZEj {t:TE} (h:t σ H fun x H'=>∃k,x=.bl k∧BQ k H'):ZJz t σ H BQ:=h
theorem ZHH {b:Bool} {R:Bool→Prop} (h:R b):∃k,V.bl b=V.bl k∧R k:=⟨b,rfl,h⟩
theorem ZHB {t u:TT} (h:t σ H fun c H1=>if c=true then u σ H1 BQ else BQ false H1):tAnd t u σ H BQ:=h
theorem i_or {t u:TT} (h:t σ H fun c H1=>if c=true then BQ true H1 else u σ H1 BQ):tOr t u σ H BQ:=h
theorem ZHS {t:TT} (h:t σ H fun c H1=>BQ (!c) H1):tNot t σ H BQ:=h
theorem ZDZ {t u:TE} (h:t σ H fun x H1=>∃c,x=.bl c∧if c=true then u σ H1 Q else Q (.bl false) H1):ZJq t u σ H Q:=h
theorem i_if {t:TT} {ta tb:TE} (h:t σ H fun c H1=>if c=true then ta σ H1 Q else tb σ H1 Q):tIf t ta tb σ H Q:=h
theorem Hq {t u:TS} (h:t { D with nx:=u D } σ H):tSeq t u D σ H:=h
theorem qp (h:D.nx σ H):ZJv D σ H:=h
theorem ZD2 {te:TE} (h:te σ H fun _ H1=>D.nx σ H1):lg te D σ H:=h
theorem ZHW {te:TE} (h:te σ H D.rt):tRet te D σ H:=h
theorem ZHL {c:TT} {t u:TS} (h:c σ H fun b H1=>if b=true then t D σ H1 else u D σ H1):tIfS c t u D σ H:=h
theorem ZHC {te:TE} {g:TG} (h:te σ H fun x H1=>g x σ H1 D.nx):tAsg te g D σ H:=h
theorem ZEc {i:Nat} {v:V} {R:St→Hp→Prop} (h:R (σ.set i (some v)) H):Ir i v σ H R:=h
theorem ZHP {R:List V→Hp→Prop} (h:R [] H):tNil σ H R:=h
theorem ZD0 {ta:TE} {tr:TA} {R:List V→Hp→Prop} (h:ta σ H fun x H1=>tr σ H1 fun xs H2=>R (x::xs) H2):HH ta tr σ H R:=h
theorem i_cb {r:List V→Hp→VK→Prop} {t:TA} (h:t σ H fun vs H1=>r vs H1 Q):tCB r t σ H Q:=h
def NewL (xs:List V) (H:Hp) (Q:VK):Prop:=xs.length≤BW∧∀p,H p=none→Q (.ref p) (upd H p (.lst xs))
def NewT (xs:List V) (H:Hp) (Q:VK):Prop:=xs.length≤BW∧∀p,H p=none→Q (.ref p) (upd H p (.tup xs))
theorem ZHX {t:TA} (h:t σ H fun xs H1=>NewT xs H1 Q):tTup t σ H Q:=h
theorem ZHN {t:TA} (h:t σ H fun xs H1=>NewL xs H1 Q):tLst t σ H Q:=h
theorem i_bm {T:String} {r:V→List V→Hp→VK→Prop} {to:TE} {t:TA} (h:to σ H fun x H1=>tyV K T x H1∧t σ H1 fun xs H2=>r x xs H2 Q):tBM K T r to t σ H Q:=h
theorem ZHD {T:String} {r:V→List V→Hp→VK→Prop} {to:TE} (h:to σ H fun x H1=>tyV K T x H1∧r x [] H1 Q):tBM0 K T r to σ H Q:=h
theorem ZHJ {ta:TE} {f:Str} (h:ta σ H fun x H1=>∃a C dx fs v,x=.ref a∧H1 a=some (.ins C dx fs)∧Cls K C∧Dn K C f∧fs.lookup f=some v∧Q v H1):tFld K ta f σ H Q:=h
theorem ZEi {ta tv:TE} {f:Str} (h:tv σ H fun y H1=>ta σ H1 fun x H2=>∃a C dx fs,x=.ref a∧H2 a=some (.ins C dx fs)∧Cls K C∧Dn K C f∧fs.length < 1000∧D.nx σ (upd H2 a (.ins C dx (putF f y fs)))):sFld K ta tv f D σ H:=h
theorem i_sl {r:V→Option Int→Option Int→Hp→VK→Prop} {te:TE} {tl th:TO} (h:te σ H fun x H1=>tl σ H1 fun l H2=>th σ H2 fun u H3=>r x l u H3 Q):tSl r te tl th σ H Q:=h
theorem ZEh {t:TE} {R:Option Int→Hp→Prop} (h:t σ H fun x H1=>∃i,x=.int i∧R (some i) H1):oh t σ H R:=h
theorem ZHI {b:Int} {R:Int→Prop} (h:R b):∃k,V.int b=V.int k∧R k:=⟨b,rfl,h⟩
theorem Zxc {R:Option Int→Hp→Prop} (h:R none H):nu σ H R:=h
theorem ZEk {b:Bool} {R:Bool→Prop} (h:R b):∃k,TruV K (.bl b) H k∧R k:=⟨b,rfl,h⟩
theorem Di {c A B:Prop} [Decidable c] (h1:c→A) (h2 : ¬c→B):if decide c=true then A else B:=by
 by_cases h:c
 ·rw[if_pos (decide_eq_true h)]; exact h1 h
 ·rw[if_neg (by simp[h])]; exact h2 h
theorem ZJT {c A B:Prop} [Decidable c] (h1 : ¬c→A) (h2:c→B):if (!decide c)=true then A else B:=by
 by_cases h:c
 ·rw[if_neg (by simp[h])]; exact h2 h
 ·rw[if_pos (by simp[h])]; exact h1 h
theorem JX {b:Bool} {A B:Prop} (h1:b=true→A) (h2:b=false→B):if b=true then A else B:=by
 cases b
 ·rw[if_neg Dt]; exact h2 rfl
 ·rw[if_pos rfl]; exact h1 rfl
theorem Cg {b:Bool} {A B:Prop} (h:b=true) (k:A):if b=true then A else B:=by rw[if_pos h]; exact k
theorem Ba {b:Bool} {A B:Prop} (h:b=false) (k:B):if b=true then A else B:=by rw[if_neg (by rw[h]; exact Dt)]; exact k
end
def WN (lo:Int) (n:Nat) (g:TG) (tb:TS) (D:Ends) (σ:St) (H:Hp):Prop:=
 ∃W:Nat→Nat→St→Hp→Prop,(∃m,W 0 m σ H)∧∀i m σ H,W i m σ H→
   ((Itr lo n).stop i H∧D.nx σ H)∨((Itr lo n).go i H∧∃N:St→Hp→Prop,(∀σ' H',N σ' H'→∃m',m' < m∧W (i+1) m' σ' H')∧∀x H',(Itr lo n).yld i H x H'→g x σ H' fun σ2 H2=>tb { D with nx:=N,ct:=N,bk:=D.nx } σ2 H2)
def ZG4 (K:Ao) (a:Ab) (g:TG) (tb:TS) (D:Ends) (σ:St) (H:Hp):Prop:=
 ∃W:Nat→Nat→St→Hp→Prop,(∃m,W 0 m σ H)∧∀i m σ H,W i m σ H→
   ((Itl K a).stop i H∧D.nx σ H)∨((Itl K a).go i H∧∃N:St→Hp→Prop,(∀σ' H',N σ' H'→∃m',m' < m∧W (i+1) m' σ' H')∧∀x H',(Itl K a).yld i H x H'→g x σ H' fun σ2 H2=>tb { D with nx:=N,ct:=N,bk:=D.nx } σ2 H2)
def ZG5 (K:Ao) (a:Ab) (g:TG) (tb:TS) (D:Ends) (σ:St) (H:Hp):Prop:=
 ∃W:Nat→Nat→St→Hp→Prop,(∃m,W 0 m σ H)∧∀i m σ H,W i m σ H→
   ((Itt K a).stop i H∧D.nx σ H)∨((Itt K a).go i H∧∃N:St→Hp→Prop,(∀σ' H',N σ' H'→∃m',m' < m∧W (i+1) m' σ' H')∧∀x H',(Itt K a).yld i H x H'→g x σ H' fun σ2 H2=>tb { D with nx:=N,ct:=N,bk:=D.nx } σ2 H2)
section
variable {σ:St} {H:Hp} {D:Ends} {K:Ao} {g:TG} {tb:TS}
theorem Zz7 {ta:TA} (h:ta σ H fun vs H1=>∃j:Int,vs=[.int j]∧-(2 ^ 62)≤j∧j < 2 ^ 62∧WN 0 j.toNat g tb D σ H1):tFor (lz ta) g tb D σ H:=h
theorem Zz8 {ta:TA} (h:ta σ H fun vs H1=>∃i j:Int,vs=[.int i,.int j]∧(-(2 ^ 62)≤i∧i < 2 ^ 62∧-(2 ^ 62)≤j∧j < 2 ^ 62)∧WN i (j - i).toNat g tb D σ H1):tFor (ZHA ta) g tb D σ H:=h
theorem ZJY {lo:Int} {n:Nat} (Pv:Nat→St→Hp→Prop) (h0:Pv 0 σ H) (hs:∀i σ H,i < n→Pv i σ H→g (.int (lo+i)) σ H fun σ2 H2=>tb { D with nx:=Pv (i+1),ct:=Pv (i+1),bk:=D.nx } σ2 H2) (hd:∀σ H,Pv n σ H→D.nx σ H):WN lo n g tb D σ H:=Uq Pv h0 hs hd
theorem Kw {n:Nat} (Pv:Nat→St→Hp→Prop) (h0:Pv 0 σ H) (hs:∀(i:Nat) σ H,i < n→Pv i σ H→g (.int (i:Int)) σ H fun σ2 H2=>tb { D with nx:=Pv (i+1),ct:=Pv (i+1),bk:=D.nx } σ2 H2) (hd:∀σ H,Pv n σ H→D.nx σ H):WN 0 n g tb D σ H:=Uq Pv h0 (fun i σ H hi p=>by rw[g8]; exact hs i σ H hi p) hd
theorem ZJX {a:Ab} {xs:List V} (Pv:Nat→St→Hp→Prop) (h0:Pv 0 σ H) (hl:∀i σ H,i≤xs.length→Pv i σ H→SqL K H a xs) (hs:∀i x σ H,xs[i]?=some x→Pv i σ H→g x σ H fun σ2 H2=>tb { D with nx:=Pv (i+1),ct:=Pv (i+1),bk:=D.nx } σ2 H2) (hd:∀σ H,Pv xs.length σ H→D.nx σ H):ZG4 K a g tb D σ H:=ZCw Pv h0 hl hs hd
theorem ZJZ {a:Ab} {xs:List V} (Pv:Nat→St→Hp→Prop) (h0:Pv 0 σ H) (hl:∀i σ H,i≤xs.length→Pv i σ H→SqT K H a xs) (hs:∀i x σ H,xs[i]?=some x→Pv i σ H→g x σ H fun σ2 H2=>tb { D with nx:=Pv (i+1),ct:=Pv (i+1),bk:=D.nx } σ2 H2) (hd:∀σ H,Pv xs.length σ H→D.nx σ H):ZG5 K a g tb D σ H:=ZFh Pv h0 hl hs hd
end
noncomputable def Its (x:Str):It:=⟨fun i _=>i < x.cps.size,fun i H v H'=>H'=H∧∃c,x.cps[i]?=some c∧v=.str ⟨#[c]⟩,fun i _=>x.cps.size≤i⟩
theorem ZBY {P:Bp} {w:Bg} {K:Ao} {tg:Aw} (x:Str) (t:Tok) (it:Ab):Turn P w K tg (Its x) [it] it (fun i h=>h.IsStrIter it "str_ascii_iterator" x t i) where
 mem:=by simp
 obj:=fun i h st b hb=>by
  have e:b=it:=by simpa using hb
  subst e;obtain⟨o,e,c,d⟩:=st;exact⟨o,e,fun v z=>by rw[d]at z; cases z⟩
 keep:=fun i h h' st k=>let ⟨o,ho,r⟩:=st; ⟨o,k it (by simp) o ho,r⟩
 item:=by
  intro X hP hw hK hc i pins s σ H E I hf st hg;subst hP hw hK;obtain⟨f0,f1,f2,f3,f4,f5⟩:=hf it (by simp);have hg:i < x.cps.size:=hg;refine YbR st (c:=x.cps[i]) (by simp[hg]) fun h' st' sb=>?_;have I1:Inv X pins σ H { s with heap:=h',toks:=s.toks+1 }:=I.turned (fun b o hb e=>(sb.2 b hb).trans e) f0 f1 f3 f4 f5;obtain⟨o,e,c,d⟩:=id st';exact⟨_,rfl,Oq (s:={ s with heap:=h',toks:=s.toks+1 }) e c d (by decide) ⟨.str ⟨#[x.cps[i]]⟩,H,I1,⟨_,rfl⟩,⟨rfl,_,by simp[hg],rfl⟩,st',fun b hb=>(hf b hb).1⟩⟩
 done:=by
  intro X hP hw hK hc i pins s σ H E I hf st hg;subst hP hw hK;obtain⟨f0,f1,f2,f3,f4,f5⟩:=hf it (by simp);have hg:x.cps.size≤i:=hg;exact YbS (I.ok.hd hc) st (by simp[hg]) fun h' eb=>⟨rfl,I.turned (t':=s.toks) (fun b o hb e=>eb b o hb e) f0 f1 f3 f4 f5⟩
 self:=fun _ _ _ _ _ st h=>wpAny_pyIter_striter_ascii st h
theorem ZBZ {P:Bp} {w:Bg} {K:Ao} {tg:Aw} (x:Str) (t:Tok) (it:Ab):Turn P w K tg (Its x) [it] it (fun i h=>h.IsStrIter it "str_iterator" x t i) where
 mem:=by simp
 obj:=fun i h st b hb=>by
  have e:b=it:=by simpa using hb
  subst e;obtain⟨o,e,c,d⟩:=st;exact⟨o,e,fun v z=>by rw[d]at z; cases z⟩
 keep:=fun i h h' st k=>let ⟨o,ho,r⟩:=st; ⟨o,k it (by simp) o ho,r⟩
 item:=by
  intro X hP hw hK hc i pins s σ H E I hf st hg;subst hP hw hK;obtain⟨f0,f1,f2,f3,f4,f5⟩:=hf it (by simp);have hg:i < x.cps.size:=hg;refine wpAny_pyNext_wide_item st (c:=x.cps[i]) (by simp[hg]) fun h' st' sb=>?_;have I1:Inv X pins σ H { s with heap:=h',toks:=s.toks+1 }:=I.turned (fun b o hb e=>(sb.2 b hb).trans e) f0 f1 f3 f4 f5;obtain⟨o,e,c,d⟩:=id st';exact⟨_,rfl,Oq (s:={ s with heap:=h',toks:=s.toks+1 }) e c d (by decide) ⟨.str ⟨#[x.cps[i]]⟩,H,I1,⟨_,rfl⟩,⟨rfl,_,by simp[hg],rfl⟩,st',fun b hb=>(hf b hb).1⟩⟩
 done:=by
  intro X hP hw hK hc i pins s σ H E I hf st hg;subst hP hw hK;obtain⟨f0,f1,f2,f3,f4,f5⟩:=hf it (by simp);have hg:x.cps.size≤i:=hg;exact wpAny_pyNext_wide_end (I.ok.hd hc) st (by simp[hg]) fun h' eb=>⟨rfl,I.turned (t':=s.toks) (fun b o hb e=>eb b o hb e) f0 f1 f3 f4 f5⟩
 self:=fun _ _ _ _ _ st h=>wpAny_pyIter_striter_wide st h
noncomputable def iSeq (K:Ao) (tl:TE):TI:=fun σ H R=>tl σ H fun x H1=>(∃a xs,x=.ref a∧SqL K H1 a xs∧R (Itl K a) H1)∨(∃a xs,x=.ref a∧SqT K H1 a xs∧R (Itt K a) H1)∨(∃z,x=.str z∧R (Its z) H1)
theorem Et {X:Cx} {tg:Aw} {l:Aw} {tl:TE} (hl:PE X l tl):PI X tg l (iSeq X.K tl):=by
 intro pins s σ H R I h;refine thn (hl pins s σ H _ I h) fun v s1 ⟨x,H1,I1,r1,q1⟩=>?_
 have fp:∀b∈[s1.heap.objs.size],FpOk X pins H1 b:=fun b hb=>by
  have e:b=s1.heap.objs.size:=by simpa using hb
  subst e;exact I1.fpOk (Bv _) (I1.hok.fresh (Bv _))
 rcases q1 with⟨a,xs,e,hq,q⟩ | ⟨a,xs,e,hq,q⟩ | ⟨z,e,q⟩
 ·subst e
  cases r1
  obtain⟨its,rv,p,hz⟩:=I1.list hq;refine YbT p.isList ?_;exact⟨s1.heap.objs.size,[s1.heap.objs.size],_,_,H1,rfl,I1.kept (t':=s1.toks) fun b o e=>Ek _ e,ZBX a _,⟨_,FZ _ rfl,rfl,rfl⟩,fp,q⟩
 ·subst e
  cases r1
  obtain⟨its,rv,p,hz⟩:=I1.tuple hq;refine YaI (show s1.heap.IsTuple a its.toArray from p) ?_;exact⟨s1.heap.objs.size,[s1.heap.objs.size],_,_,H1,rfl,I1.kept (t':=s1.toks) fun b o e=>Ek _ e,Zzb a _,⟨_,FZ _ rfl,rfl,rfl⟩,fp,q⟩
 ·subst e
  obtain⟨t,rfl⟩:=r1
  cases ha:z.cps.all (· < 128) with
  | false=>
   refine wpAny_pyIter_wide ha ?_;exact⟨s1.heap.objs.size,[s1.heap.objs.size],_,_,H1,rfl,I1.kept (t':=s1.toks) fun b o e=>Ek _ e,ZBZ z t _,⟨_,FZ _ rfl,rfl,rfl⟩,fp,q⟩
  | true=>
   refine YbU ha ?_;exact⟨s1.heap.objs.size,[s1.heap.objs.size],_,_,H1,rfl,I1.kept (t':=s1.toks) fun b o e=>Ek _ e,ZBY z t _,⟨_,FZ _ rfl,rfl,rfl⟩,fp,q⟩
def ZJL (x:Str) (g:TG) (tb:TS) (D:Ends) (σ:St) (H:Hp):Prop:=
 ∃W:Nat→Nat→St→Hp→Prop,(∃m,W 0 m σ H)∧∀i m σ H,W i m σ H→
   ((Its x).stop i H∧D.nx σ H)∨((Its x).go i H∧∃N:St→Hp→Prop,(∀σ' H',N σ' H'→∃m',m' < m∧W (i+1) m' σ' H')∧∀x' H',(Its x).yld i H x' H'→g x' σ H' fun σ2 H2=>tb { D with nx:=N,ct:=N,bk:=D.nx } σ2 H2)
def SeqW (K:Ao) (x:V) (g:TG) (tb:TS) (D:Ends) (σ:St) (H1:Hp):Prop:=
 (∃a xs,x=.ref a∧SqL K H1 a xs∧ZG4 K a g tb D σ H1)∨(∃a xs,x=.ref a∧SqT K H1 a xs∧ZG5 K a g tb D σ H1)∨(∃z,x=.str z∧ZJL z g tb D σ H1)
section
variable {σ:St} {H:Hp} {D:Ends} {K:Ao} {g:TG} {tb:TS}
theorem ZD7 {tl:TE} (h:tl σ H fun x H1=>SeqW K x g tb D σ H1):tFor (iSeq K tl) g tb D σ H:=h
theorem seqL {a:Ab} {xs:List V} (Pv:Nat→St→Hp→Prop) (h0:Pv 0 σ H) (hl:∀i σ H,i≤xs.length→Pv i σ H→SqL K H a xs) (hs:∀i x σ H,xs[i]?=some x→Pv i σ H→g x σ H fun σ2 H2=>tb { D with nx:=Pv (i+1),ct:=Pv (i+1),bk:=D.nx } σ2 H2) (hd:∀σ H,Pv xs.length σ H→D.nx σ H):SeqW K (.ref a) g tb D σ H:=.inl ⟨a,xs,rfl,hl 0 σ H (De _) h0,ZJX Pv h0 hl hs hd⟩
theorem seqT {a:Ab} {xs:List V} (Pv:Nat→St→Hp→Prop) (h0:Pv 0 σ H) (hl:∀i σ H,i≤xs.length→Pv i σ H→SqT K H a xs) (hs:∀i x σ H,xs[i]?=some x→Pv i σ H→g x σ H fun σ2 H2=>tb { D with nx:=Pv (i+1),ct:=Pv (i+1),bk:=D.nx } σ2 H2) (hd:∀σ H,Pv xs.length σ H→D.nx σ H):SeqW K (.ref a) g tb D σ H:=.inr (.inl ⟨a,xs,rfl,hl 0 σ H (De _) h0,ZJZ Pv h0 hl hs hd⟩)
theorem seqX {x:Str} (Pv:Nat→St→Hp→Prop) (h0:Pv 0 σ H) (hs:∀(i:Nat) (c:Nat) σ H,x.cps[i]?=some c→Pv i σ H→g (.str ⟨#[c]⟩) σ H fun σ2 H2=>tb { D with nx:=Pv (i+1),ct:=Pv (i+1),bk:=D.nx } σ2 H2) (hd:∀σ H,Pv x.cps.size σ H→D.nx σ H):SeqW K (.str x) g tb D σ H:=by
 refine .inr (.inr ⟨x,rfl,fun i m σ H=>m=x.cps.size - i∧i≤x.cps.size∧Pv i σ H,⟨x.cps.size,by simp,De _,h0⟩,?_⟩);rintro i m σ H ⟨rfl,hi,p⟩
 by_cases hlt:i < x.cps.size
 ·refine .inr ⟨hlt,Pv (i+1),fun σ' H' p'=>⟨x.cps.size - (i+1),by omega,rfl,hlt,p'⟩,fun x' H' y=>?_⟩
  obtain⟨e,c,hc,y⟩:=y;subst e y;exact hs i c σ _ hc p
 ·have e:i=x.cps.size:=by omega
  subst e;exact .inl ⟨Bv _,hd σ H p⟩
end
section
variable (P:Bp) (w:Bg) (K:Ao) (mg:Str→Option Ae) (base:Aq)
def FnS (k:Nat) (x:Str) (ps:List Str) (sp:Sp):Prop:=∃f fd,FnOk P w K mg base CX0 k f fd ps sp∧Be K fd ps []∧Fz K (.ref f)=true∧mg x=some (.ref f)
def MeS (k:Nat) (C:Ab) (m:Str) (ps:List Str) (sp:Sp):Prop:=Cls K C∧∃f fd,FnOk P w K mg base CX0 k f fd ps sp∧Be K fd ps []∧Meth K C m f
def MkS (k:Nat) (x:Str) (C:Ab) (ps:List Str) (sp:Sp):Prop:=mg x=some (.ref C)∧∃f fd,Mk K C f∧FnOk P w K mg base CX0 k f fd ps sp∧Be K fd ps []
end
theorem MeS.up {P:Bp} {w:Bg} {K:Ao} {mg:Str→Option Ae} {base:Aq} {j k:Nat} {C:Ab} {m:Str} {ps:List Str} {sp:Sp} (h:MeS P w K mg base j C m ps sp) (hk:j≤k):MeS P w K mg base k C m ps sp:=by
 obtain⟨c,f,fd,F,b,hm⟩:=h;exact⟨c,f,fd,F.mono hk,b,hm⟩
noncomputable abbrev tFn (sp:Sp) (t:TA):TE:=fun σ H Q=>t σ H fun vs H1=>sp vs H1 Q E0
def MkG (C:Ab) (sp:Sp) (vs:List V) (H1:Hp) (Q:VK):Prop:=∀x dx,H1 x=none→H1 dx=none→dx≠x→
 sp (.ref x::vs) (upd (upd H1 dx (.own x)) x (.ins C dx [])) (fun v H2=>v=.non∧Q (.ref x) H2) E0
noncomputable abbrev tMk (C:Ab) (sp:Sp) (t:TA):TE:=fun σ H Q=>t σ H fun vs H1=>MkG C sp vs H1 Q
noncomputable abbrev tDy (D:Ab→Prop) (m:Str) (sp:Sp) (ta:TE) (t:TA):TE:=fun σ H Q=>ta σ H fun x H1=>∃a C dx fs,x=.ref a∧H1 a=some (.ins C dx fs)∧D C∧fs.lookup m=none∧
 t σ H1 fun vs H2=>H2 a=some (.ins C dx fs)∧sp (x::vs) H2 Q E0
noncomputable def spAt (sp:Sp) (C:Ab):Sp:=fun vs H Q E=>sp vs H Q E∧∃a dx fs r,vs=V.ref a::r∧H a=some (.ins C dx fs)
theorem i_fn {sp:Sp} {t:TA} {σ:St} {H:Hp} {Q:VK} (h:t σ H fun vs H1=>sp vs H1 Q E0):tFn sp t σ H Q:=h
theorem i_mk {C:Ab} {sp:Sp} {t:TA} {σ:St} {H:Hp} {Q:VK} (h:t σ H fun vs H1=>MkG C sp vs H1 Q):tMk C sp t σ H Q:=h
theorem i_dy {D:Ab→Prop} {m:Str} {sp:Sp} {ta:TE} {t:TA} {σ:St} {H:Hp} {Q:VK} (h:ta σ H fun x H1=>∃a C dx fs,x=.ref a∧H1 a=some (.ins C dx fs)∧D C∧fs.lookup m=none∧
 t σ H1 fun vs H2=>H2 a=some (.ins C dx fs)∧sp (x::vs) H2 Q E0):tDy D m sp ta t σ H Q:=h
theorem Zu2 (sp:Sp) (t:TA):ni sp [] E0 t=tFn sp t:=by
 funext σ H Q
 unfold ni tFn
 have e:(fun(vs:List V) (H1:Hp)=>sp (vs++[]) H1 Q E0)=fun vs H1=>sp vs H1 Q E0:=by
  funext vs H1; rw[Es]
 rw[e]
theorem Zu3 (C:Ab) (sp:Sp) (t:TA):Wx C sp [] E0 t=tMk C sp t:=by
 funext σ H Q
 unfold Wx tMk MkG
 congr 1
 funext vs H1
 rw[Es]
section
variable {X:Cx} {k k':Nat} {x m:Str} {C:Ab} {ps:List Str} {sp:Sp} {e o:Aw} {es:List Aw} {ta:TE} {t:TA} {p pos apos:Pos}
theorem Bj (G:FnS X.prog X.w X.K X.mg X.base k x ps sp) (hr:Room k' X.A) (ha:PA X (e::es) t) (hk:k≤k':=by omega) (hg:Gl X x:=by rfl) (hdb:(x == ("__debug__" : Str))=false:=by decide)
  (he:BX (e::es) X.env=(false,eval e X.env)::BX es X.env:=by rfl) (hpl:(backTo pos (BX es X.env)).any (·.1)=false:=by rfl):PE X (.Call (.Name x p) (e::es) [] pos) (tFn sp t):=by
 obtain⟨f,fd,F,hb,kp,hm⟩:=G;rw[←Zu2];exact nq F (hr.mono hk) hg hm kp hb .nil Uy ha hdb he hpl
theorem IK (G:MkS X.prog X.w X.K X.mg X.base k x C ps sp) (hr:Room k' X.A) (ha:PA X (e::es) t) (hk:k+1≤k':=by omega) (hg:Gl X x:=by rfl) (hdb:(x == ("__debug__" : Str))=false:=by decide)
  (he:BX (e::es) X.env=(false,eval e X.env)::BX es X.env:=by rfl) (hpl:(backTo pos (BX es X.env)).any (·.1)=false:=by rfl):PE X (.Call (.Name x p) (e::es) [] pos) (tMk C sp t):=by
 obtain⟨hm,f,fd,M,F,hb⟩:=G;rw[←Zu3];exact ZGl M F (hr.mono hk) hg hm hb .nil Uy ha hdb he hpl
theorem WP (G:MkS X.prog X.w X.K X.mg X.base k x C ps sp) (hr:Room k' X.A) (hk:k+1≤k':=by omega) (hg:Gl X x:=by rfl) (hdb:(x == ("__debug__" : Str))=false:=by decide):PE X (.Call (.Name x p) [] [] pos) (tMk C sp tNil):=by
 obtain⟨hm,f,fd,M,F,hb⟩:=G;rw[←Zu3];exact ZDg M F (hr.mono hk) hg hm hb .nil Uy hdb
theorem Eb {pl:Sem Bool} {D:Ab→Prop} (hD:∀C,D C→MeS X.prog X.w X.K X.mg X.base k C m ps (spAt sp C)) (hr:Room k' X.A) (ho:PE X o ta) (ha:PA X (e::es) t) (hk:k≤k':=by omega)
  (hst:BX (e::es) X.env=(false,eval e X.env)::BX es X.env:=by rfl) (hpl:(backTo pos (BX es X.env)).any (·.1)=false:=by rfl)
  (ht:eval (.Call (.Attribute o m apos) (e::es) [] pos) X.env=(do
   let ov ←eval o X.env
   standAt apos.atName
   let (f,first) ←holding [ov] (getMethod ov m pl)
   callWith pos f first (backTo pos (BX (e::es) X.env)) (backToKw pos (keywordEach [] X.env))):=by rfl) :
  PE X (.Call (.Attribute o m apos) (e::es) [] pos) (tDy D m sp ta t):=by
 intro pins s σ H Q I h;refine YaJ (pl:=pl) (thn (ho pins s σ H _ I h) fun u s1 h=>?_) ht;obtain⟨x,H1,I1,rx,a,C,dx,fs,ex,ea,hC,l,q⟩:=h;subst ex;obtain rfl:u=Do a:=rx;obtain⟨c,f,fd,F,hb,hm⟩:=hD C hC;refine my I1 ea c hm l ?_;refine dw (first:=[.ref a]) (h₀:=X.base) I.ok.mod.kin hm.kp (thn (ha pos pins s1 σ H1 _ I1 q) fun us s2 ⟨vs,H2,I2,r,eb,q2⟩=>⟨I2.kIn,?_⟩) hst hpl;exact Wy (us:=.ref a::us) (vs:=.ref a::vs) (dvs:=[]) (E:=E0) F (hr.mono hk) hb .nil Uy I2 (.cons rfl r) (by rw[Es]; exact⟨q2,a,dx,fs,vs,rfl,eb⟩)
theorem Ou {pl:Sem Bool} {D:Ab→Prop} (hD:∀C,D C→MeS X.prog X.w X.K X.mg X.base k C m ps (spAt sp C)) (hr:Room k' X.A) (ho:PE X o ta) (hk:k≤k':=by omega)
  (ht:eval (.Call (.Attribute o m apos) [] [] pos) X.env=(do
   let ov ←eval o X.env
   standAt apos.atName
   let (f,first) ←holding [ov] (getMethod ov m pl)
   callWith pos f first (backTo pos (BX [] X.env)) (backToKw pos (keywordEach [] X.env))):=by rfl) :
  PE X (.Call (.Attribute o m apos) [] [] pos) (tDy D m sp ta tNil):=by
 intro pins s σ H Q I h;refine YaJ (pl:=pl) (thn (ho pins s σ H _ I h) fun u s1 h=>?_) ht;obtain⟨x,H1,I1,rx,a,C,dx,fs,ex,ea,hC,l,eb,q⟩:=h;subst ex;obtain rfl:u=Do a:=rx;obtain⟨c,f,fd,F,hb,hm⟩:=hD C hC;refine my I1 ea c hm l ?_;exact Ybx (first:=[.ref a]) I1.kIn hm.kp (Wy (us:=[.ref a]) (vs:=[.ref a]) (dvs:=[]) (E:=E0) F (hr.mono hk) hb .nil Uy I1 (.cons rfl .nil) (by rw[Es]; exact⟨q,a,dx,fs,[],rfl,eb⟩))
theorem ss (i:Nat) {x:Str} {e:Aw} {te:TE} {pos pos':Pos} (hN:X.N.Nodup) (he:PE X e te) (hi:X.N[i]?=some x:=by rfl) (hx:Loc X.env.scope x:=by first | exact gk rfl | exact V8 rfl)
  (hs:swapsWith e (some (.Name x pos')) pos.line X.env=pure false:=by rfl) (hf:X.fn x=true∨X.env.scope.names.lookup x=some .local:=by first | exact .inl rfl | exact .inr rfl):PS X (.Assign [.Name x pos'] e pos) (tAsg te (Ir i)):=
 ZIP hN hi hx he hs hf
theorem sg (i:Nat) {x:Str} {pos:Pos} (hN:X.N.Nodup) (hi:X.N[i]?=some x:=by rfl) (hx:Loc X.env.scope x:=by first | exact gk rfl | exact V8 rfl) (hf:X.fn x=true∨X.env.scope.names.lookup x=some .local:=by first | exact .inl rfl | exact .inr rfl):PG X (.Name x pos) (Ir i):=ZBd hN hi hx hf
noncomputable def rIsi (K:Ao):List V→Hp→VK→Prop:=fun xs H Q=>∃x t b,TyOf K H x t∧((∃n,xs=[x,.ty n]∧Kf K t (.type n)=some b)∨(∃c,xs=[x,.ref c]∧Kf K t (.ref c)=some b))∧Q (.bl b) H
theorem WQ:Gy X (.builtin "isinstance") (rIsi X.K):=by
 intro pins s σ H xs us Q I r h;obtain⟨x,t,b,ty,h,q⟩:=h
 rcases h with⟨n,rfl,e⟩ | ⟨c,rfl,e⟩
 ·obtain⟨u,v,rfl,ru,rv⟩:=Wu r
  obtain rfl:v=Jg n:=rv;exact ZtS I ru ty e fun tk=>⟨.bl b,H,I.tok tk,rfl,q⟩
 ·obtain⟨u,v,rfl,ru,rv⟩:=Wu r
  obtain rfl:v=Do c:=rv;exact ZtS I ru ty e fun tk=>⟨.bl b,H,I.tok tk,rfl,q⟩
theorem ZEb {K:Ao} {x:V} {n:String} {t:Ae} {b:Bool} {H:Hp} {Q:VK} (ty:TyOf K H x t) (e:Kf K t (.type n)=some b) (h:Q (.bl b) H):rIsi K [x,.ty n] H Q:=⟨x,t,b,ty,.inl ⟨n,rfl,e⟩,h⟩
noncomputable def Js:R2:=fun x y H Q=>rI0 (fun i j=>V.int (i+j)) x y H Q∨(∃i j,x=.str i∧y=.str j∧i.length+j.length≤BW∧Q (.str (i++j)) H)∨rCat x y H Q
theorem BJ:OpR X (binaryOp .Add) Js:=OpR.or ZIv (OpR.or ZyX ZIw)
theorem ZDX {i j:Int} {H:Hp} {Q:VK} (h:Q (.int (i+j)) H):Js (.int i) (.int j) H Q:=.inl ⟨i,j,rfl,rfl,h⟩
theorem Ew {i j:Str} {H:Hp} {Q:VK} (z:i.length+j.length≤BW) (h:Q (.str (i++j)) H):Js (.str i) (.str j) H Q:=.inr (.inl ⟨i,j,rfl,rfl,z,h⟩)
theorem ZDY {l b:Ab} {xs zs:List V} {H:Hp} {Q:VK} (h1:H l=some (.lst xs)) (h2:H b=some (.lst zs)) (z:xs.length+zs.length≤BW) (h:∀p,H p=none→Q (.ref p) (upd H p (.lst (xs++zs)))):Js (.ref l) (.ref b) H Q:=.inr (.inr ⟨l,b,xs,zs,rfl,rfl,h1,h2,z,h⟩)
end
section
variable {X:Cx} {K:Ao} {H:Hp} {Q:VK} {a:Aw} {ta:TE} {pos:Pos}
theorem Ec:bootBuiltins "len" = some (.builtin "len"):=by decide +kernel
theorem WR:bootBuiltins "isinstance" = some (.builtin "isinstance"):=by decide +kernel
theorem ZHj:bootBuiltins "max" = some (.builtin "max"):=by decide +kernel
theorem ZHk:bootBuiltins "min" = some (.builtin "min"):=by decide +kernel
theorem ZHi:bootBuiltins "all" = some (.builtin "all"):=by decide +kernel
theorem Lq:bootBuiltins "int" = some (.type "int"):=by decide +kernel
theorem ZFb:bootBuiltins "bool" = some (.type "bool"):=by decide +kernel
theorem ZHl:bootBuiltins "str" = some (.type "str"):=by decide +kernel
theorem Ov:bootBuiltins "list" = some (.type "list"):=by decide +kernel
theorem Lr:bootBuiltins "tuple" = some (.type "tuple"):=by decide +kernel
theorem Ztp:bootBuiltins "enumerate" = some (.type "enumerate"):=by decide +kernel
theorem ZHm:bootBuiltins "zip" = some (.type "zip"):=by decide +kernel
def GC (mg:Str→Option Ae) (x:Str) (v:V):Prop:=∃u,mg x=some u∧RelV v u
theorem Hr {x:Str} {v:V} (hg:Gl X x) (h:GC X.mg x v) (hd:(x == ("__debug__" : Str))=false:=by decide):PE X (.Name x pos) (tC v):=by
 obtain⟨u,e,r⟩:=h;exact ZGk hg e r hd
noncomputable abbrev ZJx (K:Ao) (ta:TE):TE:=fun σ H Q=>ta σ H fun x H1=>∃k,TruV K x H1 k∧Q (.bl (!k)) H1
theorem qt (ha:PE X a ta):PE X (.UnaryOp .Not a pos) (ZJx X.K ta):=by
 intro pins s σ H Q I h;refine UnaryOp_ (thn (ha pins s σ H _ I h) fun v s1 h_=>?_);obtain⟨x,H1,I1,r1,q1⟩:=h_;exact not_of (thn (ZEQ pins s1 σ H1 x v (fun k H2=>Q (.bl (!k)) H2) I1 r1 q1) fun b s2 ⟨H2,I2,q2⟩=>⟨.bl (!b),H2,I2,rfl,q2⟩)
theorem ZEg {σ:St} (h:ta σ H fun x H1=>∃k,TruV K x H1 k∧Q (.bl (!k)) H1):ZJx K ta σ H Q:=h
noncomputable def rLen (K:Ao):List V→Hp→VK→Prop:=fun xs H Q=>∃x n,xs=[x]∧LenV K x H n∧Q (.int n) H
theorem Ed:Gy X (.builtin "len") (rLen X.K):=ZCp
theorem qu {p:Ab} {xs:List V} (h:SqL K H p xs) (k:Q (.int xs.length) H):rLen K [.ref p] H Q:=⟨_,_,rfl,.inl ⟨xs,h,rfl⟩,k⟩
theorem IV {p:Ab} {xs:List V} (h:H p=some (.lst xs)) (k:Q (.int xs.length) H):rLen K [.ref p] H Q:=⟨_,_,rfl,.inl ⟨xs,SqL.of h,rfl⟩,k⟩
theorem qw {p:Ab} {xs:List V} (h:H p=some (.tup xs)) (k:Q (.int xs.length) H):rLen K [.ref p] H Q:=⟨_,_,rfl,.inr ⟨xs,SqT.of h,rfl⟩,k⟩
theorem ZHM {x:Str} (z:x.length≤BW) (k:Q (.int x.length) H):rLen K [.str x] H Q:=⟨_,_,rfl,⟨z,rfl⟩,k⟩
noncomputable def ZIT:List V→Hp→VK→Prop:=fun xs H Q=>∃i j,xs=[.int i,.int j]∧Q (.int (if j > i then j else i)) H
noncomputable def ZIU:List V→Hp→VK→Prop:=fun xs H Q=>∃i j,xs=[.int i,.int j]∧Q (.int (if j < i then j else i)) H
theorem ZzE (hc:X.calm=true):Gy X (.builtin "max") ZIT:=ZzD hc
theorem ZzG (hc:X.calm=true):Gy X (.builtin "min") ZIU:=ZzF hc
theorem qx {i j:Int} (h:Q (.int (max i j)) H):ZIT [.int i,.int j] H Q:=by
 refine⟨i,j,rfl,?_⟩
 have e:(if j > i then j else i)=max i j:=by split <;> omega
 rw[e]; exact h
theorem ZHO {i j:Int} (h:Q (.int (min i j)) H):ZIU [.int i,.int j] H Q:=by
 refine⟨i,j,rfl,?_⟩
 have e:(if j < i then j else i)=min i j:=by split <;> omega
 rw[e]; exact h
noncomputable def ZIS:List V→Hp→VK→Prop:=fun xs H Q=>(∃i,xs=[.int i]∧Q (.int i) H)∨∃k,xs=[.bl k]∧Q (.int (if k then 1 else 0)) H
theorem Ow:Gy X (.type "int") ZIS:=ZzC
theorem ZEa {b:Bool} (h:Q (.int (if b then 1 else 0)) H):ZIS [.bl b] H Q:=.inr ⟨b,rfl,h⟩
noncomputable def ZBn (K:Ao):List V→Hp→VK→Prop:=fun xs H Q=>∃p ys,xs=[.ref p]∧(SqL K H p ys∨SqT K H p ys)∧∀l,H l=none→Q (.ref l) (upd H l (.lst ys))
theorem UJ:Gy X (.type "list") (ZBn X.K):=Ztq
noncomputable def qy (K:Ao):List V→Hp→VK→Prop:=fun xs H Q=>∃p ys,xs=[.ref p]∧((SqL K H p ys∧∀l,H l=none→Q (.ref l) (upd H l (.tup ys)))∨(SqT K H p ys∧Q (.ref p) H))
theorem Ls:Gy X (.type "tuple") (qy X.K):=ZrF
theorem Lw {p:Ab} {ys:List V} (h:H p=some (.lst ys)) (k:∀l,H l=none→Q (.ref l) (upd H l (.tup ys))):qy K [.ref p] H Q:=⟨p,ys,rfl,.inl ⟨SqL.of h,k⟩⟩
theorem qz {p:Ab} {xs:List V} {j:Nat} {v:V} (h:SqL K H p xs) (e:xs[j]?=some v) (k:Q v H):rIx K (.ref p) (.int (j:Int)) H Q:=.inl ⟨p,xs,j,v,rfl,rfl,h,Lj e,k⟩
theorem By {p:Ab} {xs:List V} {j:Nat} {v:V} (h:H p=some (.lst xs)) (e:xs[j]?=some v) (k:Q v H):rIx K (.ref p) (.int (j:Int)) H Q:=.inl ⟨p,xs,j,v,rfl,rfl,SqL.of h,Lj e,k⟩
theorem UL {p:Ab} {xs:List V} {i:Int} {v:V} (h:H p=some (.lst xs)) (e:atI xs i=some v) (k:Q v H):rIx K (.ref p) (.int i) H Q:=.inl ⟨p,xs,i,v,rfl,rfl,SqL.of h,e,k⟩
theorem JZ {p:Ab} {xs:List V} {i:Int} {v:V} (h:H p=some (.tup xs)) (e:atI xs i=some v) (k:Q v H):rIx K (.ref p) (.int i) H Q:=.inr (.inl ⟨p,xs,i,v,rfl,rfl,SqT.of h,e,k⟩)
theorem Ox {x:Str} {i:Int} {c:Nat} (z:x.length≤BW) (e:atI x.cps.toList i=some c) (k:Q (.str ⟨#[c]⟩) H):rIx K (.str x) (.int i) H Q:=.inr (.inr ⟨x,i,c,rfl,rfl,z,e,k⟩)
noncomputable def rSlG (K:Ao):V→Option Int→Option Int→Hp→VK→Prop:=fun x lo hi H Q=>rSlL K x lo hi H Q∨rSlT K x lo hi H Q
theorem ZI8:SlR X (rSlG X.K):=SlR.or ZGG ZJa
theorem ZJV {p:Ab} {xs:List V} {lo hi:Option Int} (h:SqL K H p xs) (k:∀l,H l=none→Q (.ref l) (upd H l (.lst (cutV xs lo hi)))):rSlG K (.ref p) lo hi H Q:=.inl ⟨p,xs,rfl,h,k⟩
noncomputable def q9:R2:=rI CMul fun i j=>V.int (i * j)
theorem GZ:OpR X (binaryOp .Mult) q9:=ZIz
theorem Hj {i j:Int} (c:CMul i j) (h:Q (.int (i * j)) H):q9 (.int i) (.int j) H Q:=⟨i,j,rfl,rfl,c,h⟩
noncomputable def rInG (K:Ao):R2:=fun x y H Q=>(∃i j,x=.str i∧y=.str j∧Q (.bl (!(Hv j i 0 j.length 1).isEmpty)) H)∨rIn K false x y H Q
noncomputable def rm (K:Ao):R2:=fun x y H Q=>(∃i j,x=.str i∧y=.str j∧Q (.bl (!(!(Hv j i 0 j.length 1).isEmpty))) H)∨rIn K true x y H Q
theorem Jt:OpR X (compareOp .In) (rInG X.K):=OpR.or ZAZ ZAY
theorem Oz:OpR X (compareOp .NotIn) (rm X.K):=OpR.or ZuH ZuG
theorem ZCG {l:Ab} {xs:List V} {y:V} (h:H l=some (.lst xs)) (z:xs.length < BW) (k:Q .non (upd H l (.lst (xs++[y])))):WF (.ref l) [y] H Q:=⟨l,xs,y,rfl,rfl,h,z,k⟩
theorem ZJU {l:Ab} {xs:List V} {y:V} (h:H l=some (.lst (xs++[y]))) (k:Q y (upd H l (.lst xs))):rPop (.ref l) [] H Q:=⟨l,xs++[y],y,rfl,rfl,h,by simp,by rw[YbV]; exact k⟩
theorem tyL {l:Ab} {xs:List V} (h:H l=some (.lst xs)):tyV K "list" (.ref l) H:=.inl ⟨rfl,xs,SqL.of h⟩
end
theorem Ca {n:Nat} (h:n≤1000000):n≤BW:=Ex h (by decide)
theorem su {n:Nat} (h:n < 1000000):n < BW:=Ez h (by decide)
theorem Ef {l:List Ab} (h:l.Nodup) {i j:Nat} {a b:Ab} (ha:l[i]?=some a) (hb:l[j]?=some b) (hij:i≠j):a≠b:=by
 intro e;subst e;obtain⟨h1,e1⟩:=Ej.mp ha;obtain⟨h2,e2⟩:=Ej.mp hb;exact hij ((Ybl h).mp (e1.trans e2.symm))
theorem Zxi (K:Ao) (n:String):Kf K (.type n) (.type n)=some true:=by
 unfold Kf;rw[if_pos (by simp)]
theorem HJ {H:Hp} {p:Ab} (h:H p=none) (o:HO):Same H (upd H p o):=fun b u q=>by rw[Cd (Bw q h)]; exact q
theorem Lx {H:Hp} {p q:Ab} (hp:H p=none) (hq:H q=none) (o u:HO):Same H (upd (upd H q u) p o):=fun b v e=>by rw[Cd (Bw e hp),Cd (Bw e hq)]; exact e
theorem ZCR {K:Ao} {t c:String} {b:Bool} (h1:t≠c) (h2:PySem.W.kitMeta c=true) (h3:(PySem.fastBuiltinMro t).map (·.contains (Jg c))=some b):Kf K (.type t) (.type c)=some b:=by
 unfold Kf;rw[if_neg (by simp[h1])];unfold PySem.W.kitCls
 dsimp only
 rw[if_pos h2];exact h3
theorem ZnC (K:Ao):Kf K (.type "int") (.type "bool")=some false:=ZCR (by decide) (by decide +kernel) (by decide +kernel)
noncomputable def WT (C:Ab) (f:Str):Sp:=fun vs H Q _=>∃p dx v,vs=[.ref p,v]∧H p=some (.ins C dx [])∧Q .non (upd H p (.ins C dx [(f,v)]))
theorem WW {C:Ab} {f:Str} {v:V} {H:Hp} {Q:VK} (h:∀(x dx:Ab) (H':Hp),Same H H'→H x=none→H' x=some (.ins C dx [(f,v)])→Q (.ref x) H') :
  MkG C (WT C f) [v] H Q:=by
 intro x dx hx hdx ne;refine⟨x,dx,v,rfl,Cm,rfl,?_⟩;rw[j8];exact h x dx _ (Lx hx hdx _ _) hx Cm
theorem lk1 (f:Str) (v:V):Ke f [(f,v)]=some v:=by
 have h:=DN f f v [];rw[if_pos rfl]at h;exact h
theorem lk0 {f g:Str} (v:V) (h : ¬g=f):Ke g [(f,v)]=none:=by
 have e:=DN f g v [];rw[if_neg h]at e;exact e
structure Bt (mg:Str→Option Ae):Prop where
 len:mg "len" = none
 range:mg "range" = none
 isinstance:mg "isinstance" = none
 int:mg "int" = none
 bool:mg "bool" = none
 str:mg "str" = none
 list:mg "list" = none
 tuple:mg "tuple" = none
 dict:mg "dict" = none
 set:mg "set" = none
 sorted:mg "sorted" = none
 max:mg "max" = none
 min:mg "min" = none
 sum:mg "sum" = none
 any:mg "any" = none
 all:mg "all" = none
 abs:mg "abs" = none
 reversed:mg "reversed" = none
 enumerate:mg "enumerate" = none
 zip:mg "zip" = none
def Ext (H H':Hp):Prop:=∀b o,H b=some o→(∀xs,o≠.lst xs)→H' b=some o
theorem Ext.of {H H':Hp} (a:Same H H'):Ext H H':=fun b o h _=>a b o h
theorem ZHo {xs:List V} {k:Nat} (h:k≤xs.length):cutV xs none (some (k:Int))=xs.take k:=by
 unfold cutV;rw[HT.sIx_none,HT.sIx_nat,ie h];simp
theorem OD {xs:List V} {k:Nat} (h:k≤xs.length):cutV xs (some (k:Int)) none=xs.drop k:=by
 unfold cutV;rw[HT.sIx_none,HT.sIx_nat,ie h];rw[Ub (by rw[JN]; omega)]
theorem ZFd (xs:List V) (i j:Nat):cutV xs (some (i:Int)) (some (j:Int))=(xs.drop i).take (j - i):=by
 unfold cutV;rw[HT.sIx_nat,HT.sIx_nat]
 by_cases hi:i≤xs.length
 ·rw[ie hi]
  by_cases hj:j≤xs.length
  ·rw[ie hj]
  ·rw[YbW (by omega),Ub (by rw[JN]; omega),Ub (by rw[JN]; omega)]
 ·rw[YbW (show xs.length≤i by omega),YbX (Bv _),YbX (show xs.length≤i by omega)]
  simp
section
variable {K:Ao} {H:Hp} {Q:VK}
theorem BR {xs:List V} (z:xs.length≤1000000) (h:∀(p:Ab) (H':Hp),Same H H'→H p=none→H' p=some (.lst xs)→Q (.ref p) H'):NewL xs H Q:=
 ⟨Ca z,fun p hp=>h p _ (HJ hp _) hp Cm⟩
theorem Ey {xs:List V} (z:xs.length≤1000000) (h:∀(p:Ab) (H':Hp),Same H H'→H p=none→H' p=some (.tup xs)→Q (.ref p) H'):NewT xs H Q:=
 ⟨Ca z,fun p hp=>h p _ (HJ hp _) hp Cm⟩
theorem j_sl {p:Ab} {xs ys:List V} {lo hi:Option Int} (h:SqL K H p xs) (e:cutV xs lo hi=ys) (k:∀(l:Ab) (H':Hp),Same H H'→H l=none→H' l=some (.lst ys)→Q (.ref l) H'):rSlG K (.ref p) lo hi H Q:=
 ZJV h fun l hl=>by rw[e]; exact k l _ (HJ hl _) hl Cm
theorem sy {l b:Ab} {xs zs:List V} (h1:H l=some (.lst xs)) (h2:H b=some (.lst zs)) (z:xs.length+zs.length≤1000000) (h:∀(p:Ab) (H':Hp),Same H H'→H p=none→H' p=some (.lst (xs++zs))→Q (.ref p) H'):Js (.ref l) (.ref b) H Q:=
 ZDY h1 h2 (Ca z) fun p hp=>h p _ (HJ hp _) hp Cm
theorem UT {p:Ab} {ys:List V} (h:SqL K H p ys∨SqT K H p ys) (k:∀(l:Ab) (H':Hp),Same H H'→H l=none→H' l=some (.lst ys)→Q (.ref l) H'):ZBn K [.ref p] H Q:=
 ⟨p,ys,rfl,h,fun l hl=>k l _ (HJ hl _) hl Cm⟩
def But (l:Ab) (H H':Hp):Prop:=∀b o,b≠l→H b=some o→H' b=some o
theorem But.ext {l:Ab} {H H':Hp} {xs:List V} (h:H l=some (.lst xs)) (s:But l H H'):Ext H H':=fun b o e n=>s b o (Ci e h (n xs)) e
theorem But.same {l:Ab} {H0 H H':Hp} (s:But l H H') (h0:H0 l=none) (s0:Same H0 H):Same H0 H':=fun b o e=>s b o (Bw e h0) (s0 b o e)
theorem Ly {l:Ab} {H:Hp} {o:HO}:But l H (upd H l o):=fun b u n e=>by rw[Cd n]; exact e
theorem Eu {l:Ab} {xs:List V} {y:V} (h:H l=some (.lst xs)) (z:xs.length < 1000000) (k:∀H':Hp,But l H H'→H' l=some (.lst (xs++[y]))→Q .non H'):WF (.ref l) [y] H Q:=ZCG h (su z) (k _ Ly Cm)
theorem UV {l:Ab} {xs:List V} {y:V} (h:H l=some (.lst (xs++[y]))) (k:∀H':Hp,But l H H'→H' l=some (.lst xs)→Q y H'):rPop (.ref l) [] H Q:=ZJU h (k _ Ly Cm)
end
theorem ZD9 {to ti:TE} {t:TSet} {v:V} {σ:St} {H:Hp} {R:St→Hp→Prop} (h:to σ H fun o H1=>ti σ H1 fun i H2=>t o i v H2 fun H3=>R σ H3):gSub to ti t v σ H R:=h
theorem ZFC {n j:Nat} (h:j < n):ixN n (j:Int)=some j:=by
 unfold ixN;rw[if_pos (by omega),if_pos (by omega)]; simp
theorem t7 {H:Hp} {p:Ab} {xs:List V} {j:Nat} {v:V} {R:Hp→Prop} (h:H p=some (.lst xs)) (hj:j < xs.length) (k:∀H':Hp,But p H H'→H' p=some (.lst (xs.set j v))→R H'):ZIW (.ref p) (.int (j:Int)) v H R:=
 ⟨p,xs,j,j,rfl,rfl,h,ZFC hj,k _ Ly Cm⟩
end L2
namespace L2
open PySem PySem.Spec PyProof.Rows
noncomputable def Gi (X:Cx) (x:Str) (ns:List Str) (scope:Gn) (cl:List (Str×Ab)) (s:Ak) (H:Hp) (ex:List Ab):Cx where
 prog:=X.prog
 w:=X.w
 K:=X.K
 mg:=X.mg
 base:=X.base
 A:=X.A
 N:=x::ns
 s₀:=s
 H₀:=H
 env:=compEnvC scope cl s.heap.objs.size X.env
 outer:=X.stack
 stack:=X.stack
 ex:=ex
 fn:=fun _=>false
 calm:=X.calm
 pn:=[]
 xe:=fun _ _=>False
noncomputable def subS (σ:St) (ix:List Nat):St:=ix.map fun k=>(σ[k]?).join
def OJ (sc:Gn) (N:List Str) (x:Str) (ns:List Str) (ix:List Nat) (scope:Gn):Prop:=
 scope.kind=.function∧(∀y∈scope.names,y.2≠.cell∧(y.2=.local→scope.names.lookup y.1=some .local)∧(y.2=.free→sc.names.lookup y.1=some .cell∨sc.names.lookup y.1=some .free))∧
 scope.names.lookup x=some .local∧(∀y∈ns,scope.names.lookup y=some .free)∧(ix.map fun k=>N[k]?)=ns.map some∧(x::ns).Nodup
noncomputable instance (sc:Gn) (N:List Str) (x:Str) (ns:List Str) (ix:List Nat) (scope:Gn):Decidable (OJ sc N x ns ix scope):=by unfold OJ; infer_instance
def Ky (J:It) (ix:List Nat) (tc:TT) (te:TE) (σ:St) (Q:VK) (H1:Hp):Prop:=∀acc,H1 acc=none→∃W:Nat→Nat→List V→Hp→Prop,(∃m,W 0 m [] (upd H1 acc (.lst [])))∧
 ∀i m ys H,W i m ys H→(J.stop i H∧Q (.ref acc) H)∨(J.go i H∧∀x H',J.yld i H x H'→tc (some x::subS σ ix) H' fun b H2=>
  if b=true then te (some x::subS σ ix) H2 fun y H3=>H3 acc=some (.lst ys)∧ys.length < BW∧∃m',m' < m∧W (i+1) m' (ys++[y]) (upd H3 acc (.lst (ys++[y]))) else ∃m',m' < m∧W (i+1) m' ys H2)
noncomputable def WX (wi:TI) (ix:List Nat) (tc:TT) (te:TE):TE:=fun σ H Q=>wi σ H fun J H1=>Ky J ix tc te σ Q H1
theorem UW {α β:Type} [BEq α] [LawfulBEq α]:∀{l:List (α×β)} {a:α} {b:β},l.lookup a=some b→(a,b)∈l
 | [],_,_,h=>by simp at h
 | (k,v)::r,a,b,h=>by
  rw[Ko]at h
  cases e:a == k with
  | true=>
   rw[e]at h
   have:a=k:=by simpa using e
   subst this
   cases h
   exact Dg
  | false=>
   rw[e]at h;exact CW _ (UW h)
theorem uc {env:Env}:∀(names:List (Str×T3)) (acc:List (Str×Ab)),(∀y∈names,y.2=.free→∃c,env.cells.lookup y.1=some c)→(∀y c,acc.lookup y=some c→env.cells.lookup y=some c)→
  ∃cl,(forIn names acc fun x r=>match x with | (name,kind)=>if (kind == JQ)=true then(do let a ←cellOf env name; pure (Uc ((name,a)::r))) else pure (Uc r):Sem (List (Str×Ab)))=pure cl∧
   (∀y c,cl.lookup y=some c→env.cells.lookup y=some c)∧(∀y,(∃c,acc.lookup y=some c)→∃c,cl.lookup y=some c)∧∀y∈names,y.2=.free→∃c,cl.lookup y.1=some c
 | [],acc,_,ha=>⟨acc,rfl,ha,fun _ h=>h,fun _ h=>nomatch h⟩
 | (name,kind)::r,acc,hn,ha=>by
  cases hk:kind == JQ with
  | false=>
   obtain⟨cl,e,h1,h2,h3⟩:=uc r acc (fun y hy=>hn y (CW _ hy)) ha;refine⟨cl,?_,h1,h2,fun y hy hf=>?_⟩
   ·rw[YaK]
    simp only [hk,ig,if_false];exact e
   ·rcases Bu.mp hy with rfl | hy
    ·have:kind=.free:=hf
     subst this;simp at hk
    ·exact h3 y hy hf
  | true=>
   have hkf:kind=.free:=by simpa using hk
   obtain⟨c,hc⟩:=hn (name,kind) Dg hkf;have hc:env.cells.lookup name=some c:=hc
   obtain⟨cl,e,h1,h2,h3⟩:=uc r ((name,c)::acc) (fun y hy=>hn y (CW _ hy)) (fun y c' hy=>by
    rw[Ko]at hy
    cases e:y == name with
    | true=>
     rw[e]at hy
     have:y=name:=by simpa using e
     subst this
     cases hy
     exact hc
    | false=>
     rw[e]at hy
     exact ha y c' hy)
   refine⟨cl,?_,h1,fun y hy=>h2 y ?_,fun y hy hf=>?_⟩
   ·rw[YaK]
    simp only [hk,if_true]
    have:cellOf env name=pure c:=by unfold cellOf; rw[hc]
    rw[this];exact e
   ·obtain⟨c',hc'⟩:=hy
    rw[Ko]
    cases y == name
    ·exact⟨c',hc'⟩
    ·exact⟨c,rfl⟩
   ·rcases Bu.mp hy with rfl | hy
    ·exact h2 _ ⟨c,by rw[Ko]; simp⟩
    ·exact h3 y hy hf
theorem Zq2 {env:Env} (scope:Gn) (h:∀y∈scope.names,y.2=.free→∃c,env.cells.lookup y.1=some c) :
  ∃cl,closureFor scope env=pure cl∧(∀y c,cl.lookup y=some c→env.cells.lookup y=some c)∧∀y∈scope.names,y.2=.free→∃c,cl.lookup y.1=some c:=by
 obtain⟨cl,e,h1,_,h3⟩:=uc (env:=env) scope.names [] h (fun _ _ z=>by simp at z);refine⟨cl,?_,h1,h3⟩;show((forIn scope.names [] fun x r=>match x with | (name,kind)=>if (kind == JQ)=true then(do let a ←cellOf env name; pure (Uc ((name,a)::r))) else pure (Uc r):Sem (List (Str×Ab))) >>= fun s=>pure s)=pure cl;rw[e];rfl
theorem ZnT {env:Env}:∀(names:List (Str×T3)) (y:Str),(names.map fun(n,k)=>if (k == JQ && env.scope.kind == .function && env.kindOf n == some .cell) then(n,YaL) else(n,k)).lookup y =
  (names.lookup y).map fun k=>if (k == JQ && env.scope.kind == .function && env.kindOf y == some .cell)=true then YaL else k
 | [],y=>by simp
 | (n,k)::r,y=>by
  have ih:=ZnT (env:=env) r y;rw[Dq,Ko]
  cases e:y == n with
  | true=>
   have ey:y=n:=by simpa using e
   subst ey
   by_cases hc:(k == JQ && env.scope.kind == .function && env.kindOf y == some .cell)=true
   ·simp only [hc,if_true,Ko,beq_self_eq_true,Wa]
   ·simp only [hc,if_false,Ko,beq_self_eq_true,Wa,ig]
  | false=>
   by_cases hc:(k == JQ && env.scope.kind == .function && env.kindOf n == some .cell)=true
   ·simp only [hc,if_true,Ko,e]; exact ih
   ·simp only [hc,if_false,Ko,e,ig]; exact ih
section
variable {X:Cx} {pins:List (Ab×Obj)} {σ:St} {H:Hp} {s:Ak} {cl:List (Str×Ab)} {x:Str} {ns:List Str} {ix:List Nat} {sc scope:Gn} {N:List Str} {fp:List Ab}
theorem ZFi (I:Inv X pins σ H s) (f:∀b∈fp,FpOk X pins H b) (hlt:∀b∈fp,b < s.heap.objs.size) (hcl:∀y c,cl.lookup y=some c→X.env.cells.lookup y=some c) {H':Hp} (hn:∀b∈fp,H' b=none):∀b∈fp,FpOk (Gi X x ns scope cl s H fp) [] H' b:=fun b hb=>by
 obtain⟨f0,f1,f2,f3,f4,f5⟩:=f b hb;refine⟨hn b hb,DQ (hlt b hb),fun z=>?_,.inl hb,fun y c e=>f4 y c (hcl y c e),fun p hp=>?_⟩
 ·rcases Bu.mp (I.stkSub b z) with z | z
  ·exact f1 z
  ·exact f2 z
 ·exact absurd (show p∈([]:List (Ab×Obj)) from hp) (by simp)
theorem ZCK {h1:Aq} {m:Str→Option Ae} {t':Nat} (I:Inv X pins σ H s) (hsc:X.env.scope=sc) (hN:X.N=N) (C:OJ sc N x ns ix scope) (hcl:∀y c,cl.lookup y=some c→X.env.cells.lookup y=some c)
  (hcla:∀y∈scope.names,y.2=.free→∃c,cl.lookup y.1=some c) (f:∀b∈fp,FpOk X pins H b) (hlt:∀b∈fp,b < s.heap.objs.size) (hn:h1.Ns s.heap.objs.size m) (hk:∀b o,s.heap.get? b=some o→h1.get? b=some o) :
  Inv (Gi X x ns scope cl s H fp) [] (none::subS σ ix) H { s with heap:=h1,toks:=t' }:=by
 obtain⟨c1,c2,c3,c4,c5,c6⟩:=C;have kind:∀y,(relabel scope X.env).names.lookup y=(scope.names.lookup y).map fun k=>if (k == JQ && X.env.scope.kind == .function && X.env.kindOf y == some .cell)=true then YaL else k:=fun y=>ZnT scope.names y
 have fr:∀y,((relabel scope X.env).names.lookup y=some .cell∨(relabel scope X.env).names.lookup y=some .free)→scope.names.lookup y=some .free:=fun y h=>by
  rw[kind y]at h
  cases e:scope.names.lookup y with
  | none=>rw[e]at h; simp at h
  | some k=>
   rw[e]at h;have hm:=UW e
   cases k with
   | free=>rfl
   | cell=>exact absurd rfl (c2 _ hm).1
   | «local»=>simp at h
   | globalExplicit=>simp at h
   | globalImplicit=>simp at h
 have fr':∀y,scope.names.lookup y=some .free→(relabel scope X.env).names.lookup y=some .cell∨(relabel scope X.env).names.lookup y=some .free:=fun y h=>by
  rw[kind y,h]
  by_cases hc:(JQ == JQ && X.env.scope.kind == .function && X.env.kindOf y == some .cell)=true
  ·left; rw[Wa,if_pos hc]
  ·right; rw[Wa,if_neg hc]
 have noC:∀p:Ab×Obj,p∉(Gi X x ns scope cl s H fp).pn++[]:=fun p hp=>absurd (show p∈([]:List (Ab×Obj)) from hp) (by simp)
 have lenE:ix.length=ns.length:=by
  have:=congrArg K7 c5
  rwa [Ax,Ax]at this
 refine⟨⟨I.ok.mod,c1,I.ok.glob,I.ok.blt,Bv _,fun y z c h1 h2=>I.ok.inj y z c (hcl y c h1) (hcl z c h2),fun y hy=>?_,fun y c hy=>absurd hy (by simp[Gi]),I.ok.hd,I.ok.frames,.inl rfl,fun b hb=>?_,I.bs,
  Ex I.ok.bsz I.sz,fun b o e hb=>?_,fun b hb=>?_,I.stack,I.stkFree⟩,rfl,I.bare,Un.kept hk,⟨m,hn,fun i y v e1 e2 e3=>?_⟩,fun y c e=>?_,I.hok.fresh (Bv _),fun y c e=>I.freeC y c (hcl y c e),fun p hp=>absurd hp (noC p),I.hok.kept hk,?_⟩
 ·exact hcla _ (UW (fr y hy)) rfl
 ·obtain⟨f0,f1,f2,f3,f4,f5⟩:=f b hb
  exact⟨DQ (hlt b hb),fun y c e=>f4 y c (hcl y c e)⟩
 ·obtain⟨f0,f1,f2,f3,f4,f5⟩:=f b hb
  rcases f3 with z | z
  ·exact I.ok.noex b o e z
  ·exact absurd (Ez (CQ (I.ok.bs b o e).1) z) (N7 _)
 ·obtain⟨f0,f1,f2,f3,f4,f5⟩:=f b hb
  intro z
  rcases Bu.mp (I.stkSub b z) with z | z
  ·exact f1 z
  ·exact f2 z
 ·cases i with
  | zero=>cases e2
  | succ j=>
   have e1':ns[j]?=some y:=e1;have e2':(ix.map fun k=>(σ[k]?).join)[j]?=some (some v):=e2;have e5:=congrArg (fun l=>l[j]?) c5;simp only [El,e1',Wa]at e5 e2'
   cases ek:ix[j]? with
   | none=>rw[ek]at e5; cases e5
   | some k=>
    rw[ek]at e5 e2'
    have eN:N[k]?=some y:=by simpa using e5
    have eσ:(σ[k]?).join=some v:=by simpa using e2'
    have eσ':σ[k]?=some (some v):=by
     cases q:σ[k]? with
     | none=>rw[q]at eσ; cases eσ
     | some w=>rw[q]at eσ; have:w=some v:=eσ; rw[this]
    have hy:=c4 y (Dm e1');have hk':=(c2 _ (UW hy)).2.2 rfl;rw[←hsc]at hk';obtain⟨m0,hn0,hl⟩:=I.loc;obtain⟨u,r,l⟩:=hl k y v (by rw[hN]; exact eN) eσ' (.inr hk');refine⟨u,r,?_⟩
    rcases l with⟨kl,_⟩ | ⟨_,c,ec,z⟩
    ·exfalso
     have kl:X.env.scope.names.lookup y=some .local:=kl;rw[kl]at hk'
     rcases hk' with z | z <;> cases z
    ·obtain⟨c',ec'⟩:=hcla _ (UW hy) rfl
     have ee:c'=c:=by
      have:=hcl y c' ec';rw[ec]at this;exact(Dl this).symm
     subst ee;obtain⟨o,ho,hd⟩:=z;exact .inr ⟨fr' y hy,c',ec',⟨o,hk _ _ ho,hd⟩⟩
 ·obtain⟨v,o,ho,hd⟩:=I.cell y c (hcl y c e)
  exact⟨v,o,hk _ _ ho,hd⟩
 ·show(none::subS σ ix).length=(x::ns).length
  rw[CT,CT];unfold subS;rw[Ax,lenE]
end
theorem Zzd {α β:Type} {M:Oa} {A:Cu} {a:α} {P:α→Ak→Prop} {E E':Ae→Ak→Prop} {s s':Ak} {t:Sem β} {Q:β→Ak→Prop} (h:Bb M A (pure a) P E s) (k:P a s→Bb M A t Q E' s'):Bb M A t Q E' s':=
 fun Γ p hi=>k (h Γ p hi) Γ p hi
def PTs (X:Cx) (ifs:List Aw) (t:TT):Prop:=
 ∀(pins:List (Ab×Obj)) (s:Ak) (σ:St) (H:Hp) (Q:Bool→Hp→Prop),Inv X pins σ H s→t σ H Q→
  Bb (model X.prog X.w) X.A (forIn ifs true fun c r=>if r=true then do let ok ←isTrue c X.env (eval c X.env); pure (Uc ok) else pure (Uc r)) (TP X pins σ Q) X.xe s
noncomputable abbrev ZJw:TT:=fun _ H Q=>Q true H
theorem WY {X:Cx}:PTs X [] ZJw:=fun _ _ _ H _ I h=>wpAny_tests_nil ⟨H,I,h⟩
section
variable {X:Cx} {pins:List (Ab×Obj)} {σ:St} {H:Hp} {s:Ak} {cl:List (Str×Ab)} {x:Str} {ns:List Str} {ix:List Nat} {sc scope:Gn} {N:List Str} {fp:List Ab} {elt iter:Aw} {px pos:Pos} {ifs:List Aw} {tc:TT} {te:TE} {wi:TI}
theorem Zw4 {E:Ae→Ak→Prop} {J:It} {it:Ab} {tn:Nat→Aq→Prop} {Q:VK} {RR:Ae→Ab→Result→Ak→Prop} (hsc:X.env.scope=sc) (hN:X.N=N) (C:OJ sc N x ns ix scope) (hc:X.calm=true)
  (ht:∀cl s H ex,PTs (Gi X x ns scope cl s H ex) ifs tc) (he:∀cl s H ex,PE (Gi X x ns scope cl s H ex) elt te) (I:Inv X pins σ H s) (hcl:∀y c,cl.lookup y=some c→X.env.cells.lookup y=some c)
  (hcla:∀y∈scope.names,y.2=.free→∃c,cl.lookup y.1=some c) (T:Turn X.prog X.w X.K (.Name x px) J fp it tn) (st:tn 0 s.heap) (f:∀b∈fp,FpOk X pins H b) (h:Ky J ix tc te σ Q H)
  (fin:∀D C m s' H',Inv X pins σ H' s'→s'.heap.Ns C m→FpOk X pins H' C→Q (.ref D) H'→RR (.ref D) C (.ok .next) s') :
  Bb (model X.prog X.w) X.A (newList []) (fun ja s3=>Bb (model X.prog X.w) X.A (newFunctionEnv scope X.env.globals cl [] X.env.qual none .none (some X.env)) (fun ce s4=>
   codeAny (model X.prog X.w) X.A (.compStart (.ListComp elt [⟨.Name x px,iter,ifs,0⟩] scope pos) 0 (.ref it) ja { ce with scope:=relabel scope X.env }) (RR ja ce.locals) s4) E s3) E s:=by
 have hC:=C;obtain⟨c1,c2,c3,c4,c5,c6⟩:=C;have hfr:H s.heap.objs.size=none:=I.hok.fresh (Bv _);obtain⟨W,⟨m0,w0⟩,turn⟩:=h _ hfr;refine K8 (wpAny_newFunctionEnv (fun y hy=>(c2 y hy).1) (by intro y hy; simp at hy) (fun h1 hn1 hs1=>?_) c1);have I3:=I.lnew (its:=[]) (ys:=[]) (t':=s.toks) .nil (De _)
 have hlt0:∀b∈fp,b < s.heap.objs.size:=fun b hb=>by
  obtain⟨o,ho,_⟩:=T.obj _ _ st b hb;exact CQ ho
 generalize hs3:({ s with heap:=s.heap.push { cls:=.type "list",data:=.seq ([]:List Ae).toArray },toks:=s.toks }:Ak)=s3 at I3
 have e3:s3.heap=s.heap.push { cls:=.type "list",data:=.seq ([]:List Ae).toArray }:=by rw[←hs3]
 have sz3:s3.heap.objs.size=s.heap.objs.size+1:=by rw[e3,VN]
 have f3:∀b∈fp,FpOk X pins (upd H s.heap.objs.size (.lst [])) b:=fun b hb=>⟨by rw[Cd (DQ (hlt0 b hb))]; exact(f b hb).1,(f b hb).2⟩
 have hlt:∀b∈fp,b < s3.heap.objs.size:=fun b hb=>by rw[sz3]; exact gq (hlt0 b hb)
 have hk:∀b o,s3.heap.get? b=some o→h1.get? b=some o:=fun b o e=>by
  refine(hs1.2 b ?_).trans (Ek _ ?_)
  ·have:=CQ e
   rw[sz3]at this;show b≠(s.heap.push _).objs.size;rw[VN];exact DQ this
  ·rw[e3]at e; exact e
 have hn3:h1.Ns s3.heap.objs.size (fun y=>([]:List (Str×Ae)).reverse.lookup y):=by rw[e3]; exact hn1
 have I4:=ZCK (t':=s3.toks+([]:List (Str×Ae)).length) I3 hsc hN hC hcl hcla f3 hlt hn3 hk;have st4:tn 0 h1:=T.keep _ _ _ st fun b hb o e=>hk b o (by rw[e3]; exact Ek _ e);have stat:∀{H':Hp},(∀b∈fp,H' b=none)→∀b∈fp,FpOk (Gi X x ns scope cl s3 (upd H s.heap.objs.size (.lst [])) fp) [] H' b:=fun {H'} hn=>ZFi I3 f3 hlt hcl hn
 have loop:∀s4:Ak,s4 = { s3 with heap:=h1,toks:=s3.toks+([]:List (Str×Ae)).length }→
   codeAny (model X.prog X.w) X.A (.compLoop (.ListComp elt [⟨.Name x px,iter,ifs,0⟩] scope pos) 0 (.ref it) (.ref s.heap.objs.size) (compEnvC scope cl s3.heap.objs.size X.env)) (RR (.ref s.heap.objs.size) s3.heap.objs.size) s4:=by
  rintro s4 rfl;refine codeAny_compLoop_tests (fun n s'=>∃i v0 ys H',Inv (Gi X x ns scope cl s3 (upd H s.heap.objs.size (.lst [])) fp) [] (v0::subS σ ix) H' s'∧tn i s'.heap∧(∀b∈fp,H' b=none)∧W i n ys H') ?_ m0 ⟨0,none,[],_,I4,st4,fun b hb=>(f3 b hb).1,w0⟩;rintro n s5 ⟨i,v0,ys,H5,I5,st5,fr5,w5⟩
  rcases turn i n ys H5 w5 with⟨stop,q⟩ | ⟨go,step⟩
  ·refine Fv (T.done (Gi X x ns scope cl s3 (upd H s.heap.objs.size (.lst [])) fp) rfl rfl rfl hc i [] s5 _ H5 _ I5 (stat fr5) st5 stop) (fun r s6 hr=>?_) fun _ _ e=>e
   obtain⟨hr,I6⟩:=hr;subst hr;obtain⟨m6,hn6,_⟩:=id I6.loc;refine fin _ _ m6 s6 H5 (I3.call' I6.os I6.base I6.hok I6.bare fun b hb=>?_) hn6 (I3.fpOk (Bv _) I6.free) q;obtain⟨g0,g1,g2,g3,g4,g5⟩:=f3 b hb;exact⟨g3,g1,g4,g5⟩
  ·refine Fv (T.item (Gi X x ns scope cl s3 (upd H s.heap.objs.size (.lst [])) fp) rfl rfl rfl hc i [] s5 _ H5 _ I5 (stat fr5) st5 go) (fun r s6 hr=>?_) fun _ _ e=>e
   obtain⟨u,hr,h6⟩:=hr;subst hr;refine Zzd (a:=()) h6 fun q6=>?_;obtain⟨xv,H6,I6,r6,y6,st6,fr6⟩:=q6;have I6':=I6.pinned (stat fr6) (T.obj _ _ st6)
   have again:∀{m':Nat} {ys':List V} {H7:Hp} {s7:Ak},Inv (Gi X x ns scope cl s3 (upd H s.heap.objs.size (.lst [])) fp) ([]++Uo fp s6.heap) (some xv::subS σ ix) H7 s7→W (i+1) m' ys' H7→
     ∃i v0 ys H',Inv (Gi X x ns scope cl s3 (upd H s.heap.objs.size (.lst [])) fp) [] (v0::subS σ ix) H' s7∧tn i s7.heap∧(∀b∈fp,H' b=none)∧W i m' ys H':=fun {m' ys' H7 s7} I7 w7=>by
    refine⟨i+1,some xv,ys',H7,I7.unpinned,T.keep _ _ _ st6 fun b hb o e=>(I7.pin (b,o) (Hu _ (Hu _ (Up hb e)))).1,fun b hb=>?_,w7⟩;obtain⟨o,e,d⟩:=T.obj _ _ st6 b hb;exact(I7.pin (b,o) (Hu _ (Hu _ (Up hb e)))).2.1
   have lx:(relabel scope X.env).names.lookup x=some .local:=lookup_relabel_local c3;refine Fv (ZBd (X:=Gi X x ns scope cl s3 (upd H s.heap.objs.size (.lst [])) fp) (i:=0) (x:=x) (pos:=px) c6 rfl (.inl lx) (.inr lx) _ s6 _ H6 xv u (fun σ' H'=>σ'=some xv::subS σ ix∧H'=H6) I6' r6 ⟨rfl,rfl⟩) (fun _ s7 h7=>?_) fun _ _ e=>e.elim;obtain⟨σ7,H7,I7,rfl,rfl⟩:=h7;refine Fv (ht cl s3 _ fp _ s7 _ _ _ I7 (step xv _ y6)) (fun b s8 h8=>?_) fun _ _ e=>e.elim;obtain⟨H8,I8,q8⟩:=h8
   cases b with
   | false=>
    rw[if_neg Dt]at q8 ⊢;obtain⟨m',hm,w8⟩:=q8;exact⟨m',hm,again I8 w8⟩
   | true=>
    rw[if_pos rfl]at q8 ⊢;refine Fv (he cl s3 _ fp _ s8 _ _ _ I8 q8) (fun uy s9 h9=>?_) fun _ _ e=>e.elim;obtain⟨y,H9,I9,r9,hacc,hz,m',hm,w9⟩:=h9;refine Fv (Ea (X:=Gi X x ns scope cl s3 (upd H s.heap.objs.size (.lst [])) fp) _ s9 _ H9 (.ref s.heap.objs.size) [y] _ [uy] (fun v H'=>H'=upd H9 s.heap.objs.size (.lst (ys++[y]))) I9 rfl (.cons r9 .nil) ⟨_,ys,y,rfl,rfl,hacc,hz,rfl⟩) (fun _ s10 h10=>?_) fun _ _ e=>e.elim;obtain⟨v,H10,I10,_,rfl⟩:=h10;exact⟨m',hm,again I10 w9⟩
 exact codeAny_compStart_list (loop _ rfl) (T.self _ 0 _ _ _ st4 (loop _ rfl))
theorem ZGj (hsc:X.env.scope=sc) (hN:X.N=N) (C:OJ sc N x ns ix scope) (hc:X.calm=true) (hi:PI X (.Name x px) iter wi) (ht:∀cl s H ex,PTs (Gi X x ns scope cl s H ex) ifs tc) (he:∀cl s H ex,PE (Gi X x ns scope cl s H ex) elt te)
  (hs:∀v,foldedSetIterable iter X.env v=pure v:=by intro _; rfl):PE X (.ListComp elt [⟨.Name x px,iter,ifs,0⟩] scope pos) (WX wi ix tc te):=by
 intro pins s σ H Q I h
 obtain⟨cl,hclos,hcl,hcla⟩:=Zq2 (env:=X.env) scope fun y hy hf=>I.ok.has y.1 (by
  have:=(C.2.1 y hy).2.2 hf;rw[←hsc]at this
  exact this)
 rw[eval_ListComp];refine YbY (use:=none) rfl hs hclos C.1 (fun y hy=>(C.2.1 y hy).2.1) (thn (hi pins s σ H _ I h) fun v s1 h1=>thn h1 fun itv s2 h2=>?_);obtain⟨it,fp,tn,J,H2,rfl,I2,T,st2,f2,hg⟩:=h2;refine Zw4 (RR:=fun ja C=>compPost (model X.prog X.w) X.A X.xe none (EP X pins σ Q) ja C) hsc hN C hc ht he I2 hcl hcla T st2 f2 hg ?_;intro D C' m s' H' I' hn' fC q;obtain⟨g0,g1,g2,g3,g4,g5⟩:=fC;exact⟨m,hn',fun h' hs'=>⟨.ref D,H',I'.turned (t':=s'.toks) (fun b o hb e=>hs'.extBut b o hb e) g0 (Gs (Gs g1)) g3 g4 g5,rfl,q⟩⟩
theorem ud {y:Str} {py spos:Pos} (i:Nat) (hNd:X.N.Nodup) (hsc:X.env.scope=sc) (hN:X.N=N) (C:OJ sc N x ns ix scope) (hc:X.calm=true) (hi:PI X (.Name x px) iter wi) (ht:∀cl s H ex,PTs (Gi X x ns scope cl s H ex) ifs tc) (he:∀cl s H ex,PE (Gi X x ns scope cl s H ex) elt te)
  (hs:∀v,foldedSetIterable iter X.env v=pure v:=by intro _; rfl) (hy:X.N[i]?=some y:=by rfl) (hl:X.env.scope.names.lookup y=some .local:=by rfl)
  (hsw:swapsWith (.ListComp elt [⟨.Name x px,iter,ifs,0⟩] scope pos) (some (.Name y py)) spos.line X.env=pure true:=by rfl) :
  PS X (.Assign [.Name y py] (.ListComp elt [⟨.Name x px,iter,ifs,0⟩] scope pos) spos) (tAsg (WX wi ix tc te) (Ir i)):=by
 intro pins s σ H D I h
 obtain⟨cl,hclos,hcl,hcla⟩:=Zq2 (env:=X.env) scope fun y hy hf=>I.ok.has y.1 (by
  have:=(C.2.1 y hy).2.2 hf;rw[←hsc]at this
  exact this)
 rw[exec_Assign_Name_used _ _ _ _ hsw];refine BP (wpAny_standAt (BP ?_));show Bb _ X.A (do let _ ←comprehension (.ListComp elt [⟨.Name x px,iter,ifs,0⟩] scope pos) scope X.env _ (newList []) false (eval iter X.env) (some (assign (.Name y py) X.env))) _ _ s
 refine BP (Fv (YbY (use:=some (assign (.Name y py) X.env)) (Q:=fun _ s'=>SP X pins D .next s') rfl hs hclos C.1 (fun y hy=>(C.2.1 y hy).2.1)
  (thn (hi pins s σ H _ I h) fun v s1 h1=>thn h1 fun itv s2 h2=>?_)) (fun _ s' hq=>DK (DK hq)) fun _ _ e=>e)
 obtain⟨it,fp,tn,J,H2,rfl,I2,T,st2,f2,hg⟩:=h2;refine Zw4 (RR:=fun ja C=>compPost (model X.prog X.w) X.A X.xe (some (assign (.Name y py) X.env)) (fun _ s'=>SP X pins D .next s') ja C) hsc hN C hc ht he I2 hcl hcla T st2 f2 hg ?_;intro D' C' m s' H' I' hn' fC q;obtain⟨g0,g1,g2,g3,g4,g5⟩:=fC;refine Yal (Zu1 I' hNd hy (.inl hl) (v:=.ref D') rfl (fun s'' I'' hs''=>?_) (.inr hl));obtain⟨a,sb,ha⟩:=hs''
 have hne:C'≠a:=by
  rcases ha with ha | ha
  ·rw[ha]; exact g1
  ·intro z; exact g4 y a ha z.symm
 exact⟨m,hn'.sameBut sb hne,fun h' hs'=>⟨_,H',I''.turned (t':=s''.toks) (fun b o hb e=>hs'.extBut b o hb e) g0 g1 g3 g4 g5,q⟩⟩
end
section
variable {wi:TI} {ix:List Nat} {tc:TT} {te:TE} {σ:St} {H:Hp} {Q:VK} {K:Ao}
theorem Zxa {ta:TA} (h:ta σ H fun vs H1=>∃j:Int,vs=[.int j]∧-(2 ^ 62)≤j∧j < 2 ^ 62∧Ky (Itr 0 j.toNat) ix tc te σ Q H1):WX (lz ta) ix tc te σ H Q:=h
def ZJJ (K:Ao) (x:V) (ix:List Nat) (tc:TT) (te:TE) (σ:St) (Q:VK) (H1:Hp):Prop:=
 (∃a xs,x=.ref a∧SqL K H1 a xs∧Ky (Itl K a) ix tc te σ Q H1)∨(∃a xs,x=.ref a∧SqT K H1 a xs∧Ky (Itt K a) ix tc te σ Q H1)∨(∃z,x=.str z∧Ky (Its z) ix tc te σ Q H1)
theorem Zz4 {tl:TE} (h:tl σ H fun x H1=>ZJJ K x ix tc te σ Q H1):WX (iSeq K tl) ix tc te σ H Q:=h
theorem ZEf {BQ:Bool→Hp→Prop} (h:BQ true H):ZJw σ H BQ:=h
def Wk (J:It) (xs:List V) (H1:Hp):Prop:=∀H',Same H1 H'→(∀i,i < xs.length→J.go i H'∧∀x H2,J.yld i H' x H2→H2=H'∧xs[i]?=some x)∧J.stop xs.length H'
theorem ZxX (lo:Int) (n:Nat) (H:Hp):Wk (Itr lo n) ((Im n).map fun i:Nat=>V.int (lo+(i:Int))) H:=fun H' _=>by
 refine⟨fun i hi=>?_,?_⟩
 ·rw[Ax,JR]at hi
  refine⟨hi,fun x H2 y=>?_⟩;obtain⟨e,y⟩:=y;refine⟨e,?_⟩;rw[El,ik hi,y];rfl
 ·rw[Ax,JR]
  exact Bv n
theorem ZG3 {a:Ab} {xs:List V} (h:SqL K H a xs):Wk (Itl K a) xs H:=fun H' s=>by
 have h':=s.seq h;refine⟨fun i hi=>⟨⟨xs,xs[i],h',by simp[hi]⟩,fun x H2 y=>?_⟩,⟨xs,h',Bv _⟩⟩;obtain⟨e,y⟩:=y;exact⟨e,y xs h'⟩
theorem ZzL {J:It} {xs:List V} (Pv:Nat→List V→Prop) (hw:Wk J xs H) (hz:xs.length≤1000000) (h0:Pv 0 [])
  (hs:∀(i:Nat) (x:V) (ys:List V) (acc:Ab) (H':Hp),xs[i]?=some x→Same H H'→H acc=none→H' acc=some (.lst ys)→Pv i ys→ys.length≤i→
   ∀R:Bool→Hp→Prop,(∀b H2,Same H' H2→(b=false→Pv (i+1) ys)→(b=true→∀R2:V→Hp→Prop,(∀y H3,Same H2 H3→Pv (i+1) (ys++[y])→R2 y H3)→te (some x::subS σ ix) H2 R2)→R b H2)→tc (some x::subS σ ix) H' R)
  (hd:∀(acc:Ab) (ys:List V) (H':Hp),H acc=none→Same H H'→H' acc=some (.lst ys)→Pv xs.length ys→Q (.ref acc) H'):Ky J ix tc te σ Q H:=by
 intro acc hacc
 have sU:∀{H2:Hp} (o:HO),Same H H2→Same H (upd H2 acc o):=fun o s b u e=>by rw[Cd (Bw e hacc)]; exact s b u e
 refine⟨fun i m ys H'=>m=xs.length - i∧i≤xs.length∧Same H H'∧H' acc=some (.lst ys)∧Pv i ys∧ys.length≤i,⟨xs.length,by simp,De _,HJ hacc _,Cm,h0,Bv _⟩,?_⟩;rintro i m ys H' ⟨rfl,hi,sm,ea,pv,hy⟩
 by_cases hlt:i < xs.length
 ·obtain⟨go,yl⟩:=(hw H' sm).1 i hlt
  refine .inr ⟨go,fun x H2 y=>?_⟩;obtain⟨rfl,hx⟩:=yl x H2 y;refine hs i x ys acc _ hx sm hacc ea pv hy _ fun b H3 s3 pf pt=>?_
  cases b with
  | false=>
   rw[if_neg Dt];exact⟨xs.length - (i+1),by omega,rfl,hlt,sm.trans s3,s3 _ _ ea,pf rfl,Ud hy⟩
  | true=>
   rw[if_pos rfl];refine pt rfl _ fun y H4 s4 py=>⟨s4 _ _ (s3 _ _ ea),su (by omega),xs.length - (i+1),by omega,rfl,hlt,sU _ (sm.trans (s3.trans s4)),Cm,py,?_⟩;rw[CZ,Gv];omega
 ·have e:i=xs.length:=by omega
  subst e;exact .inl ⟨(hw H' sm).2,hd acc ys H' hacc sm ea pv⟩
end
section
variable {X:Cx} {K:Ao} {a o:Aw} {ta:TE} {pos:Pos}
end
end L2
namespace EM
theorem ZGY (x y:Nat):x - (x &&& y)=(x &&& y) ^^^ x:=by
 have h:=p7 (x+1) (x &&& y) x (by have:=YbZ (n:=x) (m:=y); omega)
 have e1:(x &&& y) ||| x=x:=by
  apply Km; intro i; rw[gw,V9]; cases x.testBit i <;> simp
 have e2:(x &&& y) &&& x=x &&& y:=by
  apply Km; intro i; rw[V9,V9]; cases x.testBit i <;> simp
 rw[e1,e2]at h;omega
theorem ZpY (x y i:Nat):(x - (x &&& y)).testBit i=(x.testBit i && !y.testBit i):=by
 rw[ZGY,YbP,V9]
 cases x.testBit i <;> cases y.testBit i <;> rfl
end EM
namespace L2
open PySem PySem.Spec PyProof.Rows
section
variable {X:Cx} {K:Ao} {σ:St} {H:Hp} {Q:VK} {a:Aw} {ta:TE} {pos:Pos}
noncomputable def rSlX:V→Option Int→Option Int→Hp→VK→Prop:=fun x lo hi H Q=>∃z,x=.str z∧z.length≤BW∧Q (.str (Txt.slice z lo hi)) H
theorem ZI9:SlR X rSlX:=by
 intro pins s σ H x v vl vu lo hi sl Q I rx hs pl pu h;obtain⟨z,rfl,hz,q⟩:=h;obtain⟨t,rfl⟩:=rx;refine⟨"str",_,F.slot_str_getitem.lookup,Oh _ _ _,?_⟩;obtain⟨o,ho,hc,hd⟩:=hs
 have fin:∀(l u:Option (Int×Tok)),vl=partValue l→vu=partValue u→l.map (·.1)=lo→u.map (·.1)=hi→Bb (model X.prog X.w) X.A (getItem (.str z t) (.ref sl)) (EP X pins σ Q) X.xe s:=fun l u e1 e2 e3 e4=>by
  subst e1 e2 e3 e4
  exact wpAny_getItem_str_slice (l:=l) (u:=u) (st:=none) ⟨o,ho,hc,hd⟩ rfl
   (post_val_or_str ⟨Ex (Txt.slice_le z _ _) hz,fun t' k=>⟨.str _,H,I.tok k,⟨t',rfl⟩,q⟩⟩)
 have pv:∀{v:Ae} {o:Option Int},Kh v o→∃l:Option (Int×Tok),v=partValue l∧l.map (·.1)=o:=fun {v o} h=>by
  cases h <;> first | exact⟨none,rfl,rfl⟩ | exact⟨some (_,_),rfl,rfl⟩
 obtain⟨l,e1,e3⟩:=pv pl;obtain⟨u,e2,e4⟩:=pv pu;exact fin l u e1 e2 e3 e4
noncomputable def rSlA (K:Ao):V→Option Int→Option Int→Hp→VK→Prop:=fun x lo hi H Q=>rSlG K x lo hi H Q∨rSlX x lo hi H Q
theorem IW:SlR X (rSlA X.K):=SlR.or ZI8 ZI9
theorem W0 {z:Str} {lo hi:Option Int} (hz:z.length≤1000000) (k:Q (.str (Txt.slice z lo hi)) H):rSlA K (.str z) lo hi H Q:=.inr ⟨z,rfl,Ca hz,k⟩
theorem Kz {p:Ab} {xs ys:List V} {lo hi:Option Int} (h:SqL K H p xs) (e:cutV xs lo hi=ys) (k:∀(l:Ab) (H':Hp),Same H H'→H l=none→H' l=some (.lst ys)→Q (.ref l) H'):rSlA K (.ref p) lo hi H Q:=.inl (j_sl h e k)
noncomputable def ZIR:V→List V→Hp→VK→Prop:=fun x vs H Q=>∃z y,x=.str z∧vs=[.str y]∧Q (.int (Txt.find z y)) H
theorem ZAK:MtM X "str.find" ZIR:=by
 intro pins s σ H x vs v us Q I rx rv h;obtain⟨z,y,rfl,rfl,q⟩:=h;obtain⟨t,rfl⟩:=rx;obtain⟨u,rfl,t',rfl⟩:=rv.one;exact SC.find ⟨.int _,H,I.tok _,⟨_,rfl⟩,q⟩
theorem Zu6:∀{ts:List Str} {us:List Ae},Vals (ts.map V.str) us→∃l:List (Str×Tok),us=strValues l∧l.map (·.1)=ts
 | [],_,r=>by cases r; exact⟨[],rfl,rfl⟩
 | t::ts,_,r=>by
  cases r with
  | cons r1 r2=>
   obtain⟨k,rfl⟩:=r1;obtain⟨l,rfl,rfl⟩:=Zu6 r2;exact⟨(t,k)::l,rfl,rfl⟩
noncomputable def ZJ5 (K:Ao):V→List V→Hp→VK→Prop:=fun x vs H Q=>∃z l ts,x=.str z∧vs=[.ref l]∧SqL K H l (ts.map V.str)∧Kp z ts=true∧Q (.str (Txt.join z ts)) H
theorem KC:MtM X "str.join" (ZJ5 X.K):=by
 intro pins s σ H x vs v us Q I rx rv h;obtain⟨z,l,ts,rfl,rfl,hq,hj,q⟩:=h;obtain⟨t,rfl⟩:=rx;obtain⟨u,rfl,ru⟩:=rv.one
 cases ru
 obtain⟨its,r',pl,hz⟩:=I.list hq;obtain⟨ls,rfl,rfl⟩:=Zu6 r';exact SC.join pl.isList rfl hj fun t' k=>⟨.str _,H,I.tok k,⟨t',rfl⟩,q⟩
theorem tyS {z:Str}:tyV K "str" (.str z) H:=by
 unfold tyV
 first
  | exact .inr (.inl ⟨rfl,_,rfl⟩)
  | exact .inr (.inr (.inl ⟨rfl,_,rfl⟩))
  | exact .inr (.inr ⟨rfl,_,rfl⟩)
  | simp
noncomputable abbrev TJ:=St→Hp→Str→VK→Prop
def PJ (X:Cx) (es:List Aw) (t:TJ):Prop:=
 ∀(out:Str) (pins:List (Ab×Obj)) (s:Ak) (σ:St) (H:Hp) (Q:VK),Inv X pins σ H s→t σ H out Q→Bb (model X.prog X.w) X.A (joinParts out (evalEach es X.env)) (EP X pins σ Q) X.xe s
noncomputable def tJn:TJ:=fun _ H out Q=>out.length≤BW∧Q (.str out) H
noncomputable abbrev tJc (te:TE) (tr:TJ):TJ:=fun σ H out Q=>te σ H fun x H1=>∃y,x=.str y∧(out++y).length≤BW∧tr σ H1 (out++y) Q
theorem W2:PJ X [] tJn:=fun out pins s σ H Q I h=>joinParts_nil ⟨.str out,H,I.tok _,⟨_,rfl⟩,h.2⟩ h.1
theorem J0 {e:Aw} {es:List Aw} {te:TE} {tr:TJ} (he:PE X e te) (hr:PJ X es tr):PJ X (e::es) (tJc te tr):=by
 intro out pins s σ H Q I h;show Bb _ _ (joinParts out (eval e X.env::evalEach es X.env)) _ _ s;refine joinParts_cons (thn (he pins s σ H _ I h) fun v s1 h_=>?_);obtain⟨x,H1,I1,r1,y,ex,hz,q⟩:=h_;subst ex;obtain⟨t,rfl⟩:=r1;exact⟨hz,hr _ pins s1 σ H1 Q I1 q⟩
noncomputable abbrev tFs (t:TJ):TE:=fun σ H Q=>t σ H BK Q
theorem W4 {e1 e2:Aw} {es:List Aw} {t:TJ} (h:PJ X (e1::e2::es) t):PE X (.JoinedStr (e1::e2::es) pos) (tFs t):=by
 intro pins s σ H Q I q;exact JoinedStr_many (h BK pins s σ H Q I q)
noncomputable abbrev tFmt (ta:TE):TE:=fun σ H Q=>ta σ H fun x H1=>∃z,x=.str z∧z.length≤BW∧Q (.str z) H1
theorem ue (ha:PE X a ta):PE X (.FormattedValue a (-1) none pos) (tFmt ta):=by
 intro pins s σ H Q I h;refine FormattedValue_plain (thn (ha pins s σ H _ I h) fun v s1 h_=>?_);obtain⟨x,H1,I1,r1,z,ex,hz,q⟩:=h_;subst ex;obtain⟨t,rfl⟩:=r1;exact Yb0 (fun t' k=>⟨.str z,H1,I1.tok k,⟨t',rfl⟩,q⟩) hz
theorem i_fs {t:TJ} (h:t σ H BK Q):tFs t σ H Q:=h
theorem i_jn {out:Str} (z:out.length≤1000000) (h:Q (.str out) H):tJn σ H out Q:=⟨Ca z,h⟩
theorem i_jc {te:TE} {tr:TJ} {out:Str} (h:te σ H fun x H1=>∃y,x=.str y∧(out++y).length≤BW∧tr σ H1 (out++y) Q):tJc te tr σ H out Q:=h
theorem ZHK (h:ta σ H fun x H1=>∃z,x=.str z∧z.length≤BW∧Q (.str z) H1):tFmt ta σ H Q:=h
end
end L2
namespace L2
open PySem PySem.Spec PyProof.Rows
mutual
noncomputable def DV (H:Hp):ir→V→Prop
 | .none,v=>v=.non
 | .bool b,v=>v=.bl b
 | .int i,v=>v=.int i
 | .str x,v=>v=.str x
 | .list ds,v=>∃p xs,v=.ref p∧H p=some (.lst xs)∧DVs H ds xs
 | .tuple ds,v=>∃p xs,v=.ref p∧H p=some (.tup xs)∧DVs H ds xs
 | .dict _,_=>False
noncomputable def DVs (H:Hp):List ir→List V→Prop
 | [],xs=>xs=[]
 | d::ds,xs=>∃v r,xs=v::r∧DV H d v∧DVs H ds r
end
section
variable {X:Cx} {pins:List (Ab×Obj)} {σ:St} {H:Hp} {s:Ak}
mutual
theorem Lz (I:Inv X pins σ H s):∀(d:ir) (v:V) (u:Ae),DV H d v→RelV v u→∃as,Reads s.heap u d as
 | .none,v,u,h,r=>by
  rw[DV]at h; subst h; cases r; exact⟨_,.none⟩
 | .bool b,v,u,h,r=>by
  rw[DV]at h; subst h; cases r; exact⟨_,.bool b⟩
 | .int i,v,u,h,r=>by
  rw[DV]at h; subst h; obtain⟨t,rfl⟩:=r; exact⟨_,.int i t⟩
 | .str x,v,u,h,r=>by
  rw[DV]at h; subst h; obtain⟨t,rfl⟩:=r; exact⟨_,.str x t⟩
 | .list ds,v,u,h,r=>by
  rw[DV]at h;obtain⟨p,xs,rfl,e,hs⟩:=h
  cases r
  obtain⟨z,its,n,r',e'⟩:=I.hok p _ e;obtain⟨as,ra⟩:=uf I ds xs its hs r';exact⟨_,.list e' rfl rfl (by simpa using ra)⟩
 | .tuple ds,v,u,h,r=>by
  rw[DV]at h;obtain⟨p,xs,rfl,e,hs⟩:=h
  cases r
  obtain⟨z,its,r',o,e',hc,n,hd,_⟩:=I.hok p _ e;obtain⟨as,ra⟩:=uf I ds xs its hs r';exact⟨_,.tuple e' hc hd (by simpa using ra)⟩
 | .dict _,v,u,h,r=>by rw[DV]at h; exact h.elim
theorem uf (I:Inv X pins σ H s):∀(ds:List ir) (xs:List V) (us:List Ae),DVs H ds xs→Vals xs us→∃as,ReadsAll s.heap us ds as
 | [],xs,us,h,r=>by
  rw[DVs]at h; subst h; cases r; exact⟨_,.nil⟩
 | d::ds,xs,us,h,r=>by
  rw[DVs]at h;obtain⟨v,r0,rfl,h1,h2⟩:=h
  cases r with
  | cons r1 r2=>
   obtain⟨a1,q1⟩:=Lz I d v _ h1 r1;obtain⟨a2,q2⟩:=uf I ds r0 _ h2 r2;exact⟨_,.cons q1 q2⟩
end
noncomputable def rEqD:R2:=fun x y H Q=>∃d1 d2,DV H d1 x∧DV H d2 y∧d1.canLay0=true∧d2.canLay0=true∧d1.depth≤60∧Q (.bl (ir.eqv d1 d2)) H
theorem ZIx (hu:X.A.units+64 < cLine):OpR X (compareOp .Eq) rEqD:=by
 intro pins s σ H x y v u Q I rx ry h;obtain⟨d1,d2,h1,h2,c1,c2,hd,q⟩:=h;obtain⟨a1,q1⟩:=Lz I d1 x v h1 rx;obtain⟨a2,q2⟩:=Lz I d2 y u h2 ry;exact SeqAt.compareEq_reads q1 q2 c1 c2 (Hz (Io (Ex (YaO _ _) hd) _) (by omega)) ⟨.bl _,H,I,rfl,q⟩
noncomputable def rEqA:R2:=fun x y H Q=>rEq x y H Q∨rEqD x y H Q
theorem BL (hu:X.A.units+64 < cLine):OpR X (compareOp .Eq) rEqA:=OpR.or ZJ3 (ZIx hu)
noncomputable def rNeD:R2:=fun x y H Q=>∃d1 d2,DV H (.list d1) x∧DV H (.list d2) y∧iu d1=true∧iu d2=true∧Ue d1≤60∧Q (.bl (!YaP d1 d2)) H
theorem ZIA (hu:X.A.units+64 < cLine):OpR X (compareOp .NotEq) rNeD:=by
 intro pins s σ H x y v u Q I rx ry h;obtain⟨d1,d2,h1,h2,c1,c2,hd,q⟩:=h;obtain⟨a1,q1⟩:=Lz I (.list d1) x v h1 rx;obtain⟨a2,q2⟩:=Lz I (.list d2) y u h2 ry
 cases q1 with
 | @list b1 o vs n _ as1 g1 g2 g3 g4=>
  cases q2 with
  | @list b2 o' vs' n' _ as2 k1 k2 k3 k4=>
   have hl:s.heap.IsList _ vs:=⟨_,g1,g2,_,g3⟩;have hl':s.heap.IsList _ vs':=⟨_,k1,k2,_,k3⟩
   have n1:vs.size=d1.length:=by simpa using iw _ _ _ g4
   have n2:vs'.size=d2.length:=by simpa using iw _ _ _ k4
   have fin:EP X pins σ Q (.bool (!YaP d1 d2)) s:=⟨.bl _,H,I,rfl,q⟩
   by_cases hz:vs.size=vs'.size
   ·refine Ydk hl hl' hz (by omega) (e:=Yb1 d1 d2) (fun j j1 j2=>?_) _ _ _ _ ?_
    ·have:=Yb2 d1 d2 X.A.in1 s vs.toList vs'.toList _ _ g4 k4 c1 c2 (by
      have:X.A.in1.units=X.A.units+1∨X.A.in1.units=X.A.units:=by first | exact .inl rfl | exact .inr rfl
      have h3:=YaO (Ue d1) (Ue d2)
      omega) j (by simpa using j1) (by simpa using j2)
     simpa using this
    ·have e:=YaQ d1 d2
     rw[←n1,←n2,←hz,Nat.min_self,beq_self_eq_true,Yb3]at e;rw[e]; exact fin
   ·refine Ydl hl hl' (by simpa using hz) (by omega) _ _ _ _ ?_
    have e:=YaQ d1 d2
    have hb:(d1.length == d2.length)=false:=by
     rw[←n1,←n2]; simpa using hz
    rw[hb,Yb4]at e;rw[←e]at fin;exact fin
noncomputable def rNeT:R2:=fun x y H Q=>∃d1 d2,DV H (.tuple d1) x∧DV H (.tuple d2) y∧iu d1=true∧iu d2=true∧Ue d1≤60∧Q (.bl (!YaP d1 d2)) H
theorem ZIB (hu:X.A.units+64 < cLine):OpR X (compareOp .NotEq) rNeT:=by
 intro pins s σ H x y v u Q I rx ry h;obtain⟨d1,d2,h1,h2,c1,c2,hd,q⟩:=h;obtain⟨a1,q1⟩:=Lz I (.tuple d1) x v h1 rx;obtain⟨a2,q2⟩:=Lz I (.tuple d2) y u h2 ry
 cases q1 with
 | @tuple b1 o vs n _ as1 g1 g2 g3 g4=>
  cases q2 with
  | @tuple b2 o' vs' n' _ as2 k1 k2 k3 k4=>
   have hl:s.heap.IsTuple _ vs:=⟨_,g1,g2,_,g3⟩;have hl':s.heap.IsTuple _ vs':=⟨_,k1,k2,_,k3⟩
   have n1:vs.size=d1.length:=by simpa using iw _ _ _ g4
   have n2:vs'.size=d2.length:=by simpa using iw _ _ _ k4
   refine Ydm hl hl' (by omega) (e:=Yb1 d1 d2) (fun j j1 j2=>?_) _ _ _ _ ?_
   ·have:=Yb2 d1 d2 X.A.in1 s vs.toList vs'.toList _ _ g4 k4 c1 c2 (by
     have:X.A.in1.units=X.A.units+1∨X.A.in1.units=X.A.units:=by first | exact .inl rfl | exact .inr rfl
     have h3:=YaO (Ue d1) (Ue d2)
     omega) j (by simpa using j1) (by simpa using j2)
    simpa using this
   ·rw[n1,n2,YaQ d1 d2]
    exact⟨.bl _,H,I,rfl,q⟩
noncomputable def rNeA:R2:=fun x y H Q=>rNe x y H Q∨rNeD x y H Q∨rNeT x y H Q
theorem Ja (hu:X.A.units+64 < cLine):OpR X (compareOp .NotEq) rNeA:=OpR.or ZJ4 (OpR.or (ZIA hu) (ZIB hu))
end
section
variable {K:Ao} {H:Hp} {Q:VK}
theorem ZD3 {i j:Int} (h:Q (.bl (decide (i=j))) H):rEqA (.int i) (.int j) H Q:=.inl (qg h)
theorem ZD4 {i j:Str} (h:Q (.bl (decide (i=j))) H):rEqA (.str i) (.str j) H Q:=.inl (qi h)
theorem ZEd {i j:Int} (h:Q (.bl (!decide (i=j))) H):rNeA (.int i) (.int j) H Q:=.inl (qj h)
theorem ZEe {i j:Str} (h:Q (.bl (!decide (i=j))) H):rNeA (.str i) (.str j) H Q:=.inl (ql h)
end
end L2
namespace PySem
open Sem (wp)
open AutoSeq1 (wpAny_loadPart')
theorem Zuw (a:Ab) (vs:Array Ae) (m:Nat) (dc:Option Ab) (sc:Array (Option Ae)):Meets (Builtin.«enumerate.__new__» ⟨[.type "enumerate",.ref a],[]⟩) (fun _ R z=>
    z.heap.get? a=some { cls:=.type "tuple",dict:=dc,data:=.seq vs m,slots:=sc }∧
    R (.ok (.ret (.ref (z.heap.push { cls:=.type "tuple_iterator",data:=.fields #[.ref a,.int 0 0] }).objs.size)))
      { z with heap:=(z.heap.push { cls:=.type "tuple_iterator",data:=.fields #[.ref a,.int 0 0] }).push { cls:=.type "enumerate",data:=.fields #[.none,.bool false,.ref z.heap.objs.size,rawInt 0,.none,.none] } }):=
  .of_wp fun pr wo ar R z hz=>by
    obtain⟨hp,gg,dd,tt,ss⟩:=z;obtain⟨ha,hR⟩:=hz;have hsubE:=sub_enumerate;have hT:Aq.IsTuple (Ak.heap ⟨hp,gg,dd,tt,ss⟩) a vs:=⟨_,ha,rfl,m,rfl⟩
    wp_walk using iy ha
    refine wpAny_stack_any fun stk=>DK ?_
    split
    · rename_i cc _ _ _ _ _
      cases (cc == Jg "enumerate") <;>
        (wp_walk using iy ha,YaI hT
         exact⟨_,rfl,hR⟩)
    · wp_walk using iy ha,YaI hT
      exact⟨_,rfl,hR⟩
section
variable {prog:Bp} {w:Bg} {A:Cu} {E:Ae→Ak→Prop} {s:Ak}
theorem ZrE {a:Ab} {vs:Array Ae} {Q:Ae→Ak→Prop} (hT:s.heap.IsTuple a vs)
  (q:∀h',iz h' (s.heap.objs.size+1) s.heap.objs.size 0 .none→h'.IsTupleIter s.heap.objs.size a 0→(∀b o,s.heap.get? b=some o→h'.get? b=some o)→Q (.ref (s.heap.objs.size+1)) { s with heap:=h' }) :
  Bb (model prog w) A (call (.type "enumerate") [.ref a]) Q E s:=by
 obtain⟨⟨c,dc,dt,sc⟩,ha,hc,m,hd⟩:=hT
 replace hc:c=.type "tuple":=hc
 replace hd:dt=.seq vs m:=hd
 subst hc hd;refine callType_new F.called_enumerate (by decide) (F.typeCall_enumerate_1 _) (F.newCall_enumerate_1 _) (fun z=>F.args_object_init_2 z _) F.entry_enumerate_new (Zuw a vs m dc sc) ⟨ha,?_⟩;have hz:(s.heap.push { cls:=.type "tuple_iterator",data:=.fields #[.ref a,.int 0 0] }).objs.size=s.heap.objs.size+1:=VN ..;show _∧_;rw[hz]
 have he:iz ((s.heap.push { cls:=.type "tuple_iterator",data:=.fields #[.ref a,.int 0 0] }).push { cls:=.type "enumerate",data:=.fields #[.none,.bool false,.ref s.heap.objs.size,rawInt 0,.none,.none] }) (s.heap.objs.size+1) s.heap.objs.size 0 .none:=by
  have e:=FZ (s.heap.push { cls:=.type "tuple_iterator",data:=.fields #[.ref a,.int 0 0] }) (o:={ cls:=.type "enumerate",data:=.fields #[.none,.bool false,.ref s.heap.objs.size,rawInt 0,.none,.none] }) rfl;rw[hz]at e;exact e
 exact⟨⟨_,he,rfl⟩,q _ he ⟨_,Ek _ (FZ _ rfl),rfl,rfl⟩ fun b o e=>Ek _ (Ek _ e)⟩
theorem Zpu {it t:Ab} {i:Nat} {vs} {x:Ae} {Q:Ae→Ak→Prop} (hi:s.heap.IsTupleIter it t i) (ht:s.heap.IsTuple t vs) (hx:vs[i]?=some x)
  (q:∀h',h'.IsTupleIter it t (i+1)→Ob it s.heap h'→Q x { s with heap:=h' }):Bb (model prog w) A (jc (.ref it)) Q E s:=by
 obtain⟨o,ho,hc,hd⟩:=id hi;obtain⟨ot,hot,_,nt,hdt⟩:=ht;unfold jc;refine BP (Yaz (name:=Gb "__next__") hi.typeIs jd (YaA jd hi.typeIs Yb5 ?_ (Yb6 _)));show Bb _ _ (field (.ref it) 0 >>= _) _ _ s;refine BP (Jl ho hd (x:=.ref t) rfl ?_);show Bb _ _ (if (Do t == Gm)=true then _ else _) _ _ s;rw[if_neg (show ¬((Do t == Gm)=true) from Dt)];show Bb _ _ (field (.ref it) 1 >>= _) _ _ s;refine BP (Jl ho hd (x:=.int i 0) rfl ?_);show Bb _ _ (seqItems? (.ref t) >>= _) _ _ s;refine BP (wpAny_seqItems hot hdt ?_);simp only [JM,hx];refine BP (Wb ho hd (by simp) (DK ⟨x,rfl,DK (q _ ?_ (Yb7 ..))⟩));exact⟨_,gf _ ho (YaR (Wc hd _)),(Yb8 ..).trans hc,by rw[Wc hd]; simp[rawInt]⟩
theorem ZqD {it t:Ab} {i:Nat} {vs} {Q:Ae→Ak→Prop} (hh:A.handled=none) (hi:s.heap.IsTupleIter it t i) (ht:s.heap.IsTuple t vs) (hx:vs[i]?=none)
  (q:∀h' e,Aq.ExtBut it s.heap h'→(∃o,h'.get? e=some o∧o.cls=.type "StopIteration")→E (.ref e) { s with heap:=h' }):Bb (model prog w) A (jc (.ref it)) Q E s:=by
 obtain⟨o,ho,hc,hd⟩:=id hi;obtain⟨ot,hot,_,nt,hdt⟩:=ht;unfold jc;refine BP (Yaz (name:=Gb "__next__") hi.typeIs jd (YaA jd hi.typeIs Yb5 ?_ (Yb6 _)));show Bb _ _ (field (.ref it) 0 >>= _) _ _ s;refine BP (Jl ho hd (x:=.ref t) rfl ?_);show Bb _ _ (if (Do t == Gm)=true then _ else _) _ _ s;rw[if_neg (show ¬((Do t == Gm)=true) from Dt)];show Bb _ _ (field (.ref it) 1 >>= _) _ _ s;refine BP (Jl ho hd (x:=.int i 0) rfl ?_);show Bb _ _ (seqItems? (.ref t) >>= _) _ _ s;refine BP (wpAny_seqItems hot hdt ?_);simp only [JM,hx];refine BP (wpAny_rule (BP (Wb ho hd (by simp) ?_)));show Bb _ _ (newExc (.type "StopIteration") [] >>= _) _ _ _;refine BP ?_;simp only [newExc,newTuple];refine BP (K8 ?_ (by size_fits));refine BP (m:=firstArgMember _ _) (wpAny_of_eq (a:=Gm) (by first | rfl | (simp only [firstArgMember]; rfl)) ?_);refine K8 ?_ (by size_fits);simp only [raiseNew];refine BP (wpAny_handled ?_)
 first | rw[show A.in1.handled=none from hh] | rw[hh]
 refine BP (DK (wpAny_throw ?_));exact q _ _ (((Yb7 ..).extBut.push _).push _) ⟨_,FZ _ rfl,rfl⟩
end
theorem Draws.tup {prog:Bp} {w:Bg} {A:Cu} (hh:A.handled=none) (it t:Ab) (hne:t≠it) (vs:Array Ae):Draws prog w A it [it,t] vs.size (fun i v=>vs[i]?=some v) (fun i h=>h.IsTupleIter it t i∧h.IsTuple t vs) where
 live:=fun _ _ z=>let ⟨o,ho,_⟩:=z.1; ⟨o,ho⟩
 frame:=fun _ _ _ z hk=>⟨(let ⟨o,ho,r⟩:=z.1; ⟨o,hk it (by simp) o ho,r⟩),(let ⟨o,ho,r⟩:=z.2; ⟨o,hk t (by simp) o ho,r⟩)⟩
 item:=fun i s Q E hi z q=>Zpu z.1 z.2 (x:=vs[i]) (by simp[hi]) fun h' hi' hs'=>q _ h' s.toks (by simp[hi]) ⟨hi',z.2.extBut hs'.extBut hne⟩ hs'
 done:=fun s Q E z q=>ZqD hh z.1 z.2 (by simp) q
theorem ZDn {h:Aq} {o o':Obj} {b:Ab} (e:(h.push o).get? b=some o'):b=h.objs.size∧o'=o∨h.get? b=some o':=by
 obtain⟨e1,e2⟩:=Yb9.mp e
 have e1:(h.objs.push o)[b]?=some o':=by simpa [Aq.push] using e1
 rw[Array.getElem?_push]at e1
 split at e1
 ·rename_i z
  exact .inl ⟨z,(Dl e1).symm⟩
 ·exact .inr (Yb9.mpr ⟨e1,e2⟩)
end PySem
namespace L2
open PySem PySem.Spec PyProof.Rows
section
variable {X:Cx} {pins:List (Ab×Obj)} {σ:List (Option V)} {H:Hp} {s:Ak} {h':Aq}
theorem Inv.turnedL {t':Nat} {ch:List Ab} (I:Inv X pins σ H s) (k:∀b o,b∉ch→s.heap.get? b=some o→h'.get? b=some o) (hf:∀b∈ch,FpOk X pins H b):Inv X pins σ H { s with heap:=h',toks:=t' }:=by
 have nit:∀b u,H b=some u→b∉ch:=fun b u e z=>by rw[(hf b z).1]at e; cases e
 have hL:X.env.locals∉ch:=fun z=>(hf _ z).2.1 rfl;refine I.step (g':=s.gens) (d':=s.drawn) (ch:=ch) (fun b hb=>?_) (fun b o _ _ hc e _=>k b o hc e) (fun b o _ _ hc e _=>⟨o.slots,k b o hc e⟩) (fun _ _ _ _ n=>n) (fun b o hc e=>⟨o,k b o hc e⟩) (fun _ _ e=>e) (fun _ _ _ e=>e) (fun b ps e=>⟨#[],by rw[e]; simp⟩) (fun m hm=>?_) (fun b u e=>?_) I.bare
 ·obtain⟨f0,f1,f2,f3,f4,f5⟩:=hf b hb
  exact⟨f3,f1,f4,f5⟩
 ·obtain⟨o,es,ep,ho,r⟩:=hm
  exact⟨o,es,ep,k _ o hL ho,r⟩
 ·refine(I.hok b u e).stay (fun c v hc q=>k c v ?_ q) (fun _ q=>q) fun _ _ q=>q
  rcases hc with z | z
  ·rw[z]; exact nit b u e
  ·exact nit c _ z
theorem Inv.pairTurn {t':Nat} {ch:List Ab} {x y:V} {u v:Ae} (I:Inv X pins σ H s) (rx:RelV x u) (ry:RelV y v) (hf:∀b∈ch,FpOk X pins H b) (hch:∀b∈ch,b≠s.heap.objs.size)
  (k:∀b o,b∉ch→s.heap.get? b=some o→h'.get? b=some o) (hT:h'.get? s.heap.objs.size=some { cls:=.type "tuple",data:=.seq #[u,v] }) :
  Inv X pins σ (upd H s.heap.objs.size (.tup [x,y])) { s with heap:=h',toks:=t' }:=by
 have I1:Inv X pins σ (upd H s.heap.objs.size (.tup [x,y])) { s with heap:=s.heap.push { cls:=.type "tuple",data:=.seq #[u,v] } }:=
  I.laid (t':=s.toks) (fun b o e=>Ek _ e) (Bv _) (show DG X.prog X.w _ _ _ (.tup [x,y]) from⟨Dv rfl,[u,v],.cons rx (.cons ry .nil),TupN.new _ _⟩)
 refine Inv.turnedL (s:={ s with heap:=s.heap.push { cls:=.type "tuple",data:=.seq #[u,v] } }) (ch:=ch) I1 (fun b o hb e=>?_) fun b hb=>?_
 ·rcases ZDn e with⟨e1,e2⟩ | e
  ·rw[e1,e2]; exact hT
  ·exact k b o hb e
 ·obtain⟨f0,f1,f2,f3,f4,f5⟩:=hf b hb
  exact⟨by rw[Cd (hch b hb)]; exact f0,f1,f2,f3,f4,f5⟩
end
noncomputable def Ite (sq:Hp→Prop) (xs:List V):It:=⟨fun i H=>i < xs.length∧sq H,fun i H x H'=>∃T v,xs[i]?=some v∧H T=none∧x=.ref T∧H'=upd H T (.tup [.int (i:Int),v]),fun i H=>i=xs.length∧sq H⟩
theorem Zu4 {P:Bp} {w:Bg} {K:Ao} {elts:List Aw} {kk:Nat} {ps:Pos} {sq:Hp→Prop} {xs:List V} {e it:Ab} {stI:Nat→Aq→Prop} (hei:e≠it)
  (hobj:∀i h,stI i h→∃o,h.get? it=some o∧∀v,o.data≠.cell v) (hkeep:∀i h h',stI i h→(∀o,h.get? it=some o→h'.get? it=some o)→stI i h')
  (hD:∀(X:Cx),X.prog=P→X.w=w→X.K=K→X.calm=true→∀(pins:List (Ab×Obj)) (σ:St) (H:Hp) (s:Ak) (i:Nat),Inv X pins σ H s→sq H→(∃old,iz s.heap e it i old)→stI i s.heap→
   ∃(its:List Ae) (fp:List Ab) (S:Nat→Aq→Prop),Vals xs its∧Draws P w X.A.in1 it fp its.length (fun j v=>its[j]?=some v) S∧S i s.heap∧(∀j h,S j h→stI j h)∧e∉fp) :
  Turn P w K (.Tuple elts kk ps) (Ite sq xs) [e,it] e (fun i h=>(∃old,iz h e it i old)∧stI i h) where
 mem:=by simp
 obj:=fun i h st b hb=>by
  obtain⟨⟨old,he⟩,hs⟩:=st
  rcases Bu.mp hb with rfl | hb
  ·exact⟨_,he,fun v z=>by cases z⟩
  ·rw[Ck.mp hb]; exact hobj i h hs
 keep:=fun i h h' st k=>by
  obtain⟨⟨old,he⟩,hs⟩:=st;exact⟨⟨old,k e (by simp) _ he⟩,hkeep i h h' hs fun o z=>k it (by simp) o z⟩
 item:=by
  intro X hP hw hK hc i pins s σ H E I hf st hg;obtain⟨⟨old,he⟩,hs⟩:=st;obtain⟨its,fp,S,rv,D,hS,hst,hef⟩:=hD X hP hw hK hc pins σ H s i I hg.2 ⟨old,he⟩ hs;subst hP hw hK
  have hi:i < its.length:=by rw[←rv.length]; exact hg.1
  refine wpAny_pyNext_enum_itemD D he hS hi hei hef fun u h1 tk hu ho hs1 hT hsz hk=>?_;have hel:e < s.heap.objs.size:=CQ he
  have hil:it < s.heap.objs.size:=by obtain⟨o,q,_⟩:=hobj i _ hs; exact CQ q
  refine⟨_,rfl,wpAny_letOwnedTupleGo_enum ho fun h2 he2 hs2=>?_⟩;obtain⟨v,hv⟩ : ∃v,xs[i]?=some v:=⟨xs[i]'hg.1,Dr hg.1⟩;obtain⟨u',hu',ru⟩:=rv.get hv;have eu:u'=u:=Dl (hu'.symm.trans hu);subst eu
  have I2:Inv X pins σ (upd H s.heap.objs.size (.tup [.int (i:Int),v])) { s with heap:=h2,toks:=tk+1 }:=
   I.pairTurn (ch:=[e,it]) (u:=.int i tk) ⟨tk,rfl⟩ ru hf (fun b hb=>by
    rcases Bu.mp hb with rfl | hb
    ·exact DQ hel
    ·rw[Ck.mp hb]; exact DQ hil) (fun b o hb z=>by
    have hb1:b≠e:=fun q=>hb (by simp[q]);have hb2:b≠it:=fun q=>hb (by simp[q])
    exact(hs2.2 b hb1).trans (hk b o hb1 hb2 z)) ((hs2.2 _ (Od hel)).trans hT)
  refine⟨.ref s.heap.objs.size,_,I2,rfl,⟨_,v,hv,I.hok.fresh (Bv _),rfl,rfl⟩,⟨⟨_,by simpa using he2⟩,hst _ _ (D.frame _ _ _ hs1 fun b hb o z=>(hs2.2 b fun q=>hef (q ▸ hb)).trans z)⟩,fun b hb=>?_⟩
  have hne:b≠s.heap.objs.size:=by
   rcases Bu.mp hb with rfl | hb
   ·exact DQ hel
   ·rw[Ck.mp hb]; exact DQ hil
  rw[Cd hne];exact(hf b hb).1
 done:=by
  intro X hP hw hK hc i pins s σ H E I hf st hg;obtain⟨⟨old,he⟩,hs⟩:=st;obtain⟨its,fp,S,rv,D,hS,hst,hef⟩:=hD X hP hw hK hc pins σ H s i I hg.2 ⟨old,he⟩ hs;subst hP hw hK
  have hi:i=its.length:=by rw[←rv.length]; exact hg.1
  rw[hi]at hS;obtain⟨f0,f1,f2,f3,f4,f5⟩:=hf it (by simp);exact wpAny_pyNext_enum_endD D he hS fun h1 eb=>⟨rfl,I.turned (t':=s.toks) (fun b o hb z=>eb b o hb z) f0 f1 f3 f4 f5⟩
 self:=fun _ _ _ _ _ st h=>by
  obtain⟨⟨old,he⟩,_⟩:=st;exact YaS he h
section
variable {X:Cx}
noncomputable def ZHz (K:Ao) (tl:TE):TI:=fun σ H R=>tl σ H fun x H1=>(∃a xs,x=.ref a∧SqL K H1 a xs∧R (Ite (fun H=>SqL K H a xs) xs) H1)∨(∃a xs,x=.ref a∧SqT K H1 a xs∧R (Ite (fun H=>SqT K H a xs) xs) H1)
theorem ZBf {elts:List Aw} {kk:Nat} {ps:Pos} {l:Aw} {tl:TE} {p pos:Pos} (hg:Gl X "enumerate") (hm:X.mg "enumerate" = none) (ha:PE X l tl) (he:BX [l] X.env=(false,eval l X.env)::BX [] X.env:=by rfl) :
  PI X (.Tuple elts kk ps) (.Call (.Name "enumerate" p) [l] [] pos) (ZHz X.K tl):=by
 intro pins s σ H R I h;refine TY (Lf I hg hm Ztp ?_)
 let R':List V→Hp→Prop:=fun vs H1=>match vs with | [x]=>((∃a xs,x=V.ref a∧SqL X.K H1 a xs∧R (Ite (fun H=>SqL X.K H a xs) xs) H1)∨(∃a xs,x=V.ref a∧SqT X.K H1 a xs∧R (Ite (fun H=>SqT X.K H a xs) xs) H1)) | _=>False
 have h':HH tl tNil σ H R':=h;refine VJ (thn (Ac ha Af he pos pins s σ H R' I h') fun us s1 ⟨vs,H1,I1,r1,q1⟩=>?_) he rfl
 have fpk:∀b∈[s1.heap.objs.size+1,s1.heap.objs.size],FpOk X pins H1 b:=fun b hb=>by
  rcases Bu.mp hb with rfl | hb
  ·exact I1.fpOk (VR _) (I1.hok.fresh (VR _))
  ·rw[Ck.mp hb]; exact I1.fpOk (Bv _) (I1.hok.fresh (Bv _))
 match vs,r1,q1 with
 | [x],r1,q1=>
  obtain⟨u,rfl,rx⟩:=Li r1
  rcases q1 with⟨a,xs,rfl,hq,q⟩ | ⟨a,xs,rfl,hq,q⟩
  ·cases rx
   obtain⟨its,rv,pl,hz⟩:=I1.list hq;refine call_enumerate_list pl.isList fun h2 he2 hi2 hsz hk=>?_;refine YaS he2 ⟨s1.heap.objs.size+1,_,_,_,H1,rfl,I1.kept (t':=s1.toks) hk,Zu4 (e:=s1.heap.objs.size+1) (it:=s1.heap.objs.size) (stI:=fun i h=>h.IsListIter s1.heap.objs.size a i) (je _) ?_ ?_ ?_,⟨⟨_,he2⟩,hi2⟩,fpk,q⟩
   ·rintro i h ⟨o,e,c,d⟩
    exact⟨o,e,fun v z=>by rw[d]at z; cases z⟩
   ·exact fun i h h' z k=>z.at k
   ·intro Y hP hw hK hc pins' σ' H' s' i I' hs ⟨old,hen⟩ hit
    have hs:SqL Y.K H' a xs:=by rw[hK]; exact hs
    obtain⟨its',rv',pl',hz'⟩:=I'.list hs
    have na:a≠s1.heap.objs.size:=fun z=>by
     obtain⟨o,e,c,d⟩:=hit;obtain⟨o',e',c',d'⟩:=pl'.isList;rw[z,e]at e'
     cases e'
     rw[c]at c';exact absurd c' (by decide)
    have nb:s1.heap.objs.size+1∉[s1.heap.objs.size,a]:=fun z=>by
     rcases Bu.mp z with z | z
     ·exact je _ z
     ·obtain⟨o',e',c',d'⟩:=pl'.isList
      rw[←Ck.mp z,hen]at e'
      cases e'
      have c2:Jg "enumerate" = Jg "list":=c';exact absurd c2 (by decide)
    have D:=Draws.list (prog:=Y.prog) (w:=Y.w) (A:=Y.A.in1) (I'.ok.hd hc) s1.heap.objs.size a na its'.toArray;rw[hP,hw]at D;exact⟨its',[s1.heap.objs.size,a],fun i h=>h.IsListIter s1.heap.objs.size a i∧h.IsList a its'.toArray,rv',by simpa using D,⟨hit,pl'.isList⟩,fun j h z=>z.1,nb⟩
  ·cases rx
   obtain⟨its,rv,pl,hz⟩:=I1.tuple hq;refine ZrE (show s1.heap.IsTuple a its.toArray from pl) fun h2 he2 hi2 hk=>?_;refine YaS he2 ⟨s1.heap.objs.size+1,_,_,_,H1,rfl,I1.kept (t':=s1.toks) hk,Zu4 (e:=s1.heap.objs.size+1) (it:=s1.heap.objs.size) (stI:=fun i h=>h.IsTupleIter s1.heap.objs.size a i) (je _) ?_ ?_ ?_,⟨⟨_,he2⟩,hi2⟩,fpk,q⟩
   ·rintro i h ⟨o,e,c,d⟩
    exact⟨o,e,fun v z=>by rw[d]at z; cases z⟩
   ·exact fun i h h' z k=>let ⟨o,e,r⟩:=z; ⟨o,k o e,r⟩
   ·intro Y hP hw hK hc pins' σ' H' s' i I' hs ⟨old,hen⟩ hit
    have hs:SqT Y.K H' a xs:=by rw[hK]; exact hs
    obtain⟨its',rv',pl',hz'⟩:=I'.tuple hs
    have na:a≠s1.heap.objs.size:=fun z=>by
     obtain⟨o,e,c,d⟩:=hit;obtain⟨o',e',c',d'⟩:=pl';rw[z,e]at e'
     cases e'
     rw[c]at c';exact absurd c' (by decide)
    have nb:s1.heap.objs.size+1∉[s1.heap.objs.size,a]:=fun z=>by
     rcases Bu.mp z with z | z
     ·exact je _ z
     ·obtain⟨o',e',c',d'⟩:=pl'
      rw[←Ck.mp z,hen]at e'
      cases e'
      have c2:Jg "enumerate" = Jg "tuple":=c';exact absurd c2 (by decide)
    have D:=Draws.tup (prog:=Y.prog) (w:=Y.w) (A:=Y.A.in1) (I'.ok.hd hc) s1.heap.objs.size a na its'.toArray;rw[hP,hw]at D;exact⟨its',[s1.heap.objs.size,a],fun i h=>h.IsTupleIter s1.heap.objs.size a i∧h.IsTuple a its'.toArray,rv',by simpa using D,⟨hit,pl'⟩,fun j h z=>z.1,nb⟩
noncomputable def rAll (K:Ao):List V→Hp→VK→Prop:=fun xs H Q=>∃(p:Ab) (bs:List Bool),xs=[.ref p]∧SqL K H p (bs.map V.bl)∧Q (.bl (bs.all id)) H
theorem Zq0:∀{bs:List Bool} {us:List Ae},Vals (bs.map V.bl) us→us=bs.map N6
 | [],_,r=>by cases r; rfl
 | b::bs,_,r=>by
  cases r with
  | cons r rr=>
   cases r
   rw[Zq0 rr];rfl
theorem ZBp (bs:List Bool):(Im bs.length).all (fun i=>bs.getD i false)=bs.all id:=by
 apply VL.mpr;rw[GK,GK]
 constructor
 ·intro h x hx
  obtain⟨i,hi,rfl⟩:=Yca.mp hx;have:=h i (N8.mpr hi);rw[Gd,Dr hi]at this;exact this
 ·intro h i hi
  have hi:=N8.mp hi;rw[Gd,Dr hi];exact h _ (jf hi)
theorem ZwR {prog:Bp} {w:Bg} {A:Cu} (bs:List Bool):TruthOf prog w A (fun i v=>(bs.map N6).toArray[i]?=some v) (fun i=>bs.getD i false):=by
 intro i v s Q E hP hQ;rw[List.getElem?_toArray,El]at hP
 cases e:bs[i]? with
 | none=>rw[e]at hP; cases hP
 | some b=>
  rw[e]at hP
  cases hP
  simp only [Gd,e]at hQ;exact VG hQ
theorem ZzB (hc:X.calm=true):Gy X (.builtin "all") (rAll X.K):=by
 intro pins s σ H xs us Q I r h;obtain⟨p,bs,rfl,hq,q⟩:=h;obtain⟨u,rfl,rx⟩:=Li r
 cases rx
 obtain⟨its,rv,pl,hz⟩:=I.list hq;have e:=Zq0 rv;subst e
 have hpl:p < s.heap.objs.size:=by obtain⟨o,ho,_⟩:=pl.isList; exact CQ ho
 have W:=Walks.list (prog:=X.prog) (w:=X.w) (A:=X.A.in1) (I.ok.hd hc) s.heap.objs.size p (DQ hpl) (bs.map N6).toArray;refine call_all_walk (YbT pl.isList ⟨s.heap.objs.size,_,_,_,_,_,_,rfl,W,⟨⟨_,FZ _ rfl,rfl,rfl⟩,pl.isList.push _⟩,ZwR bs,fun h' tk k=>?_⟩);rw[Du,Ax,ZBp];refine⟨.bl (bs.all id),H,I.kept (t':=tk) (fun b o z=>k b o ?_ (Ek _ z)),rfl,q⟩;exact fun hm=>absurd (CQ z) (by rw[Ck.mp hm]; exact N7 _)
end
section
variable {σ:St} {H:Hp} {Q:VK} {D:Ends} {K:Ao} {g:TG} {tb:TS}
def ug (sq:Hp→Prop) (xs:List V) (g:TG) (tb:TS) (D:Ends) (σ:St) (H:Hp):Prop:=
 ∃W:Nat→Nat→St→Hp→Prop,(∃m,W 0 m σ H)∧∀i m σ H,W i m σ H→
   ((Ite sq xs).stop i H∧D.nx σ H)∨((Ite sq xs).go i H∧∃N:St→Hp→Prop,(∀σ' H',N σ' H'→∃m',m' < m∧W (i+1) m' σ' H')∧∀x H',(Ite sq xs).yld i H x H'→g x σ H' fun σ2 H2=>tb { D with nx:=N,ct:=N,bk:=D.nx } σ2 H2)
def SeqE (K:Ao) (x:V) (g:TG) (tb:TS) (D:Ends) (σ:St) (H1:Hp):Prop:=(∃a xs,x=.ref a∧SqL K H1 a xs∧ug (fun H=>SqL K H a xs) xs g tb D σ H1)∨(∃a xs,x=.ref a∧SqT K H1 a xs∧ug (fun H=>SqT K H a xs) xs g tb D σ H1)
theorem ZD6 {tl:TE} (h:tl σ H fun x H1=>SeqE K x g tb D σ H1):tFor (ZHz K tl) g tb D σ H:=h
theorem ZIh {sq:Hp→Prop} {xs:List V} (Pv:Nat→St→Hp→Prop) (h0:Pv 0 σ H) (hl:∀i σ H,i≤xs.length→Pv i σ H→sq H)
  (hs:∀(i:Nat) (v:V) (T:Ab) σ H H',xs[i]?=some v→Pv i σ H→Same H H'→H T=none→H' T=some (.tup [.int (i:Int),v])→g (.ref T) σ H' fun σ2 H2=>tb { D with nx:=Pv (i+1),ct:=Pv (i+1),bk:=D.nx } σ2 H2) (hd:∀σ H,Pv xs.length σ H→D.nx σ H):ug sq xs g tb D σ H:=by
 refine⟨fun i m σ H=>m=xs.length - i∧i≤xs.length∧Pv i σ H,⟨xs.length,by simp,De _,h0⟩,?_⟩;rintro i m σ H ⟨rfl,hi,p⟩
 by_cases hlt:i < xs.length
 ·refine .inr ⟨⟨hlt,hl i σ H hi p⟩,Pv (i+1),fun σ' H' p'=>⟨xs.length - (i+1),by omega,rfl,hlt,p'⟩,fun x H' y=>?_⟩
  obtain⟨T,v,hv,hT,rfl,rfl⟩:=y;exact hs i v T σ H _ hv p (HJ hT _) hT Cm
 ·have e:i=xs.length:=by omega
  subst e;exact .inl ⟨⟨rfl,hl _ σ H hi p⟩,hd σ H p⟩
theorem ZJ7 {a:Ab} {xs:List V} (Pv:Nat→St→Hp→Prop) (h0:Pv 0 σ H) (hl:∀i σ H,i≤xs.length→Pv i σ H→SqL K H a xs)
  (hs:∀(i:Nat) (v:V) (T:Ab) σ H H',xs[i]?=some v→Pv i σ H→Same H H'→H T=none→H' T=some (.tup [.int (i:Int),v])→g (.ref T) σ H' fun σ2 H2=>tb { D with nx:=Pv (i+1),ct:=Pv (i+1),bk:=D.nx } σ2 H2) (hd:∀σ H,Pv xs.length σ H→D.nx σ H):SeqE K (.ref a) g tb D σ H:=.inl ⟨a,xs,rfl,hl 0 σ H (De _) h0,ZIh Pv h0 hl hs hd⟩
theorem ZJ8 {a:Ab} {xs:List V} (Pv:Nat→St→Hp→Prop) (h0:Pv 0 σ H) (hl:∀i σ H,i≤xs.length→Pv i σ H→SqT K H a xs)
  (hs:∀(i:Nat) (v:V) (T:Ab) σ H H',xs[i]?=some v→Pv i σ H→Same H H'→H T=none→H' T=some (.tup [.int (i:Int),v])→g (.ref T) σ H' fun σ2 H2=>tb { D with nx:=Pv (i+1),ct:=Pv (i+1),bk:=D.nx } σ2 H2) (hd:∀σ H,Pv xs.length σ H→D.nx σ H):SeqE K (.ref a) g tb D σ H:=.inr ⟨a,xs,rfl,hl 0 σ H (De _) h0,ZIh Pv h0 hl hs hd⟩
theorem Jb {T:Ab} {x y:V} {i j:Nat} {R:St→Hp→Prop} (e:H T=some (.tup [x,y])) (h:R ((σ.set i (some x)).set j (some y)) H):gTup K 2 (lq (Ir i) (lq (Ir j) gNil)) (.ref T) σ H R:=
 ⟨T,[x,y],rfl,SqT.of e,rfl,x,[y],rfl,y,[],rfl,rfl,h⟩
theorem ZEl {i:Int} {R:Bool→Prop} (h:R (!decide (i=0))):∃k,TruV K (.int i) H k∧R k:=⟨_,rfl,h⟩
theorem Zz3 {r r':R2} {ta tb tc:TE} (h:ta σ H fun x H1=>tb σ H1 fun y H2=>r x y H2 fun z H3=>∃k,z=.bl k∧(if k=true then tc σ H3 fun w' H4=>r' y w' H4 Q else Q (.bl false) H3)):ZEN r r' ta tb tc σ H Q:=h
theorem ZJR {p:Ab} {bs:List Bool} (h:SqL K H p (bs.map V.bl)) (q:Q (.bl (bs.all id)) H):rAll K [.ref p] H Q:=⟨p,bs,rfl,h,q⟩
end
end L2
namespace L2
open PySem PySem.Spec PyProof.Rows
noncomputable def Itz (K:Ao) (a b:Ab) (xs ys:List V):It:=⟨fun i H=>(i < xs.length∧i < ys.length)∧SqL K H a xs∧SqL K H b ys,
 fun i H x H'=>∃T v u,xs[i]?=some v∧ys[i]?=some u∧H T=none∧x=.ref T∧H'=upd H T (.tup [v,u]),fun i H=>(xs.length≤i∨ys.length≤i)∧SqL K H a xs∧SqL K H b ys⟩
theorem Gz {h:Aq} {a b:Ab} {o o':Obj} (e:h.get? a=some o) (e':h.get? b=some o') (n:o.cls≠o'.cls):a≠b:=fun z=>by
 rw[z,e']at e
 cases e
 exact n rfl
theorem GD {m n:String} (h:m≠n):Jg m≠Jg n:=fun e=>h (by injection e)
theorem ZDL {P:Bp} {w:Bg} {K:Ao} {elts:List Aw} {kk:Nat} {ps:Pos} {a b z TI TO i1 i2:Ab} {xs ys:List V} (d1:TI≠z) (d2:TO≠z) (d3:i1≠z) (d4:i2≠z) (d5:TI≠TO) (d6:TI≠i1) (d7:TI≠i2) (d8:TO≠i1) (d9:TO≠i2) (d10:i1≠i2) :
  Turn P w K (.Tuple elts kk ps) (Itz K a b xs ys) [z,TI,TO,i1,i2] z (fun i h=>IsZip h z TI TO .none∧IsPair h TI (.ref i1) (.ref i2)∧(∃u v,IsPair h TO u v)∧h.IsListIter i1 a i∧h.IsListIter i2 b i) where
 mem:=by simp
 obj:=fun i h st c hc=>by
  obtain⟨hz,hTI,⟨u,v,hTO⟩,⟨o1,e1,_,g1⟩,⟨o2,e2,_,g2⟩⟩:=st;simp at hc
  rcases hc with rfl | rfl | rfl | rfl | rfl
  ·exact⟨_,hz,fun v z=>by cases z⟩
  ·exact⟨_,hTI,fun v z=>by cases z⟩
  ·exact⟨_,hTO,fun v z=>by cases z⟩
  ·exact⟨_,e1,fun v z=>by rw[g1]at z; cases z⟩
  ·exact⟨_,e2,fun v z=>by rw[g2]at z; cases z⟩
 keep:=fun i h h' st k=>by
  obtain⟨hz,hTI,⟨u,v,hTO⟩,h1,h2⟩:=st;exact⟨k z (by simp) _ hz,k TI (by simp) _ hTI,⟨u,v,k TO (by simp) _ hTO⟩,h1.at fun o e=>k i1 (by simp) o e,h2.at fun o e=>k i2 (by simp) o e⟩
 item:=by
  intro X hP hw hK hc i pins s σ H E I hf st hg;subst hP hw hK;obtain⟨hz,hTI,⟨u0,v0,hTO⟩,h1,h2⟩:=st;obtain⟨⟨hi1,hi2⟩,hq1,hq2⟩:=hg;obtain⟨its,rv,pl,hzz⟩:=I.list hq1;obtain⟨jts,rw',pm,hzw⟩:=I.list hq2;obtain⟨x,hx⟩ : ∃v,xs[i]?=some v:=⟨xs[i]'hi1,Dr hi1⟩;obtain⟨y,hy⟩ : ∃v,ys[i]?=some v:=⟨ys[i]'hi2,Dr hi2⟩;obtain⟨u,hu,ru⟩:=rv.get hx;obtain⟨v,hv,rvv⟩:=rw'.get hy;obtain⟨oa,ea,ca,_⟩:=id pl.isList;obtain⟨ob,eb,cb,_⟩:=id pm.isList;obtain⟨o1,e1,c1,_⟩:=id h1;obtain⟨o2,e2,c2,_⟩:=id h2
  have D:ZipApart z TI TO i1 i2 a b:=⟨d1,d2,d3,d4,d5,d6,d7,d8,d9,d10,Gz ea hz (by rw[ca]; exact GD (m:="list") (n:="zip") (by decide)),Gz ea hTO (by rw[ca]; exact GD (m:="list") (n:="tuple") (by decide)),Gz ea e1 (by rw[ca,c1]; exact GD (m:="list") (n:="list_iterator") (by decide)),Gz ea e2 (by rw[ca,c2]; exact GD (m:="list") (n:="list_iterator") (by decide)),
   Gz eb hz (by rw[cb]; exact GD (m:="list") (n:="zip") (by decide)),Gz eb hTO (by rw[cb]; exact GD (m:="list") (n:="tuple") (by decide)),Gz eb e1 (by rw[cb,c1]; exact GD (m:="list") (n:="list_iterator") (by decide)),Gz eb e2 (by rw[cb,c2]; exact GD (m:="list") (n:="list_iterator") (by decide))⟩
  refine wpAny_pyNext_zip_item D hz hTI hTO h1 h2 pl.isList pm.isList (x:=u) (y:=v) (by simpa using hu) (by simpa using hv) fun h' q1 q2 q3 q4 q5 q6 hk=>?_;refine⟨_,rfl,wpAny_letOwnedTupleGo_zip q1 fun h2' hz' hs'=>?_⟩
  have lts:∀c∈[z,TI,TO,i1,i2],c≠s.heap.objs.size:=fun c hc=>by
   simp at hc
   rcases hc with rfl | rfl | rfl | rfl | rfl
   ·exact DQ (CQ hz)
   ·exact DQ (CQ hTI)
   ·exact DQ (CQ hTO)
   ·exact DQ (CQ e1)
   ·exact DQ (CQ e2)
  have hzT:s.heap.objs.size≠z:=(lts z (by simp)).symm
  have I2:Inv X pins σ (upd H s.heap.objs.size (.tup [x,y])) { s with heap:=h2' }:=I.pairTurn (t':=s.toks) (ch:=[z,TI,TO,i1,i2]) ru rvv hf lts (fun c o hc e=>by
   have n1:c≠z:=fun q=>hc (by simp[q])
   exact hs'.extBut _ _ n1 (hk c o n1 (fun q=>hc (by simp[q])) (fun q=>hc (by simp[q])) (fun q=>hc (by simp[q])) e)) (hs'.extBut _ _ hzT q5)
  refine⟨.ref s.heap.objs.size,_,I2,rfl,⟨_,x,y,hx,hy,I.hok.fresh (Bv _),rfl,rfl⟩,⟨hz',hs'.extBut _ _ d1 (hk _ _ d1 d5 d6 d7 hTI),⟨_,_,hs'.extBut _ _ d2 q2⟩,q3.extBut hs'.extBut d3,q4.extBut hs'.extBut d4⟩,fun c hc=>?_⟩;rw[Cd (lts c hc)];exact(hf c hc).1
 done:=by
  intro X hP hw hK hc i pins s σ H E I hf st hg;subst hP hw hK;obtain⟨hz,hTI,⟨u0,v0,hTO⟩,h1,h2⟩:=st;obtain⟨hend,hq1,hq2⟩:=hg;obtain⟨its,rv,pl,hzz⟩:=I.list hq1;obtain⟨jts,rw',pm,hzw⟩:=I.list hq2;obtain⟨oa,ea,ca,_⟩:=id pl.isList;obtain⟨ob,eb,cb,_⟩:=id pm.isList;obtain⟨o1,e1,c1,_⟩:=id h1;obtain⟨o2,e2,c2,_⟩:=id h2;have l1:=rv.length;have l2:=rw'.length
  have D:ZipApart z TI TO i1 i2 a b:=⟨d1,d2,d3,d4,d5,d6,d7,d8,d9,d10,Gz ea hz (by rw[ca]; exact GD (m:="list") (n:="zip") (by decide)),Gz ea hTO (by rw[ca]; exact GD (m:="list") (n:="tuple") (by decide)),Gz ea e1 (by rw[ca,c1]; exact GD (m:="list") (n:="list_iterator") (by decide)),Gz ea e2 (by rw[ca,c2]; exact GD (m:="list") (n:="list_iterator") (by decide)),
   Gz eb hz (by rw[cb]; exact GD (m:="list") (n:="zip") (by decide)),Gz eb hTO (by rw[cb]; exact GD (m:="list") (n:="tuple") (by decide)),Gz eb e1 (by rw[cb,c1]; exact GD (m:="list") (n:="list_iterator") (by decide)),Gz eb e2 (by rw[cb,c2]; exact GD (m:="list") (n:="list_iterator") (by decide))⟩
  refine wpAny_pyNext_zip_end (I.ok.hd hc) D hz hTI hTO h1 h2 pl.isList pm.isList (hend.imp (fun q=>by simp; omega) fun q=>by simp; omega) fun h' hk=>⟨rfl,?_⟩;exact I.turnedL (t':=s.toks) (ch:=[z,TI,TO,i1,i2]) (fun c o hc e=>hk c o (fun q=>hc (by simp[q])) (fun q=>hc (by simp[q])) (fun q=>hc (by simp[q])) (fun q=>hc (by simp[q])) e) hf
 self:=fun _ _ _ _ _ st h=>Ycb st.1 h
section
variable {X:Cx}
noncomputable def iZip (K:Ao) (ta:TA):TI:=fun σ H R=>ta σ H fun vs H1=>∃a b xs ys,vs=[.ref a,.ref b]∧SqL K H1 a xs∧SqL K H1 b ys∧R (Itz K a b xs ys) H1
theorem ZIM {elts:List Aw} {kk:Nat} {ps:Pos} {a b:Aw} {ta:TA} {p pos:Pos} (hg:Gl X "zip") (hm:X.mg "zip" = none) (ha:PA X [a,b] ta) (hs:BX [a,b] X.env=[(false,eval a X.env),(false,eval b X.env)]:=by rfl) (hs2:BX [b] X.env=[(false,eval b X.env)]:=by rfl) :
  PI X (.Tuple elts kk ps) (.Call (.Name "zip" p) [a,b] [] pos) (iZip X.K ta):=by
 intro pins s σ H R I h;refine Call_ (Lf I hg hm ZHm (VJ (thn (ha pos pins s σ H _ I h) fun us s1 ⟨vs,H1,I1,r1,q1⟩=>?_) (by rw[hs,hs2]) (by rw[hs2]; rfl)));obtain⟨a1,b1,xs,ys,rfl,hq1,hq2,q⟩:=q1
 cases r1 with
 | cons r rr=>
  cases rr with
  | cons r' rr=>
   cases rr
   cases r
   cases r'
   obtain⟨its,rv,pl,hzz⟩:=I1.list hq1;obtain⟨jts,rw',pm,hzw⟩:=I1.list hq2;refine call_zip_2 pl.isList pm.isList fun h' hz hTI hTO h1 h2 hsz hk=>?_;refine Ycb hz ⟨_,_,_,_,H1,rfl,I1.kept (t':=s1.toks) hk,ZDL (i1:=s1.heap.objs.size) (i2:=s1.heap.objs.size+1) (TI:=s1.heap.objs.size+2) (TO:=s1.heap.objs.size+3) (z:=s1.heap.objs.size+4) (a:=a1) (b:=b1) (xs:=xs) (ys:=ys) (by simp) (by simp) (by simp) (by simp) (by simp) (by simp) (by simp) (by simp) (by simp) (by simp),⟨hz,hTI,⟨_,_,hTO⟩,h1,h2⟩,fun c hc=>?_,q⟩
   have le:s1.heap.objs.size≤c:=by
    simp at hc
    rcases hc with rfl | rfl | rfl | rfl | rfl <;> simp
   exact I1.fpOk le (I1.hok.fresh le)
end
section
open PySem.SeqAt
open PySem.AutoSeq1 (wpAny_loadPart')
open PySem.MeetsSeq PySem.MeetsSeq2 PySem.MeetsSeq3
end
def ZJI (i j:Int):Prop:=0 < j∧j≤18446744073709551616
theorem Eo {X:Cx}:OpR X (binaryOp .FloorDiv) (rI ZJI fun i j=>.int (i / j)):=opI fun i j _ _ _ _ _ hc q=>by
 have h1:(0:Int) < j:=hc.1;have h2:j≤18446744073709551616:=hc.2;refine floordiv_int (by omega) (by rw[Ybq i (by omega)]; exact q) (.inl (PyProof.noPylong_of_log2 ?_));have h3:j.natAbs.log2 < 65:=(Nat.log2_lt (by omega)).mpr (by omega);omega
section
variable {σ:St} {H:Hp} {Q:VK} {D:Ends} {K:Ao} {g:TG} {tb:TS}
def ZG6 (K:Ao) (a b:Ab) (xs ys:List V) (g:TG) (tb:TS) (D:Ends) (σ:St) (H:Hp):Prop:=
 ∃W:Nat→Nat→St→Hp→Prop,(∃m,W 0 m σ H)∧∀i m σ H,W i m σ H→
   ((Itz K a b xs ys).stop i H∧D.nx σ H)∨((Itz K a b xs ys).go i H∧∃N:St→Hp→Prop,(∀σ' H',N σ' H'→∃m',m' < m∧W (i+1) m' σ' H')∧∀x H',(Itz K a b xs ys).yld i H x H'→g x σ H' fun σ2 H2=>tb { D with nx:=N,ct:=N,bk:=D.nx } σ2 H2)
theorem ZD8 {ta:TA} (h:ta σ H fun vs H1=>∃a b xs ys,vs=[.ref a,.ref b]∧SqL K H1 a xs∧SqL K H1 b ys∧ZG6 K a b xs ys g tb D σ H1):tFor (iZip K ta) g tb D σ H:=h
theorem ZJ0 {a b:Ab} {xs ys:List V} (n:Nat) (hn:n=min xs.length ys.length) (Pv:Nat→St→Hp→Prop) (h0:Pv 0 σ H) (hl:∀i σ H,i≤n→Pv i σ H→SqL K H a xs∧SqL K H b ys)
  (hs:∀(i:Nat) (v u:V) (T:Ab) σ H H',xs[i]?=some v→ys[i]?=some u→Pv i σ H→Same H H'→H T=none→H' T=some (.tup [v,u])→g (.ref T) σ H' fun σ2 H2=>tb { D with nx:=Pv (i+1),ct:=Pv (i+1),bk:=D.nx } σ2 H2) (hd:∀σ H,Pv n σ H→D.nx σ H):ZG6 K a b xs ys g tb D σ H:=by
 refine⟨fun i m σ H=>m=n - i∧i≤n∧Pv i σ H,⟨n,by simp,De _,h0⟩,?_⟩;rintro i m σ H ⟨rfl,hi,p⟩
 by_cases hlt:i < n
 ·refine .inr ⟨⟨⟨by omega,by omega⟩,hl i σ H hi p⟩,Pv (i+1),fun σ' H' p'=>⟨n - (i+1),by omega,rfl,hlt,p'⟩,fun x H' y=>?_⟩
  obtain⟨T,v,u,hv,hu,hT,rfl,rfl⟩:=y;exact hs i v u T σ H _ hv hu p (HJ hT _) hT Cm
 ·have e:i=n:=by omega
  subst e;exact .inl ⟨⟨by omega,hl _ σ H hi p⟩,hd σ H p⟩
end
end L2
namespace PySem
open Sem (wp)
theorem Obj.dict_mapFields (o:Obj) (f:Array Ae→Array Ae):(Kq f o).dict=o.dict:=by unfold Kq; split <;> rfl
noncomputable def U0 (l:List Env):List Ab:=l.filterMap (·.frame)
def Heap.Tr (h:Aq) (e:Ab) (cls:Ae) (T:Ab):Prop:=∃oe vs oT ts,h.get? e=some oe∧oe.cls=cls∧oe.dict=none∧oe.data=.fields vs∧vs[1]?=some (.ref T)∧T≠e∧h.get? T=some oT∧oT.data=.fields ts∧ts[3]?=some .none
structure Heap.Gone (fs own:List Ab) (h h':Aq):Prop where
 kept:∀b o,b∉fs→b∉own→h.get? b=some o→h'.get? b=some o
 slot:∀b o,b∈fs→b∉own→h.get? b=some o→∃sl,h'.get? b=some { o with slots:=sl }
section
variable {M:Oa} {A:Cu} {E:Ae→Ak→Prop} {s:Ak}
theorem Zpd {base:Aq} {env:Env} {outer:List Env} {L e:Ab} {oe:Obj} {vs:Array Ae} {head:Ae} {nx:Bool} {Q:Unit→Ak→Prop} (hfr:A.frames=some (env::outer)) (hl:s.heap.FunFrames base (env::outer)) (hf:env.frame=some L)
  (he:s.heap.get? e=some oe) (hdi:oe.dict=none) (hd:oe.data=.fields vs) (hsz:1 < vs.size)
  (q:∀h' T,Heap.Gone (U0 (env::outer)) [e] s.heap h'→s.heap.get? T=none→s.heap.objs.size≤T→h'.Tr e oe.cls T→Q () { s with heap:=h' }) :
  Bb M A (do let a ←frameOf env; let pl ←entryPlaceOf L nx; let b ←Ycc head a .none (rawInt L) .none pl; setField (.ref e) 1 b) (fun _ s'=>Bb M A (setFlight (.ref e) none) Q E s') E s:=by
 have hene:e∉U0 (env::outer):=fun hm=>by
  obtain⟨_,o,ho,hnf⟩:=hl.mem hm
  rw[he]at ho; injection ho with ho; subst ho; exact hnf vs hd
 refine BP (wpAny_frameOf_fun hfr hl hf fun h₁ hs₁=>?_);refine BP (wpAny_entryPlaceOf fun pl hpl=>?_);unfold Ycc newFields;refine BP (K8 ?_ (hpl.sizeOk5 _ _ _ _ _));have he₁:h₁.get? e=some oe:=(hs₁.2.1 e hene).trans he;generalize hrec:({ cls:=.type "traceback",dict:=none,data:=.fields ([head,.ref L,.none,rawInt L,.none]++(if pl.isEmpty then JL 6 Gm else pl)).toArray }:Obj)=rec
 have hfree:rec.isFreed=false:=by subst hrec; rfl
 have hrd:rec.data=.fields ([head,.ref L,.none,rawInt L,.none]++(if pl.isEmpty then JL 6 Gm else pl)).toArray:=by subst hrec; rfl
 have he₂:=Ek (h:=h₁) rec he₁;refine Wb he₂ hd hsz ?_;have hTe:h₁.objs.size≠e:=Od (CQ he₁);have hd₃:=Wc hd (·.setIfInBounds 1 (Do h₁.objs.size));have he₃:=gf (Kq (·.setIfInBounds 1 (Do h₁.objs.size))) he₂ (YaR hd₃);have hT₃:=(Oi (h₁.push rec) (Kq (·.setIfInBounds 1 (Do h₁.objs.size))) (Gs hTe)).trans (FZ h₁ hfree);unfold setFlight;refine BP (Jl he₃ hd₃ (x:=.ref h₁.objs.size) (by simp[hsz]) ?_);rw[if_pos (show(Do h₁.objs.size != Gm)=true from by simp)];refine Wb hT₃ hrd (by simp only [Du,CZ,CT,Gw] <;> omega) ?_
 have keep:∀b o,b≠e→h₁.get? b=some o→(((h₁.push rec).update e (Kq (·.setIfInBounds 1 (Do h₁.objs.size)))).update h₁.objs.size (Kq (·.setIfInBounds 3 ((none:Option Ab).elim Gm fun f=>rawInt f)))).get? b=some o:=fun b o hbe hb=>by
  have hbT:h₁.objs.size≠b:=Od (CQ hb);rw[Oi _ _ hbT,Oi _ _ (Gs hbe)];exact Ek _ hb
 refine q _ h₁.objs.size ⟨fun b o hb ho e'=>?_,fun b o hb ho e'=>?_⟩ (Yaf (by rw[hs₁.1]; exact Bv _)) (by rw[hs₁.1]; exact Bv _) ?_
 ·exact keep b o (fun z=>ho (by rw[z]; exact Ck.mpr rfl)) ((hs₁.2.1 b hb).trans e')
 ·obtain⟨sl,e2⟩:=hs₁.2.2 b o e'
  exact⟨sl,keep b _ (fun z=>ho (by rw[z]; exact Ck.mpr rfl)) e2⟩
 ·refine⟨_,_,_,_,?_,Yb8 _ _,(Obj.dict_mapFields _ _).trans hdi,hd₃,by simp[hsz],hTe,gf _ hT₃ (YaR (Wc hrd _)),Wc hrd _,by first | (simp; done) | (rcases hpl with rfl | ⟨_,_,_,_,_,_,_,rfl⟩ <;> simp)⟩
  rw[Oi _ _ hTe]; exact he₃
theorem Zwi {base:Aq} {env:Env} {outer:List Env} {L e:Ab} {oe:Obj} {vs:Array Ae} {Q:Unit→Ak→Prop} (hfr:A.frames=some (env::outer)) (hl:s.heap.FunFrames base (env::outer)) (hf:env.frame=some L)
  (he:s.heap.get? e=some oe) (hdi:oe.dict=none) (hd:oe.data=.fields vs) (h1:vs[1]?=some .none)
  (q:∀h' T,Heap.Gone (U0 (env::outer)) [e] s.heap h'→s.heap.get? T=none→s.heap.objs.size≤T→h'.Tr e oe.cls T→Q () { s with heap:=h' }):Bb M A (leaving env (.ref e)) Q E s:=by
 unfold leaving noteFrame;simp only [hf];refine BP (BP (Jl he hd h1 ?_));rw[if_neg (by decide)];exact Zpd hfr hl hf he hdi hd (jg.mp h1).1 q
theorem ZAQ {base:Aq} {env:Env} {outer:List Env} {L e T:Ab} {cls:Ae} {Q:Unit→Ak→Prop} (hfr:A.frames=some (env::outer)) (hl:s.heap.FunFrames base (env::outer)) (hf:env.frame=some L) (ht:s.heap.Tr e cls T)
  (q:∀h' T',Heap.Gone (U0 (env::outer)) [e,T] s.heap h'→s.heap.get? T'=none→s.heap.objs.size≤T'→h'.Tr e cls T'→Q () { s with heap:=h' }):Bb M A (noteFrame (.ref e) env) (fun _ s'=>Bb M A (setFlight (.ref e) none) Q E s') E s:=by
 obtain⟨oe,vs,oT,ts,he,hcls,hdi,hd,h1,hTe,hT,hdT,h3⟩:=ht;subst hcls;unfold noteFrame;simp only [hf];refine BP (Jl he hd h1 ?_);rw[if_pos (show(Do T != Gm)=true from by simp)];refine BP (Jl hT hdT h3 ?_);rw[if_neg (show ¬((Gm == rawInt L)=true) from by simp[rawInt])];refine BP (Wb hT hdT (jg.mp h3).1 ?_);have other:∀b,b≠T→(s.heap.update T (Kq (·.setIfInBounds 3 Gm))).get? b=s.heap.get? b:=fun b hb=>Oi _ _ (Gs hb)
 have noRec:∀b o,s.heap.get? b=some o→(∀vs,o.data≠.fields vs)→b≠T:=fun b o hb hnf z=>by
  rw[z,hT]at hb; injection hb with hb; subst hb; exact hnf ts hdT
 have hsz:(s.heap.update T (Kq (·.setIfInBounds 3 Gm))).objs.size=s.heap.objs.size:=Aq.size_after_update ..;refine Zpd (s:={ s with heap:=s.heap.update T (Kq (·.setIfInBounds 3 Gm)) }) hfr (hl.of_keeps fun b o hb hnf=>⟨o,(other b (noRec b o hb hnf)).trans hb,rfl⟩) hf ((other e (Gs hTe)).trans he) hdi hd (jg.mp h1).1 fun h' T' g n le tr=>?_
 have le':s.heap.objs.size≤T':=by rw[←hsz]; exact le
 refine q h' T' ⟨fun b o hb ho e'=>?_,fun b o hb ho e'=>?_⟩ (Yaf le') le' tr
 ·have hbT:b≠T:=fun z=>ho (by simp[z])
  exact g.kept b o hb (fun z=>ho (by simp[Ck.mp z])) ((other b hbT).trans e')
 ·have hbT:b≠T:=fun z=>ho (by simp[z])
  exact g.slot b o hb (fun z=>ho (by simp[Ck.mp z])) ((other b hbT).trans e')
theorem ZyH {base:Aq} {env:Env} {outer:List Env} {L e T:Ab} {cls:Ae} {Q:Unit→Ak→Prop} (hfr:A.frames=some (env::outer)) (hl:s.heap.FunFrames base (env::outer)) (hf:env.frame=some L) (ht:s.heap.Tr e cls T)
  (q:∀h' T',Heap.Gone (U0 (env::outer)) [e,T] s.heap h'→s.heap.get? T'=none→s.heap.objs.size≤T'→h'.Tr e cls T'→Q () { s with heap:=h' }):Bb M A (leaving env (.ref e)) Q E s:=by
 unfold leaving;exact BP (ZAQ hfr hl hf ht q)
end
end PySem
namespace L2
open PySem PySem.Spec PyProof.Rows
section
variable {P:Bp} {w:Bg} {H H':Hp} {h h' h1 h2:Aq} {a:Ab} {o:HO} {fs own:List Ab}
theorem DG.at (x:DG P w H h a o):∃u,h.get? a=some u:=by
 cases o with
 | lst xs=>obtain⟨_,_,_,_,e⟩:=x; exact⟨_,e⟩
 | tup xs=>obtain⟨_,_,_,⟨_,e,_⟩⟩:=x; exact⟨_,e⟩
 | dK kvs=>obtain⟨_,_,_,_,o,_,_,e,_⟩:=x; exact⟨_,e⟩
 | dT kvs=>obtain⟨_,_,_,_,o,_,_,e,_⟩:=x; exact⟨_,e⟩
 | set S n=>obtain⟨o,_,_,_,e,_⟩:=x; exact⟨_,e⟩
 | ins C dx fs=>obtain⟨_,_,_,e,_⟩:=x; exact⟨_,e⟩
 | own y=>obtain⟨_,e⟩:=x; exact⟨_,e⟩
 | xd fs=>obtain⟨_,⟨_,_,_,e,_⟩,_⟩:=x; exact⟨_,e⟩
 | rng lo hi=>obtain⟨_,_,_,e⟩:=x; exact⟨_,e⟩
 | frz ob u=>obtain⟨e,_⟩:=x; exact⟨_,e⟩
 | tbl ps=>exact⟨_,(show h.get? a=some _ from x)⟩
 | met f y=>exact⟨_,(show h.get? a=some _ from x)⟩
 | ext φ=>obtain⟨_,⟨_,e⟩,_⟩:=x; exact⟨_,e⟩
theorem HOk.out (x:HOk P w H h) (e:h.get? a=none):H a=none:=by
 cases q:H a with
 | none=>rfl
 | some u=>obtain⟨v,z⟩:=DG.at (x a u q); rw[e]at z; cases z
theorem ZzZ (u:Un fs [] H H' h h1) (g:Heap.Gone fs own h1 h2) (hn:∀b∈own,h.get? b=none):Un fs [] H H' h h2:=by
 have no:∀b o,h.get? b=some o→b∉own:=fun b o e z=>by rw[hn b z]at e; cases e
 refine⟨fun b o e n hf hx=>g.kept b o hf (no b o e) (u.keep b o e n hf hx),fun b o e n hf hx=>?_,u.free,fun b o e hx=>?_,u.tups,u.frzs,u.tbls⟩
 ·obtain⟨sl,q⟩:=u.slot b o e n hf hx
  obtain⟨sl',q'⟩:=g.slot b _ hf (no b o e) q;exact⟨sl',q'⟩
 ·obtain⟨o',q⟩:=u.there b o e hx
  by_cases hf:b∈fs
  ·obtain⟨sl',q'⟩:=g.slot b _ hf (no b o e) q
   exact⟨_,q'⟩
  ·exact⟨_,g.kept b _ hf (no b o e) q⟩
theorem Zw9 (x:HOk P w H h) (g:Heap.Gone fs own h h2) (hf:∀b∈fs,H b=none) (ho:∀b∈own,H b=none):HOk P w H h2:=fun b u e=>by
 refine(x b u e).stay (fun c v hc q=>?_) (fun _ q=>q) fun _ _ q=>q
 have hs:∃z,H c=some z:=by
  rcases hc with z | z
  ·rw[z]; exact⟨_,e⟩
  ·exact⟨_,z⟩
 obtain⟨z,hz⟩:=hs;exact g.kept c v (fun m=>by rw[hf c m]at hz; cases hz) (fun m=>by rw[ho c m]at hz; cases hz) q
end
noncomputable def CX1 (P:Bp) (w:Bg):CXT:=fun outer H s E e s'=>∃ea T C H',e=.ref ea∧s'.os=s.os∧JH s'.gens∧Un (frs outer) [] H H' s.heap s'.heap∧HOk P w H' s'.heap∧H' ea=none∧H' T=none∧
 s.heap.get? ea=none∧s.heap.get? T=none∧s'.heap.Tr ea (.ref C) T∧E (.ref C) none H'
def Lets (X:Cx) (E:XK):Prop:=∀(pins:List (Ab×Obj)) (σ:St) (H:Hp) (s:Ak) (h':Aq) (e C:Ab) (args:List Ae),Inv X pins σ H s→Aq.MadeExcOf s.heap h' e (.ref C) args→E (.ref C) none H→X.xe (.ref e) { s with heap:=h' }
section
variable {P:Bp} {w:Bg} {K:Ao} {mg:Str→Option Ae} {base:Aq} {N:List Str} {qual:Str} {scope:Gn} {f:Ab} {cd:Ae} {A:Cu} {outer:List Env} {s:Ak} {H:Hp} {E:XK}
theorem uh:Lets (cxOf (CX1 P w) P w K mg base N qual scope f cd A outer s H E) E:=by
 intro pins σ H1 s1 h' e C args I hm hE;obtain⟨t,ho,_,_⟩:=hm.there;have I1:Inv (cxOf (CX1 P w) P w K mg base N qual scope f cd A outer s H E) pins σ H1 { s1 with heap:=h' }:=I.kept (t':=s1.toks) hm.keeps;show Bb _ _ (leaving _ _) _ _ _;refine Zwi (s:={ s1 with heap:=h' }) I.ok.frames I1.stack rfl ho rfl rfl (by simp) fun h2 T g nT _ tr=>?_;have He:H1 e=none:=I.hok.out hm.new;have HT:H1 T=none:=I1.hok.out nT;have un:Un (frs (cxOf (CX1 P w) P w K mg base N qual scope f cd A outer s H E).stack) [] H1 H1 s1.heap h2:=ZzZ (Un.kept hm.keeps) g (fun b hb=>by rw[Ck.mp hb]; exact hm.new);have hk:HOk P w H1 h2:=Zw9 I1.hok g I1.stkFree (fun b hb=>by rw[Ck.mp hb]; exact He);have I2:Inv (cxOf (CX1 P w) P w K mg base N qual scope f cd A outer s H E) pins σ H1 { s1 with heap:=h2 }:=I.call (g':=s1.gens) (t':=s1.toks) (d':=s1.drawn) (ch:=[]) un hk I.bare (fun b z=>absurd z (by simp))
 have back:∀b,s1.heap.get? b=none→s.heap.get? b=none:=fun b hb=>by
  cases q:s.heap.get? b with
  | none=>rfl
  | some o=>
   obtain⟨o',z⟩:=I.base.there b o q (by show b∉[]; simp);rw[hb]at z; cases z
 have nT1:s1.heap.get? T=none:=by
  cases q:s1.heap.get? T with
  | none=>rfl
  | some o=>have z:=hm.keeps T o q; rw[show h'.get? T=none from nT]at z; cases z
 exact⟨e,T,C,H1,rfl,I.os,I.bare,I2.base,hk,He,HT,back e hm.new,back T nT1,tr,hE⟩
theorem ZIC:Jq (CX1 P w) (cxOf (CX1 P w) P w K mg base N qual scope f cd A outer s H E) E:=by
 intro pins σ H1 s1 e s2 I hx;obtain⟨ea,T,C,H2,rfl,os,bare,un,hok,He,HT,ne,nT,tr,hE⟩:=hx;have I2:Inv (cxOf (CX1 P w) P w K mg base N qual scope f cd A outer s H E) pins σ H2 s2:=I.call' (ch:=[]) os un hok bare (fun b z=>absurd z (by simp));show Bb _ _ (leaving _ _) _ _ _;refine ZyH I.ok.frames I2.stack rfl tr fun h3 T' g nT' _ tr'=>?_;have HT':H2 T'=none:=hok.out nT'
 have un3:Un (frs (cxOf (CX1 P w) P w K mg base N qual scope f cd A outer s H E).stack) [] H1 H2 s1.heap h3:=ZzZ un g (fun b hb=>by
  rcases Bu.mp hb with z | z
  ·rw[z]; exact ne
  ·rw[Ck.mp z]; exact nT)
 have hk:HOk P w H2 h3:=Zw9 hok g I2.stkFree (fun b hb=>by
  rcases Bu.mp hb with z | z
  ·rw[z]; exact He
  ·rw[Ck.mp z]; exact HT)
 have I3:Inv (cxOf (CX1 P w) P w K mg base N qual scope f cd A outer s H E) pins σ H2 { s2 with heap:=h3 }:=I.call' (s':={ s2 with heap:=h3 }) (ch:=[]) os un3 hk bare (fun b z=>absurd z (by simp))
 have back:∀b,s1.heap.get? b=none→s.heap.get? b=none:=fun b hb=>by
  cases q:s.heap.get? b with
  | none=>rfl
  | some o=>
   obtain⟨o',z⟩:=I.base.there b o q (by show b∉[]; simp);rw[hb]at z; cases z
 have nT1:s.heap.get? T'=none:=by
  cases q:s.heap.get? T' with
  | none=>rfl
  | some o=>
   obtain⟨o',z⟩:=I2.base.there T' o q (by show T'∉[]; simp);rw[nT']at z; cases z
 exact⟨ea,T',C,H2,rfl,I3.os,bare,I3.base,hk,He,HT',back ea ne,nT1,tr',hE⟩
end
theorem Fun.ok1 {P:Bp} {w:Bg} {K:Ao} {mg:Str→Option Ae} {base:Aq} {x qual:Str} {st:Ar} {f:Ab} {fd:Bc} {N ps:List Str} {k:Nat} {sp:Sp} (F:Fun K x qual st f fd) (S:FnScope N ps (Az st)) (len:∀vs H Q E,sp vs H Q E→vs.length=ps.length)
  (hbody:∀(cdv:Ae) (A:Cu) (outer:List Env) (s:Ak) (H:Hp) (vs:List V) (Q:VK) (E:XK),Room k (A.deeper (envOfC qual (Az st) s.heap.objs.size f cdv))→sp vs H Q E→
   ∃t,PSs (cxOf (CX1 P w) P w K mg base N qual (Az st) f cdv A outer s H E) (Jr st) t∧t { nx:=fun _ H'=>Q .non H',rt:=Q } (start N vs) H):FnOk P w K mg base (CX1 P w) (k+1) f fd ps sp:=by
 obtain⟨oc,od,kV,doc,pm,an,cdv,ct,osl,rfl,lk,hcd⟩:=F.ex;exact ZHw lk hcd S len fun A outer s H vs Q E hr hsp=>hbody cdv A outer s H vs Q E hr hsp
end L2
namespace L2
open PySem PySem.Spec PyProof.Rows
noncomputable abbrev vErr:List Ae:=[.type "ValueError",.type "Exception",.type "BaseException",.type "object"]
abbrev W6 (K:Ao) (C:Ab):Prop:=YaT K C vErr "ValueError.__new__" = true
theorem ZHu {K:Ao} {h:Aq} {C:Ab} (X:K.In h) (q:W6 K C):∃bm N nm qn bs hdct sn sub ab col dd k0 k1 k2 k3 k5 mN,
  h.get? C=some (excClassObj nm qn C N bs bm hdct sn sub ab col dd k0 k1 k2 k3 k5 "ValueError.__new__")∧h.Ns N mN∧mN "__init__" = none∧OwnTail h vErr bm:=by
 unfold W6 YaT at q
 split at q
 ·rename_i dd cd sl ho
  split at q
  ·rename_i C' bm k0 k1 k2 k3 n k5 hm hs
   simp only [Fi,beq_iff_eq,Bool.not_eq_true']at q;obtain⟨⟨⟨⟨⟨rfl,rfl⟩,hdel⟩,ht⟩,hok⟩,hni⟩:=q;obtain⟨nm,bs,mro,ns,qn,hd,sn,sub,ab,col,del⟩:=cd
   dsimp only at hm hdel hok hni
   subst hm hdel
   have hsl:sl = #[k0,k1,k2,k3,some (.builtin "ValueError.__new__"),k5]:=by
    obtain⟨l⟩:=sl;simp only at hs;rw[hs]
   subst hsl;exact⟨bm,ns,nm,qn,bs,hd,sn,sub,ab,col,dd,k0,k1,k2,k3,k5,_,X _ _ ho,.of_isNs (PySem.W.isNs_of_in X hok),PySem.W.nsMap_none_of_in X hok hni,PySem.W.tail_of_in X ht⟩
  ·cases q
 ·cases q
section
variable {X:Cx} {E:XK} {C:Ab} {x:Str} {np cpos pos:Pos} {e:Aw} {es:List Aw} {t:TA}
noncomputable def ZEP (C:Ab) (E:XK) (t:TA):TS:=fun _ σ H=>t σ H fun vs H1=>vs.length≤9∧E (.ref C) none H1
theorem ul (hc:X.calm=true) (hl:Lets X E) (q:W6 X.K C) (hg:Gl X x) (hm:X.mg x=some (.ref C)) (ha:PA X (e::es) t) (hdb:(x == ("__debug__" : Str))=false:=by decide)
  (he:BX (e::es) X.env=(false,eval e X.env)::BX es X.env:=by rfl) (hpl:(backTo cpos (BX es X.env)).any (·.1)=false:=by rfl) :
  PS X (.Raise (some (.Call (.Name x np) (e::es) [] cpos)) none pos) (ZEP C E t):=by
 intro pins s σ H D I h;obtain⟨tl,N,nm,qn,bs,hdct,sn,sub,ab,col,dd,k0,k1,k2,k3,k5,mN,hC,hN,hni,T⟩:=ZHu I.mod.kin q;have F:=PySem.F.excBase_ValueError
 refine wpAny_Raise_call_subU (C:=C) (nm:=nm) (q:=qn) (N:=N) (bs:=bs) (bm:=tl) (hdct:=hdct) (sn:=sn) (sub:=sub) (ab:=ab) (col:=col) (dd:=dd) (k0:=k0) (k1:=k1) (k2:=k2) (k3:=k3) (k5:=k5)
  F F.hasB F (mN:=mN) (T.hasType F.hasBase) (I.ok.hd hc) (by rw[he]; show(false || (backTo cpos (BX es X.env)).any (·.1))=false; rw[hpl]; rfl) hni (Um I hg hm ⟨rfl,?_⟩ hdb)
 have h2:=ha cpos pins s σ H _ I h;rw[he]at h2 ⊢;refine T7 (Fv h2 (fun vs s2 h3=>?_) fun _ _ y=>y);obtain⟨us,H2,I2,r,hlen,hE⟩:=h3;refine⟨rfl,?_,I2.bk _ _ hC,hN.keeps I2.bk,T.keeps I2.bk,fun h' e hm=>hl pins σ H2 s2 h' e C vs I2 hm hE⟩;show vs.length≤BW;rw[←r.length]; exact Ex hlen (by decide)
end
section
variable {X:Cx} {k:Nat} {f C:Ab} {fd:Bc} {ps:List Str} {sp:Sp} {dvs:List V} {ds:List Ae} {x m:Str} {p pos apos:Pos} {e o:Aw} {es:List Aw} {ta:TE} {t:TA}
end
section
variable {X:Cx} {pins:List (Ab×Obj)} {σ:St} {H:Hp} {s:Ak} {ea T T' C:Ab} {h':Aq}
end
section
variable {X:Cx} {b:List Ar} {h₀:YaU} {hs:List YaU} {tb:TSx} {th:Ab→TS} {pos:Pos} {e:Aw} {te:TEx}
end
end L2
namespace L2
open PySem PySem.Spec PyProof.Rows
structure ExcK (K:Ao) (C:Ab):Prop where
 own:W6 K C
 cl:(PySem.W.clsIn K C).isSome=true
 ga:Bk K (.ref C) "__getattribute__" = some (some (.builtin "BaseException.__getattribute__"))
 gb:Bk K (.ref C) "__getattr__" = some none
 cc:Bk K (.ref C) "__class__" = some (some (.builtin "object.__class__"))
 mb:VP K C (.type "BaseException")=some true
 mo:VP K C (.type "object")=some true
section
variable {prog:Bp} {w:Bg} {A:Cu} {E:Ae→Ak→Prop} {h:Aq} {g:Array GenState} {d:Drawn} {t:Nat} {os:OsState} {a C:Ab} {o:Obj} {K:Ao}
end
section
variable {X:Cx} {pins l:List (Ab×Obj)} {σ:St} {H:Hp} {s:Ak} {ea T C:Ab} {h':Aq} {oe:Obj}
end
section
variable {X:Cx} {N:Str} {C':Ab} {np pos:Pos} {b₀:Ar} {suite:List Ar} {rest:List YaU} {ts tr:Ab→TS}
end
theorem PS.nox {X:Cx} {st:Ar} {t:TS} (h:PS X.nox st t):PS X st t:=fun pins s σ H D I hw=>
 Fv (h pins s σ H D (I.wish _) hw) (fun _ _ q=>q.unwish) fun _ _ z=>GJ z
theorem PA.nox {X:Cx} {es:List Aw} {t:TA} (h:PA X.nox es t):PA X es t:=fun pos pins s σ H Q I hw=>
 Fv (h pos pins s σ H Q (I.wish _) hw) (fun _ _ ⟨v,H',I',r,q⟩=>⟨v,H',I'.unwish,r,q⟩) fun _ _ z=>GJ z
def FnS1 (P:Bp) (w:Bg) (K:Ao) (mg:Str→Option Ae) (base:Aq) (k:Nat) (x:Str) (ps:List Str) (sp:Sp):Prop:=∃f fd,FnOk P w K mg base (CX1 P w) k f fd ps sp∧Be K fd ps []∧Fz K (.ref f)=true∧mg x=some (.ref f)
section
variable {X:Cx} {k k':Nat} {x:Str} {ps:List Str} {sp:Sp} {e:Aw} {es:List Aw} {t:TA} {p pos:Pos}
theorem ZID {X:Cx}:Jq (CX1 X.prog X.w) X E0:=by
 intro _ _ _ _ _ _ _ h;obtain⟨_,_,_,_,_,_,_,_,_,_,_,_,_,_,hE⟩:=h;exact hE.elim
theorem W7 (G:FnS1 X.prog X.w X.K X.mg X.base k x ps sp) (hr:Room k' X.A) (ha:PA X (e::es) t) (hk:k≤k':=by omega) (hg:Gl X x:=by rfl) (hdb:(x == ("__debug__" : Str))=false:=by decide)
  (he:BX (e::es) X.env=(false,eval e X.env)::BX es X.env:=by rfl) (hpl:(backTo pos (BX es X.env)).any (·.1)=false:=by rfl):PE X (.Call (.Name x p) (e::es) [] pos) (tFn sp t):=by
 obtain⟨f,fd,F,hb,kp,hm⟩:=G;rw[←Zu2];exact nq F (hr.mono hk) hg hm kp hb .nil ZID ha hdb he hpl
end
section
variable {K:Ao} {D:Ends} {σ:St} {H:Hp} {Q:VK} {C C':Ab}
theorem um {E:XK} {t:TA} (h:t σ H fun vs H1=>vs.length≤9∧E (.ref C) none H1):ZEP C E t D σ H:=h
end
end L2
namespace L2
open PySem PySem.Spec PyProof.Rows
section
variable {X:Cx} {a:Aw} {ta:TE} {pos:Pos}
noncomputable abbrev ZJt (ta:TE):TE:=fun σ H Q=>ta σ H fun x H1=>∃z,x=.str z∧(reprText z).length≤BW∧Q (.str (reprText z)) H1
theorem ZA9 (ha:PE X a ta):PE X (.FormattedValue a 114 none pos) (ZJt ta):=by
 intro pins s σ H Q I h;refine wpAny_FormattedValue_repr (thn (ha pins s σ H _ I h) fun v s1 h_=>?_);obtain⟨x,H1,I1,r1,z,ex,hz,q⟩:=h_;subst ex;obtain⟨t,rfl⟩:=r1;exact wpAny_pyReprObj_str (Yb0 (fun t' k=>⟨.str _,H1,I1.tok k,⟨t',rfl⟩,q⟩) hz) hz
end
section
variable {σ:St} {H:Hp} {Q:VK} {D:Ends} {K:Ao} {g:TG} {tb:TS} {ta:TE}
theorem ZD5 (h:ta σ H fun x H1=>∃z,x=.str z∧(reprText z).length≤BW∧Q (.str (reprText z)) H1):ZJt ta σ H Q:=h
end
def Asc (z:Str):Prop:=∀c∈z.cps.toList,c < 128
theorem Ce (x y:Str):(x++y).length=x.length+y.length:=by
 show(x.cps++y.cps).size=_;rw[Array.size_append]; rfl
end L2
namespace L2
open PySem PySem.Spec PyProof.Rows
theorem ZF2 {h:Aq} {a:Ab} {m m':Str→Option Ae} (x:h.Ns a m) (y:h.Ns a m'):m=m':=by
 obtain⟨o,es,ep,ho,hd,_,hm⟩:=x;obtain⟨o',es',ep',ho',hd',_,hm'⟩:=y;rw[ho]at ho'
 cases ho'
 rw[hd]at hd'
 cases hd'
 funext n
 rw[←hm,←hm']
section
variable {X:Cx} {pins:List (Ab×Obj)} {σ:List (Option V)} {H H':Hp} {s:Ak} {h':Aq}
theorem uo {M:Oa} {A:Cu} {E:Ae→Ak→Prop} {i:Nat} {x:Str} {v:V} {u:Ae} {Q:Unit→Ak→Prop} (I:Inv X pins σ H s) (hN:X.N.Nodup) (hi:X.N[i]?=some x) (hk:X.env.scope.names.lookup x=some .local) (r:RelV v u)
  (h:∀s' m,Inv X pins (σ.set i (some v)) H s'→s'.heap.Ns X.env.locals m→m x=some u→s'.toks=s.toks+1→Ob X.env.locals s.heap s'.heap→Q () s'):Bb M A (storeName X.env x u) Q E s:=by
 obtain⟨m,hn,hl⟩:=id I.loc
 have hcls:(X.env.scope.kind == .class || (X.env.scope.kind == .module && X.env.locals != X.env.globals))=false:=by rw[I.ok.kind]; rfl
 have hiσ:i < σ.length:=by rw[I.len]; exact(Ej.mp hi).1
 have cne:=I.cne
 have tracked:∀{a:Ab} {h':Aq},(∃o,s.heap.get? a=some o∧H a=none)→Ob a s.heap h'→HOk X.prog X.w H h':=fun {a h'} ha hs b ob e=>by
  obtain⟨_,_,hfree⟩:=ha;refine(I.hok b ob e).stay (fun c w' hc q=>(hs.2 c ?_).trans q) (fun _ q=>q) fun _ _ q=>q;rintro rfl
  rcases hc with rfl | hc
  ·rw[hfree]at e; cases e
  ·rw[hfree]at hc; cases hc
 refine Ybm hk hn (fun h' hn' hs=>?_) hcls;obtain⟨oL,_,_,hoL,_⟩:=id hn;refine h _ _ ⟨I.ok,I.os,I.bare,⟨fun b o e n hb hx=>?_,fun b o e n hb hx=>?_,I.base.free,fun b o e hx=>?_,I.base.tups,I.base.frzs,I.base.tbls⟩,⟨_,hn',fun j y v' e1 e2 e3=>?_⟩,fun y c e=>?_,I.free,I.freeC,fun p hp=>?_,tracked ⟨oL,hoL,I.free⟩ hs,by simpa using I.len⟩ hn' (by simp) rfl hs
 ·exact(hs.2 b (DQ (Ez (CQ e) I.ok.above))).trans (I.base.keep b o e n hb hx)
 ·obtain⟨sl,e1⟩:=I.base.slot b o e n hb hx
  exact⟨sl,(hs.2 b (DQ (Ez (CQ e) I.ok.above))).trans e1⟩
 ·obtain⟨o',e1⟩:=I.base.there b o e hx
  exact⟨o',(hs.2 b (DQ (Ez (CQ e) I.ok.above))).trans e1⟩
 ·by_cases hj:j=i
  ·subst hj
   rw[hi]at e1; cases e1;rw[Yah hiσ]at e2
   cases e2
   exact⟨u,r,.inl ⟨hk,by simp⟩⟩
  ·rw[Yai (Gs hj)]at e2
   obtain⟨u',r',q⟩:=hl j y v' e1 e2 e3;refine⟨u',r',?_⟩
   rcases q with⟨k,e⟩ | ⟨k,c,e,z⟩
   ·refine .inl ⟨k,?_⟩
    have:y≠x:=fun e=>hj (j9 hN e1 (e ▸ hi));simp[this,e]
   ·exact .inr ⟨k,c,e,z.sameBut hs (cne y c e)⟩
 ·obtain⟨w',z⟩:=I.cell y c e
  exact⟨w',z.sameBut hs (cne y c e)⟩
 ·obtain⟨e,n,ne,nf,d⟩:=I.pin p hp
  exact⟨(hs.2 p.1 ne).trans e,n,ne,nf,d⟩
end
def PSp (X:Cx) (st:Ar) (t:TS):Prop:=∀(pins:List (Ab×Obj)) (s:Ak) (σ:St) (H:Hp) (D:Ends),Inv X pins σ H s→t D σ H→Bb (model X.prog X.w) X.A (exec st X.env) (fun f s'=>0 < s'.toks∧SP X pins D f s') X.xe s
def PSt (X:Cx) (st:Ar) (t:TS):Prop:=∀(pins:List (Ab×Obj)) (s:Ak) (σ:St) (H:Hp) (D:Ends),Inv X pins σ H s→0 < s.toks→t D σ H→Bb (model X.prog X.w) X.A (exec st X.env) (SP X pins D) X.xe s
def PSst (X:Cx) (b:List Ar) (t:TS):Prop:=∀(pins:List (Ab×Obj)) (s:Ak) (σ:St) (H:Hp) (D:Ends),Inv X pins σ H s→0 < s.toks→t D σ H→Bb (model X.prog X.w) X.A (execs b X.env) (SP X pins D) X.xe s
section
variable {X:Cx} {st:Ar} {rest:List Ar} {t u:TS} {pos:Pos}
theorem ZIQ (h1:PSp X st t) (h2:PSst X rest u):PSs X (st::rest) (tSeq t u):=by
 intro pins s σ H D I h;refine TV (thn (h1 pins s σ H { D with nx:=u D } I h) fun f s1 q=>?_);obtain⟨tk,q⟩:=q
 cases f with
 | next=>
  obtain⟨σ',H',I',q⟩:=q;exact h2 pins s1 σ' H' D I' tk q
 | ret v=>exact q
 | brk=>exact q
 | cont=>exact q
theorem ZBj (h1:PSt X st t) (h2:PSs X rest u):PSst X (st::rest) (tSeq t u):=by
 intro pins s σ H D I tk h;refine TV (thn (h1 pins s σ H { D with nx:=u D } I tk h) fun f s1 q=>?_)
 cases f with
 | next=>
  obtain⟨σ',H',I',q⟩:=q;exact h2 pins s1 σ' H' D I' q
 | ret v=>exact q
 | brk=>exact q
 | cont=>exact q
theorem ssp (i:Nat) {x:Str} {e:Aw} {te:TE} {pos':Pos} (hN:X.N.Nodup) (he:PE X e te) (hi:X.N[i]?=some x:=by rfl) (hk:X.env.scope.names.lookup x=some .local:=by rfl) (hs:swapsWith e (some (.Name x pos')) pos.line X.env=pure false:=by rfl) :
  PSp X (.Assign [.Name x pos'] e pos) (tAsg te (Ir i)):=by
 intro pins s σ H D I h;refine Yam (thn (he pins s σ H _ I h) fun v s1 h_=>?_) hs;obtain⟨y,H1,I1,r1,q1⟩:=h_;exact uo I1 hN hi hk r1 fun s2 m I2 hn hm ht _=>⟨by omega,_,H1,I2,q1⟩
end
def PEf (X:Cx) (e:Aw) (t:TE):Prop:=∀(pins:List (Ab×Obj)) (s:Ak) (σ:St) (H:Hp) (Q:VK),Inv X pins σ H s→t σ H Q→Bb (model X.prog X.w) X.A (eval e X.env) (fun u s'=>∃z tk H',Inv X pins σ H' s'∧u=.str z tk∧s.toks≤tk∧Q (.str z) H') X.xe s
section
variable {X:Cx} {a b:Aw} {ta tb:TE} {pos:Pos}
def PJf (X:Cx) (es:List Aw) (t:TJ):Prop:=
 ∀(n:Nat) (out:Str) (pins:List (Ab×Obj)) (s:Ak) (σ:St) (H:Hp) (Q:VK),n≤s.toks→Inv X pins σ H s→t σ H out Q→Bb (model X.prog X.w) X.A (joinParts out (evalEach es X.env)) (fun u s'=>∃z tk H',Inv X pins σ H' s'∧u=.str z tk∧n≤tk∧Q (.str z) H') X.xe s
theorem ZGq:PJf X [] tJn:=fun n out pins s σ H Q hn I h=>joinParts_nil ⟨out,_,H,I.tok _,rfl,hn,h.2⟩ h.1
theorem uq {e:Aw} {es:List Aw} {te:TE} {tr:TJ} (he:PE X e te) (hr:PJf X es tr):PJf X (e::es) (tJc te tr):=by
 intro n out pins s σ H Q hn I h;show Bb _ _ (joinParts out (eval e X.env::evalEach es X.env)) _ _ s;refine joinParts_cons (Fv (YaV hn (he pins s σ H _ I h)) (fun v s1 hv=>?_) fun _ _ y=>y.2);obtain⟨hn1,x,H1,I1,r1,y,ex,hz,q⟩:=hv;subst ex;obtain⟨t,rfl⟩:=r1;exact⟨hz,hr n _ pins s1 σ H1 Q hn1 I1 q⟩
theorem Zy1 {e1 e2:Aw} {es:List Aw} {t:TJ} (h:PJf X (e1::e2::es) t):PEf X (.JoinedStr (e1::e2::es) pos) (tFs t):=by
 intro pins s σ H Q I q;exact JoinedStr_many (h s.toks BK pins s σ H Q (Bv _) I q)
end
section
variable {X:Cx} {a b:Aw} {ta tb:TE} {pos:Pos}
noncomputable def tRep (i j:Nat) (te:TE):List Nat→TS
 | []=>fun D σ H=>D.nx σ H
 | c::cs=>fun D σ H=>∃x:Str,(σ.set j (some (.str ⟨#[c]⟩)))[i]?=some (some (.str x))∧te (σ.set j (some (.str ⟨#[c]⟩))) H fun v H1=>∃z:Str,v=.str z∧(((⟨#[c]⟩ : Str) == z)=false)∧x.length+(x.length+1) * z.length≤16777216∧
   tRep i j te cs D ((σ.set j (some (.str ⟨#[c]⟩))).set i (some (.str (Txt.replace x ⟨#[c]⟩ z)))) H1
noncomputable abbrev ZBW (i j:Nat) (ti te:TE):TS:=fun D σ H=>ti σ H fun v H1=>∃z:Str,v=.str z∧z.cps.all (· < 128)=true∧tRep i j te z.cps.toList D σ H1
theorem ZDp {i:Nat} {sp mk:Str} {e2:Aw} {te:TE} {p2 p3 p4 ap cp q1:Pos} {pins:List (Ab×Obj)} {σ:St} {H:Hp} {s:Ak} {m:Str→Option Ae} {c k:Nat} {x:Str} {R:St→Hp→Prop}
  (hN:X.N.Nodup) (hi:X.N[i]?=some sp) (ki:X.env.scope.names.lookup sp=some .local) (kj:X.env.scope.names.lookup mk=some .local) (he:PEf X e2 te) (di:(sp == ("__debug__" : Str))=false) (dj:(mk == ("__debug__" : Str))=false)
  (hs:swapsWith (.Call (.Attribute (.Name sp p3) "replace" ap) [.Name mk p4,e2] [] cp) (some (.Name sp p2)) q1.line X.env=pure false)
  (hbase:attributeBase (.Name sp p3) "replace" X.env (eval (.Name sp p3) X.env)=eval (.Name sp p3) X.env)
  (hfew:((backTo cp (BX [.Name mk p4,e2] X.env)).all (fun x=>!x.1) && (backToKw cp (keywordEach [] X.env)).all (fun x=>x.1.isSome)
   && decide ([Aw.Name mk p4,e2].length+([]:List Hy).length+(if ([]:List Hy).isEmpty then 0 else 1) < 30))=true)
  (hline:(ap.endLine == cp.line)=true) (h1:BX [.Name mk p4,e2] X.env=[(false,eval (.Name mk p4) X.env),(false,eval e2 X.env)])
  (I:Inv X pins σ H s) (hn:s.heap.Ns X.env.locals m) (hm:m mk=some (.str ⟨#[c]⟩ k)) (k0:k≠0) (kt:k < s.toks) (ex:σ[i]?=some (some (.str x)))
  (h:te σ H fun v H1=>∃z:Str,v=.str z∧(((⟨#[c]⟩ : Str) == z)=false)∧x.length+(x.length+1) * z.length≤16777216∧R (σ.set i (some (.str (Txt.replace x ⟨#[c]⟩ z)))) H1) :
  Bb (model X.prog X.w) X.A (execs [.Assign [.Name sp p2] (.Call (.Attribute (.Name sp p3) "replace" ap) [.Name mk p4,e2] [] cp) q1] X.env) (fun f s'=>f=.next∧0 < s'.toks∧∃σ' H',Inv X pins σ' H' s'∧R σ' H') X.xe s:=by
 obtain⟨m',hn',hl⟩:=id I.loc;obtain rfl:=ZF2 hn hn';obtain⟨u,ru,lu⟩:=hl i sp _ hi ex (.inl ki);obtain⟨t,rfl⟩:=ru
 have hu:m sp=some (.str x t):=by
  rcases lu with⟨_,z⟩ | ⟨z,_⟩
  ·exact z
  ·have z':X.env.scope.names.lookup sp=some .cell∨X.env.scope.names.lookup sp=some .free:=z
   rw[ki]at z'
   rcases z' with z' | z' <;> cases z'
 refine TV (Yam ?_ hs);refine gh hbase hfew hline rfl (VF (Yaj I.ok.kind ki hn hu ?_) di);obtain⟨t1,t2⟩:=Wz (T:="str") I (x:=.str x) ⟨t,rfl⟩ tyS;refine⟨"str","str.replace",HB,Ycd,Yce,t1,t2,?_⟩;rw[h1];refine T6 rfl (T7 (Og (VF (Yaj I.ok.kind kj hn hm ?_) dj)));refine Og (thn (he pins s σ H _ I h) fun v s1 hv=>dq ?_);obtain⟨z,tk,H1,I1,rfl,htk,z',ez,hz,hlen,q⟩:=hv
 cases ez
 refine SC.replace k0 (Od (Ez (Hz (De _) kt) htk)) (DQ (Ez kt htk)) hz hlen fun t' k'=>?_;exact uo (v:=.str (Txt.replace x ⟨#[c]⟩ z)) (I1.tok k') hN hi ki ⟨t',rfl⟩ fun s2 m2 I2 _ _ ht _=>Oc ⟨rfl,by omega,_,H1,I2,q⟩
theorem ZGw {i j:Nat} {sp mk:Str} {it e2:Aw} {ti te:TE} {p1 p2 p3 p4 ap cp q1 pos:Pos} (hp:Yan (model X.prog X.w) X.A X.env X.xe) (hc:X.calm=true)
  (hN:X.N.Nodup) (hit:PE X it ti) (he:PEf X e2 te) (hi:X.N[i]?=some sp:=by rfl) (hj:X.N[j]?=some mk:=by rfl) (ki:X.env.scope.names.lookup sp=some .local:=by rfl) (kj:X.env.scope.names.lookup mk=some .local:=by rfl)
  (di:(sp == ("__debug__" : Str))=false:=by decide) (dj:(mk == ("__debug__" : Str))=false:=by decide)
  (hs:swapsWith (.Call (.Attribute (.Name sp p3) "replace" ap) [.Name mk p4,e2] [] cp) (some (.Name sp p2)) q1.line X.env=pure false:=by rfl)
  (hbase:attributeBase (.Name sp p3) "replace" X.env (eval (.Name sp p3) X.env)=eval (.Name sp p3) X.env:=by rfl)
  (hfew:((backTo cp (BX [.Name mk p4,e2] X.env)).all (fun x=>!x.1) && (backToKw cp (keywordEach [] X.env)).all (fun x=>x.1.isSome)
   && decide ([Aw.Name mk p4,e2].length+([]:List Hy).length+(if ([]:List Hy).isEmpty then 0 else 1) < 30))=true:=by rfl)
  (hline:(ap.endLine == cp.line)=true:=by rfl) (h1:BX [.Name mk p4,e2] X.env=[(false,eval (.Name mk p4) X.env),(false,eval e2 X.env)]:=by rfl) (hfs:∀x,foldedSetIterable it X.env x=pure x:=by intro _; rfl) :
  PSt X (.For (.Name mk p1) it [.Assign [.Name sp p2] (.Call (.Attribute (.Name sp p3) "replace" ap) [.Name mk p4,e2] [] cp) q1] [] pos) (ZBW i j ti te):=by
 intro pins s σ H D I htk h;refine wpAny_For (Fv (YaV (n:=1) htk (hit pins s σ H _ I h)) (fun v s1 hv=>?_) fun _ _ y=>y.2) hfs;obtain⟨tk1,x,H1,I1,r1,z,ex,hasc,q⟩:=hv;subst ex;obtain⟨t,rfl⟩:=r1;refine YbU hasc ?_;have fp:FpOk X pins H1 s1.heap.objs.size:=I1.fpOk (Bv _) (I1.hok.fresh (Bv _));have I2:Inv X pins σ H1 { s1 with heap:=s1.heap.push { cls:=.type "str_ascii_iterator",data:=.fields #[.str z t,.int 0 0] } }:=I1.kept (t':=s1.toks) fun b o e=>Ek _ e
 refine Ybp (fun n s'=>∃k σ' H',n=z.cps.size - k∧k≤z.cps.size∧Inv X pins σ' H' s'∧s'.heap.IsStrIter s1.heap.objs.size "str_ascii_iterator" z t k∧H' s1.heap.objs.size=none∧0 < s'.toks∧tRep i j te (z.cps.toList.drop k) D σ' H') ?_ z.cps.size
  ⟨0,σ,H1,rfl,De _,I2,⟨_,FZ _ rfl,rfl,rfl⟩,fp.1,tk1,by rw[jh]; exact q⟩
 rintro n s3 ⟨k,σ3,H3,rfl,hk,I3,st3,f3,tk3,w3⟩;obtain⟨g1,g2,g3,g4,g5⟩:=fp.2
 by_cases hlt:k < z.cps.size
 ·have hz:z.cps[k]?=some z.cps[k]:=by simp[hlt]
  refine JK hp (YbR st3 hz fun h' st' sb=>?_);have I4:Inv X pins σ3 H3 { s3 with heap:=h',toks:=s3.toks+1 }:=I3.turned (fun b o hb e=>(sb.2 b hb).trans e) f3 g1 g3 g4 g5;obtain⟨o,e,c,d⟩:=id st';refine Oq (s:={ s3 with heap:=h',toks:=s3.toks+1 }) e c d (by decide) ?_
  have hd:z.cps.toList.drop k=z.cps[k]::z.cps.toList.drop (k+1):=by
   rw[ji (by simpa using hlt)];simp
  rw[hd]at w3;obtain⟨x,ex,w4⟩:=w3;have I5:=I4.pinned (fp:=[s1.heap.objs.size]) (fun b hb=>by rw[Ck.mp hb]; exact⟨f3,g1,g2,g3,g4,g5⟩) (fun b hb=>by rw[Ck.mp hb]; exact⟨o,e,fun v y=>by rw[d]at y; cases y⟩);refine Yal (uo (v:=.str ⟨#[z.cps[k]]⟩) I5 hN hj kj ⟨_,rfl⟩ fun s5 m5 I6 hn5 hm5 ht5 _=>?_);refine JK hp (Fv (ZDp hN hi ki kj he di dj hs hbase hfew hline h1 I6 hn5 hm5 (Od tk3) (by show s3.toks < s5.toks; rw[ht5]; exact gq (Oe _)) ex w4) (fun f s7 hq=>?_) fun _ _ y=>y);obtain⟨rfl,tk7,σ7,H7,I7,w7⟩:=hq;have pe:=I7.pin (s1.heap.objs.size,o) (Hu _ (Hu _ (Up (by simp) e)));refine⟨z.cps.size - (k+1),by omega,k+1,σ7,H7,rfl,hlt,I7.unpinned,⟨o,pe.1,c,d⟩,pe.2.1,tk7,w7⟩
 ·have hk':k=z.cps.size:=by omega
  subst hk';rw[Ycf (by simp)]at w3;refine JK hp (YbS (I3.ok.hd hc) st3 (by simp) fun h' eb=>?_);exact Oc ⟨σ3,H3,I3.turned (t':=s3.toks) (fun b o hb e=>eb b o hb e) f3 g1 g3 g4 g5,w3⟩
end
section
variable {X:Cx} {pins:List (Ab×Obj)} {σ:List (Option V)} {H:Hp} {s:Ak}
theorem Zrq:∀ls:List (Str×Tok),Vals (ls.map fun p=>V.str p.1) (strValues ls)
 | []=>.nil
 | (z,t)::ls=>.cons ⟨t,rfl⟩ (Zrq ls)
theorem U3 {ls:List (Str×Tok)} {k:Nat} {Q:VK} (I:Inv X pins σ H s) (q:NewL (ls.map fun p=>V.str p.1) H Q):EP X pins σ Q (.ref s.heap.objs.size) { s with heap:=s.heap.push { cls:=.type "list",data:=.seq (strValues ls).toArray },toks:=k }:=
 ⟨.ref s.heap.objs.size,upd H s.heap.objs.size (.lst _),I.laid (t':=k) (fun b u e=>Ek _ e) (Bv _) ⟨q.1,strValues ls,0,Zrq ls,FZ _ rfl⟩,rfl,q.2 _ (I.hok.fresh (Bv _))⟩
theorem U4 {ls:List (Str×Tok)} {ts:List Str} (h:ls.map (·.1)=ts):(ls.map fun p=>V.str p.1)=ts.map V.str:=by
 rw[←h,K9]; rfl
noncomputable def ZIX:V→List V→Hp→VK→Prop:=fun x vs H Q=>∃z:Str,x=.str z∧z.length≤100000∧((vs=[]∧NewL ((Txt.words z).map V.str) H Q)∨(∃c:Nat,vs=[.str ⟨#[c]⟩]∧NewL ((Txt.split z ⟨#[c]⟩).map V.str) H Q))
theorem ZC4:MtR X "str.split" ZIX:=by
 intro pins s σ H x vs v us Q I rx rv h;obtain⟨z,rfl,hz,h⟩:=h;obtain⟨t,rfl⟩:=rx;have hzs:z.length≤BW:=Ca (by omega)
 rcases h with⟨rfl,q⟩ | ⟨c,rfl,q⟩
 ·cases rv
  have hw0:=StrLaws.sw_weight z;have hw1:=StrLaws.len_le_wsum (Ycg z (z.length+1));refine JP We (Oh _ _ _) jj (F.args_str_split_1 _) (meets_str_split_space z t hzs (Ca (by omega))) ?_
  cases hw:Ycg z (z.length+1) == [(0,z.length)]
  ·simp only [ig,if_false]
   rw[strsFrom_eq];have e:(numbered s.toks (wordsOf z)).map (·.1)=Txt.words z:=(numbered_texts _ _).trans (if_neg (ne_true_of_eq_false hw)).symm;exact U3 (ls:=numbered s.toks (wordsOf z)) I (by rw[U4 e]; exact q)
  ·simp only [if_true]
   have e:[(z,t)].map (·.1)=Txt.words z:=(if_pos hw).symm;exact U3 (ls:=[(z,t)]) (k:=s.toks) I (by rw[U4 e]; exact q)
 ·obtain⟨u,rfl,tu,rfl⟩:=rv.one
  have hy:((⟨#[c]⟩ : Str).length == 0)=false:=rfl
  cases h1:(decide (z.length < (⟨#[c]⟩ : Str).length) || decide (Ych z < Ych ⟨#[c]⟩))
  ·cases hf:(Hv z ⟨#[c]⟩ 0 z.length (z.length+1)).isEmpty
   ·have e0:Txt.split z ⟨#[c]⟩=Wf z (Hv z ⟨#[c]⟩ 0 z.length (z.length+1)) (⟨#[c]⟩ : Str).length:=(if_neg (ne_true_of_eq_false h1)).trans (if_neg (ne_true_of_eq_false hf))
    have hn:(Wf z (Hv z ⟨#[c]⟩ 0 z.length (z.length+1)) (⟨#[c]⟩ : Str).length).length≤BW:=by
     rw[←e0];have:=q.1
     rwa [Ax]at this
    refine JP We (Oh _ _ _) jj (YaW _ _) (meets_str_split_sep z ⟨#[c]⟩ t tu h1 hy hf hzs hn) ?_;show wants _ _ _ { s with toks:=_,heap:=s.heap.push { cls:=.type "list",data:=.seq (strsFrom s.toks (Wf z (Hv z ⟨#[c]⟩ 0 z.length (z.length+1)) (⟨#[c]⟩ : Str).length)).toArray } };rw[strsFrom_eq];have e:(numbered s.toks (Wf z (Hv z ⟨#[c]⟩ 0 z.length (z.length+1)) (⟨#[c]⟩ : Str).length)).map (·.1)=Txt.split z ⟨#[c]⟩:=(numbered_texts _ _).trans e0.symm;exact U3 (ls:=numbered s.toks _) I (by rw[U4 e]; exact q)
   ·have e:[(z,t)].map (·.1)=Txt.split z ⟨#[c]⟩:=((if_neg (ne_true_of_eq_false h1)).trans (if_pos hf)).symm
    exact JP We (Oh _ _ _) jj (YaW _ _) (meets_str_split_not_found z ⟨#[c]⟩ t tu h1 hy hf) (U3 (ls:=[(z,t)]) (k:=s.toks) I (by rw[U4 e]; exact q))
  ·have e:[(z,t)].map (·.1)=Txt.split z ⟨#[c]⟩:=(if_pos h1).symm
   exact JP We (Oh _ _ _) jj (YaW _ _) (meets_str_split_cannot_occur z ⟨#[c]⟩ t tu h1) (U3 (ls:=[(z,t)]) (k:=s.toks) I (by rw[U4 e]; exact q))
noncomputable def ZIV:R2:=fun x y H Q=>∃(z:Str) (n:Int),x=.str z∧y=.int n∧MulOk z n∧Q (.str (Txt.mul z n)) H
theorem ZGe:OpR X (binaryOp .Mult) ZIV:=by
 intro pins s σ H x y v u Q I rx ry h;obtain⟨z,n,rfl,rfl,hm,q⟩:=h;obtain⟨t,rfl⟩:=rx;obtain⟨t',rfl⟩:=ry;exact SB.mul hm fun t' k=>⟨.str _,H,I.tok k,⟨t',rfl⟩,q⟩
end
section
variable {σ:St} {H:Hp} {Q:VK} {D:Ends}
theorem Zxb {i j:Nat} {ti te:TE} (h:ti σ H fun v H1=>∃z:Str,v=.str z∧z.cps.all (· < 128)=true∧tRep i j te z.cps.toList D σ H1):ZBW i j ti te D σ H:=h
theorem ZHV {i j:Nat} {te:TE} (h:D.nx σ H):tRep i j te [] D σ H:=h
theorem ur {i j c:Nat} {cs:List Nat} {te:TE} (x:Str) (e:(σ.set j (some (.str ⟨#[c]⟩)))[i]?=some (some (.str x))) (h:te (σ.set j (some (.str ⟨#[c]⟩))) H fun v H1=>∃z:Str,v=.str z∧(((⟨#[c]⟩ : Str) == z)=false)∧x.length+(x.length+1) * z.length≤16777216∧
   tRep i j te cs D ((σ.set j (some (.str ⟨#[c]⟩))).set i (some (.str (Txt.replace x ⟨#[c]⟩ z)))) H1):tRep i j te (c::cs) D σ H:=⟨x,e,h⟩
end
end L2
namespace L2
open PySem PySem.Spec PyProof.Rows
section
variable {ix:List Nat} {tc:TT} {te:TE} {σ:St} {H:Hp} {Q:VK}
end
def MeS1 (P:Bp) (w:Bg) (K:Ao) (mg:Str→Option Ae) (base:Aq) (k:Nat) (C:Ab) (m:Str) (ps:List Str) (sp:Sp):Prop:=Cls K C∧∃f fd,FnOk P w K mg base (CX1 P w) k f fd ps sp∧Be K fd ps []∧Meth K C m f
section
variable {X:Cx} {k k':Nat} {m:Str} {ps:List Str} {sp:Sp} {e o:Aw} {es:List Aw} {ta:TE} {t:TA} {pos apos:Pos}
end
end L2
namespace L2
open PySem PySem.Spec PyProof.Rows
section
variable {X:Cx}
end
section
variable {X:Cx} {x x':Str} {ns:List Str} {ix:List Nat} {sc scope:Gn} {N:List Str} {elt iter:Aw} {px px' tp pos:Pos} {tk:Nat} {ifs:List Aw} {tc:TT} {te:TE} {wi:TI}
end
section
variable {ix:List Nat} {tc:TT} {te:TE} {σ:St} {H:Hp} {Q:VK} {K:Ao}
theorem ZCr {J:It} {xs:List V} (Pv:Nat→List V→Ab→Hp→Prop) (hw:∀H',Wk J xs H') (hz:xs.length≤1000000) (h0:∀acc,H acc=none→Pv 0 [] acc (upd H acc (.lst [])))
  (hs:∀(i:Nat) (x:V) (ys:List V) (acc:Ab) (H':Hp),xs[i]?=some x→H acc=none→Pv i ys acc H'→ys.length≤i→
   ∀R:Bool→Hp→Prop,(∀b H2,(b=false→Pv (i+1) ys acc H2)→(b=true→∀R2:V→Hp→Prop,(∀y H3,H3 acc=some (.lst ys)→(∀H4,But acc H3 H4→H4 acc=some (.lst (ys++[y]))→Pv (i+1) (ys++[y]) acc H4)→R2 y H3)→te (some x::subS σ ix) H2 R2)→R b H2)→tc (some x::subS σ ix) H' R)
  (hd:∀(acc:Ab) (ys:List V) (H':Hp),H acc=none→Pv xs.length ys acc H'→Q (.ref acc) H'):Ky J ix tc te σ Q H:=by
 intro acc hacc;refine⟨fun i m ys H'=>m=xs.length - i∧i≤xs.length∧Pv i ys acc H'∧ys.length≤i,⟨xs.length,by simp,De _,h0 acc hacc,Bv _⟩,?_⟩;rintro i m ys H' ⟨rfl,hi,pv,hy⟩
 by_cases hlt:i < xs.length
 ·obtain⟨go,yl⟩:=(hw H' H' (Same.refl _)).1 i hlt
  refine .inr ⟨go,fun x H2 y=>?_⟩;obtain⟨rfl,hx⟩:=yl x H2 y;refine hs i x ys acc _ hx hacc pv hy _ fun b H3 pf pt=>?_
  cases b with
  | false=>
   rw[if_neg Dt];exact⟨xs.length - (i+1),by omega,rfl,hlt,pf rfl,Ud hy⟩
  | true=>
   rw[if_pos rfl];refine pt rfl _ fun y H4 ea4 py=>⟨ea4,su (by omega),xs.length - (i+1),by omega,rfl,hlt,py _ Ly Cm,?_⟩;rw[CZ,Gv];omega
 ·have e:i=xs.length:=by omega
  subst e;exact .inl ⟨(hw H' H' (Same.refl _)).2,hd acc ys H' hacc pv⟩
theorem ZuX {n k:Nat} (h:k < n):seqIndex? (k:Int) n=some k:=by
 have a : ¬((k:Int) < 0):=by omega
 have b:(decide (0≤(k:Int)) && decide ((k:Int) < (n:Int)))=true:=by simp; omega
 show(if (decide (0≤(if (k:Int) < 0 then(k:Int)+n else k)) && decide ((if (k:Int) < 0 then(k:Int)+n else k) < (n:Int)))=true then some (if (k:Int) < 0 then(k:Int)+n else k).toNat else none)=some k;rw[if_neg a,if_pos b,JM]
theorem ZFF {l:Ab} {xs:List V} {y:V} {k:Nat} (h:H l=some (.lst xs)) (hk:xs[k]?=some y) (hz:xs.length≤1000000) (q:∀H':Hp,But l H H'→H' l=some (.lst (xs.eraseIdx k))→Q y H'):ZEK (.ref l) [.int (k:Int)] H Q:=by
 have hk':=(Ej.mp hk).1;exact⟨l,xs,k,k,y,rfl,rfl,h,by omega,by omega,ZuX hk',hk,q _ Ly Cm⟩
end
section
variable {X:Cx} {k k':Nat} {m:Str} {ps:List Str} {sp:Sp} {e o:Aw} {es:List Aw} {ta:TE} {t:TA} {pos apos:Pos} {E:XK}
noncomputable abbrev tDyP (D:Ab→Prop) (m:Str) (sp:Sp) (E:XK) (ta:TE) (t:TA):TE:=fun σ H Q=>ta σ H fun x H1=>∃a C dx fs,x=.ref a∧H1 a=some (.ins C dx fs)∧D C∧fs.lookup m=none∧
 t σ H1 fun vs H2=>H2 a=some (.ins C dx fs)∧sp (x::vs) H2 Q E
theorem ZIG {pl:Sem Bool} {D:Ab→Prop} (hp:Jq (CX1 X.prog X.w) X E) (hD:∀C,D C→MeS1 X.prog X.w X.K X.mg X.base k C m ps (spAt sp C)) (hr:Room k' X.A) (ho:PE X o ta) (ha:PA X (e::es) t) (hk:k≤k':=by omega)
  (hst:BX (e::es) X.env=(false,eval e X.env)::BX es X.env:=by rfl) (hpl:(backTo pos (BX es X.env)).any (·.1)=false:=by rfl)
  (ht:eval (.Call (.Attribute o m apos) (e::es) [] pos) X.env=(do
   let ov ←eval o X.env
   standAt apos.atName
   let (f,first) ←holding [ov] (getMethod ov m pl)
   callWith pos f first (backTo pos (BX (e::es) X.env)) (backToKw pos (keywordEach [] X.env))):=by rfl) :
  PE X (.Call (.Attribute o m apos) (e::es) [] pos) (tDyP D m sp E ta t):=by
 intro pins s σ H Q I h;refine YaJ (pl:=pl) (thn (ho pins s σ H _ I h) fun u s1 h=>?_) ht;obtain⟨x,H1,I1,rx,a,C,dx,fs,ex,ea,hC,l,q⟩:=h;subst ex;obtain rfl:u=Do a:=rx;obtain⟨c,f,fd,F,hb,hm⟩:=hD C hC;refine my I1 ea c hm l ?_;refine dw (first:=[.ref a]) (h₀:=X.base) I.ok.mod.kin hm.kp (thn (ha pos pins s1 σ H1 _ I1 q) fun us s2 ⟨vs,H2,I2,r,eb,q2⟩=>⟨I2.kIn,?_⟩) hst hpl;exact Wy (us:=.ref a::us) (vs:=.ref a::vs) (dvs:=[]) (E:=E) F (hr.mono hk) hb .nil hp I2 (.cons rfl r) (by rw[Es]; exact⟨q2,a,dx,fs,vs,rfl,eb⟩)
theorem ZHG {D:Ab→Prop} {σ:St} {H:Hp} {Q:VK} (h:ta σ H fun x H1=>∃a C dx fs,x=.ref a∧H1 a=some (.ins C dx fs)∧D C∧fs.lookup m=none∧
 t σ H1 fun vs H2=>H2 a=some (.ins C dx fs)∧sp (x::vs) H2 Q E):tDyP D m sp E ta t σ H Q:=h
end
section
variable {X:Cx} {a:Aw} {ta:TE} {pos:Pos}
end
end L2
namespace L2
open PySem PySem.Spec PyProof.Rows
section
variable {X:Cx}
end
section
variable {X:Cx} {e:Aw} {td:TE} {st:Ar} {t:TS}
end
theorem O1 {X:Cx} {a b c d:Str} {i j k l:Nat} {p q r o:Pos} {es:List Aw} {t:TA} (h:PA X es t):PA X (.Constant (.str a) i p::.Constant (.str b) j q::.Constant (.str c) k r::.Constant (.str d) l o::es) (HH (tC (.str a)) (HH (tC (.str b)) (HH (tC (.str c)) (HH (tC (.str d)) t)))):=
 Ac Am (Ac Am (Ac Am (Ac Am h)))
end L2
namespace PySem
open Sem (wp)
section
variable {prog:Bp} {w:Bg} {A:Cu} {E:Ae→Ak→Prop} {s:Ak}
open PySem.W in
end
section
variable {prog:Bp} {w:Bg} {K:Type} [DecidableEq K] {knd:HeapKind prog w K} {A:Cu} {E:Ae→Ak→Prop} {s:Ak}
end
end PySem
namespace L2
open PySem PySem.Spec PyProof.Rows
section
variable {X:Cx}
end
section
variable {σ:St} {H:Hp} {Q:VK} {D:Ends} {g:TG} {tb:TS} {ix:List Nat} {tc:TT} {te:TE}
theorem ZHF {td ty:TE} (h:td σ H fun x H1=>ty σ H1 fun y H2=>∃a v,x=.ref a∧DGet H2 a y (some v)∧Q v H2):ZJr td ty σ H Q:=h
end
end L2
namespace L2
open PySem PySem.Spec PyProof.Rows
section
variable {X:Cx} {k k':Nat} {x:Str} {ps:List Str} {sp:Sp} {e:Aw} {es:List Aw} {t:TA} {pos p:Pos} {E:XK}
noncomputable def tFnP (sp:Sp) (E:XK) (t:TA):TE:=fun σ H Q=>t σ H fun vs H1=>sp vs H1 Q E
theorem ZIH (hp:Jq (CX1 X.prog X.w) X E) (G:FnS1 X.prog X.w X.K X.mg X.base k x ps sp) (hr:Room k' X.A) (ha:PA X (e::es) t) (hk:k≤k':=by omega) (hg:Gl X x:=by rfl) (hdb:(x == ("__debug__" : Str))=false:=by decide)
  (he:BX (e::es) X.env=(false,eval e X.env)::BX es X.env:=by rfl) (hpl:(backTo pos (BX es X.env)).any (·.1)=false:=by rfl):PE X (.Call (.Name x p) (e::es) [] pos) (tFnP sp E t):=by
 obtain⟨f,fd,F,hb,kp,hm⟩:=G;have z:=nq (p:=p) (pos:=pos) F (hr.mono hk) hg hm kp hb .nil hp ha hdb he hpl;intro pins s σ H Q I h;refine z pins s σ H Q I ?_;show t σ H fun vs H1=>sp (vs++[]) H1 Q E;simp only [Es];exact h
theorem ZJS {σ:St} {H:Hp} {Q:VK} (h:t σ H fun vs H1=>sp vs H1 Q E):tFnP sp E t σ H Q:=h
end
noncomputable def isTx (z:Str):Ae→Bool
 | .str a _=>a == z
 | _=>false
section
variable {X:Cx}
noncomputable def ZBl:V→List V→Hp→VK→Prop:=fun x vs H Q=>∃(l:Ab) (ns:List Str) (z:Str) (j:Nat),x=.ref l∧vs=[.str z]∧H l=some (.lst (ns.map V.str))∧ns[j]?=some z∧(∀m,m < j→ns[m]?≠some z)∧j < 1000000∧Q (.int (j:Int)) H
theorem Zxt:MtM X "list.index" ZBl:=by
 intro pins s σ H x vs v us Q I rx rv h;obtain⟨l,ns,z,j,rfl,rfl,hH,hj,hno,hz,q⟩:=h
 cases rx
 obtain⟨u,rfl,ru⟩:=rv.one;obtain⟨tu,rfl⟩:=(show ∃t,u=Ht z t from ru);obtain⟨_,its,n,r,hl,e⟩:=I.lstM hH
 have at':∀m (hm:m < its.toArray.size),∃a t,ns[m]?=some a∧its.toArray[m]=Ht a t:=fun m hm=>by
  rw[Du]at hm
  have hn:m < ns.length:=by
   have:=r.length;rw[Ax]at this;omega
  obtain⟨w',hw,rw'⟩:=r.get (i:=m) (x:=V.str ns[m]) (by rw[El,Dr hn]; rfl);obtain⟨t,ht⟩:=(show ∃t,w'=Ht ns[m] t from rw');refine⟨ns[m],t,Dr hn,?_⟩;rw[Dr hm]at hw;rw[Yci,Dl hw,ht]
 have hjl:j < its.toArray.size:=by
  have h1:=(Ej.mp hj).1;have:=r.length;rw[Ax]at this;rw[Du];omega
 refine JP YaX ⟨_,e,rfl⟩ F.entry_list_index (F.args_list_index_2 _ _) (MeetsSeq.list_index l its.toArray n (.str z tu) (isTx z) (fun y hy=>?_) j hjl (by omega) ?_ (fun m hm hlt=>?_)) ⟨e,⟨.int (j:Int),H,I.tok _,⟨_,rfl⟩,q⟩⟩
 ·obtain⟨m,hm,rfl⟩:=Ycj.mp hy
  obtain⟨a,t,_,e2⟩:=at' m hm;rw[e2];exact YaY a z t tu
 ·obtain⟨a,t,h1,e2⟩:=at' j hjl
  rw[e2];rw[hj]at h1
  cases h1
  show(z == z)=true;exact beq_self_eq_true z
 ·obtain⟨a,t,h1,e2⟩:=at' m hm
  rw[e2];show(a == z)=false;have ne:a≠z:=fun y=>hno m hlt (by rw[h1,y]);exact beq_false_of_ne ne
end
section
variable {H:Hp} {Q:VK}
theorem Zz9 {l:Ab} {ns:List Str} {z:Str} {j:Nat} (h:H l=some (.lst (ns.map V.str))) (hj:ns[j]?=some z) (hno:∀m,m < j→ns[m]?≠some z) (hz:j < 1000000) (q:Q (.int (j:Int)) H):ZBl (.ref l) [.str z] H Q:=⟨l,ns,z,j,rfl,rfl,h,hj,hno,hz,q⟩
end
end L2
namespace L2
open PySem PySem.Spec PyProof.Rows
def PEt (X:Cx) (e:Aw) (t:TE):Prop:=∀(pins:List (Ab×Obj)) (s:Ak) (σ:St) (H:Hp) (Q:VK),Inv X pins σ H s→0 < s.toks→t σ H Q→Bb (model X.prog X.w) X.A (eval e X.env) (EP X pins σ Q) X.xe s
noncomputable def ZJy (to:TE) (y z:Str):TE:=fun σ H Q=>to σ H fun v H1=>∃x:Str,v=.str x∧(y == z)=false∧x.length+(x.length+1) * z.length≤16777216∧Q (.str (Txt.replace x y z)) H1
section
variable {X:Cx}
theorem ZIJ {e:Aw} {t:TE} (h:PE X e t):PEt X e t:=fun pins s σ H Q I _ q=>h pins s σ H Q I q
theorem ZBb {o:Aw} {to:TE} {y z:Str} {i j:Nat} {p q ap cp:Pos} (ho:PEt X o to)
  (hbase:attributeBase o "replace" X.env (eval o X.env)=eval o X.env:=by rfl)
  (hfew:((backTo cp (BX [.Constant (.str y) i p,.Constant (.str z) j q] X.env)).all (fun x=>!x.1) && (backToKw cp (keywordEach [] X.env)).all (fun x=>x.1.isSome)
   && decide ([Aw.Constant (.str y) i p,.Constant (.str z) j q].length+([]:List Hy).length+(if ([]:List Hy).isEmpty then 0 else 1) < 30))=true:=by rfl)
  (hline:(ap.endLine == cp.line)=true:=by rfl) (h1:BX [.Constant (.str y) i p,.Constant (.str z) j q] X.env=[(false,eval (.Constant (.str y) i p) X.env),(false,eval (.Constant (.str z) j q) X.env)]:=by rfl) :
  PEt X (.Call (.Attribute o "replace" ap) [.Constant (.str y) i p,.Constant (.str z) j q] [] cp) (ZJy to y z):=by
 intro pins s σ H Q I htk h;refine gh hbase hfew hline rfl (Fv (YaV (n:=1) htk (ho pins s σ H _ I htk h)) (fun v s1 hv=>?_) fun _ _ y=>y.2);obtain⟨tk1,w',H1,I1,r1,x,rfl,hz,hlen,q1⟩:=hv;obtain⟨t,rfl⟩:=r1;obtain⟨t1,t2⟩:=Wz (T:="str") I1 (x:=.str x) ⟨t,rfl⟩ tyS;refine⟨"str","str.replace",HB,Ycd,Yce,t1,t2,?_⟩;rw[h1];refine T6 rfl (T7 (Og (Yak (k:=i) (pos:=p) (Og (Yak (k:=j) (pos:=q) (dq ?_))))));refine SC.replace (Od tk1) (Nat.succ_ne_zero _) (DQ (Oe _)) hz hlen fun t' k'=>?_;exact⟨.str (Txt.replace x y z),H1,I1.tok k',⟨t',rfl⟩,q1⟩
theorem ZGx {e:Aw} {t:TE} {pos:Pos} (h:PEt X e t):PSt X (.Return (some e) pos) (tRet t):=fun pins s σ H D I htk q=>Ybo (thn (h pins s σ H _ I htk q) fun u s1 ⟨v,H1,I1,r,z⟩=>⟨v,σ,H1,I1,r,z⟩)
theorem ZDm {st:Ar} {t:TS} (h:PSt X st t):PSst X [st] t:=by
 intro pins s σ H D I htk q;refine TV (thn (h pins s σ H D I htk q) fun f s1 q=>?_)
 cases f with
 | next=>exact Oc q
 | ret v=>exact q
 | brk=>exact q
 | cont=>exact q
theorem ZHU {to:TE} {y z:Str} {σ:St} {H:Hp} {Q:VK} (h:to σ H fun v H1=>∃x:Str,v=.str x∧(y == z)=false∧x.length+(x.length+1) * z.length≤16777216∧Q (.str (Txt.replace x y z)) H1):ZJy to y z σ H Q:=h
end
section
variable {X:Cx}
noncomputable def ZJ6:R2:=fun x y H Q=>q9 x y H Q∨ZIV x y H Q
theorem ut:OpR X (binaryOp .Mult) ZJ6:=OpR.or GZ ZGe
end
end L2
namespace L2
open PySem PySem.Spec PyProof.Rows
theorem ZwS (l:Ab) (items:Array Ae) (n:Nat) (dd:Option Ab) (sl:Array (Option Ae)) (x:Ae) (e:Ae→Bool) (he:∀y,y∈items→Yck y x (e y)) (j:Nat) (hj:j < items.size)
  (hit:e items[j]=true) (hno:∀m (hm:m < items.size),m < j→e items[m]=false) :
  Meets (Builtin.«tuple.index» ⟨[.ref l,x],[]⟩)
   (fun _ R s=>s.heap.get? l=some { cls:=.type "tuple",dict:=dd,data:=.seq items n,slots:=sl }∧R (.ok (.ret (.int j s.toks))) { s with toks:=s.toks+1 }):=by
 intro prog w A R s h;obtain⟨hp,g,d,tk,os⟩:=s; obtain⟨hl,h⟩:=h;unfold Builtin.«tuple.index»;simp only [Ydn]
 wp_walk using iy hl,wpAny_forIn_list _ (fun rest b s'=>b.1=none∧s'=⟨hp,g,d,tk,os⟩ ∧∃i,i≤j∧rest=YaZ i (items.size - i)) _
 case turn=>
  rintro k rest b s' ⟨hb,rfl,i,hi,hr⟩
  have hlt:i < items.size:=by omega
  rw[show items.size - i=(items.size - (i+1))+1 by omega,Ycl]at hr;obtain⟨rfl,rfl⟩:=Ya0 hr;rw[Array.getElem?_eq_getElem hlt];refine BP (he _ (Array.getElem_mem hlt) prog w _ _ _ _ ?_)
  by_cases hij:k=j
  ·subst hij
   rw[hit]
   wp_walk
   exact h
  ·rw[hno k hlt (by omega)]
   wp_walk
   exact⟨rfl,rfl,k+1,by omega,rfl⟩
 case fin=>
  rintro b s' ⟨hb,rfl,i,hi,hr⟩;have:=congrArg K7 hr;simp at this;omega
 case h=>
  refine⟨rfl,rfl,0,De _,?_⟩;simp[Ydo]
noncomputable def ZBm:V→List V→Hp→VK→Prop:=fun x vs H Q=>∃(l:Ab) (ns:List Str) (z:Str) (j:Nat),x=.ref l∧vs=[.str z]∧H l=some (.tup (ns.map V.str))∧ns[j]?=some z∧(∀m,m < j→ns[m]?≠some z)∧Q (.int (j:Int)) H
section
variable {X:Cx}
theorem uv:MtM X "tuple.index" ZBm:=by
 intro pins s σ H x vs v us Q I rx rv h;obtain⟨l,ns,z,j,rfl,rfl,hH,hj,hno,q⟩:=h
 cases rx
 obtain⟨u,rfl,ru⟩:=rv.one;obtain⟨tu,rfl⟩:=(show ∃t,u=Ht z t from ru);obtain⟨its,r,⟨⟨cls,dd,dat,sl⟩,e,hc,n,hd⟩,_⟩:=I.tuple (SqT.of hH)
 cases hc
 cases hd
 have at':∀m (hm:m < its.toArray.size),∃a t,ns[m]?=some a∧its.toArray[m]=Ht a t:=fun m hm=>by
  rw[Du]at hm
  have hn:m < ns.length:=by
   have:=r.length;rw[Ax]at this;omega
  obtain⟨w',hw,rw'⟩:=r.get (i:=m) (x:=V.str ns[m]) (by rw[El,Dr hn]; rfl);obtain⟨t,ht⟩:=(show ∃t,w'=Ht ns[m] t from rw');refine⟨ns[m],t,Dr hn,?_⟩;rw[Dr hm]at hw;rw[Yci,Dl hw,ht]
 have hjl:j < its.toArray.size:=by
  have h1:=(Ej.mp hj).1;have:=r.length;rw[Ax]at this;rw[Du];omega
 refine JP jk ⟨_,e,rfl⟩ F.entry_tuple_index (F.args_tuple_index_2 _ _) (ZwS l its.toArray n dd sl (.str z tu) (isTx z) (fun y hy=>?_) j hjl ?_ (fun m hm hlt=>?_)) ⟨e,⟨.int (j:Int),H,I.tok _,⟨_,rfl⟩,q⟩⟩
 ·obtain⟨m,hm,rfl⟩:=Ycj.mp hy
  obtain⟨a,t,_,e2⟩:=at' m hm;rw[e2];exact YaY a z t tu
 ·obtain⟨a,t,h1,e2⟩:=at' j hjl
  rw[e2];rw[hj]at h1
  cases h1
  show(z == z)=true;exact beq_self_eq_true z
 ·obtain⟨a,t,h1,e2⟩:=at' m hm
  rw[e2];show(a == z)=false;have ne:a≠z:=fun y=>hno m hlt (by rw[h1,y]);exact beq_false_of_ne ne
end
noncomputable abbrev tBT (r:V→List V→Hp→VK→Prop) (to:TE) (t:TA):TE:=fun σ H Q=>to σ H fun x H1=>(∃p xs,x=.ref p∧H1 p=some (.tup xs))∧t σ H1 fun vs H2=>r x vs H2 Q
section
variable {X:Cx} {o e:Aw} {es:List Aw} {to:TE} {t:TA} {name:Str} {apos cpos:Pos} {id:String} {r:V→List V→Hp→VK→Prop}
theorem uw (slot:Slot "tuple" name id) (hty:typeOf (.builtin id)=pure (.type "method_descriptor")) (hm:MtR X id r) (ho:PE X o to) (ha:PA X (e::es) t)
  (hbase:attributeBase o name X.env (eval o X.env)=eval o X.env:=by rfl)
  (hfew:((backTo cpos (BX (e::es) X.env)).all (fun x=>!x.1) && (backToKw cpos (keywordEach [] X.env)).all (fun x=>x.1.isSome)
   && decide ((e::es).length+([]:List Hy).length+(if ([]:List Hy).isEmpty then 0 else 1) < 30))=true:=by rfl)
  (hline:(apos.endLine == cpos.line)=true:=by rfl) (hs:BX (e::es) X.env=(false,eval e X.env)::BX es X.env:=by rfl) (hplain:(backTo cpos (BX es X.env)).any (·.1)=false:=by rfl) :
  PE X (.Call (.Attribute o name apos) (e::es) [] cpos) (tBT r to t):=by
 intro pins s σ H Q I h;refine gh hbase hfew hline rfl (thn (ho pins s σ H _ I h) fun v s1 ⟨x,H1,I1,r1,⟨p,xs,ex,hp⟩,q1⟩=>?_);subst ex
 cases r1
 obtain⟨_,its,_,ob,g1,g2,n,g3,g4⟩:=(show DG X.prog X.w H1 s1.heap p (.tup xs) from I1.hok p _ hp);refine⟨"tuple",id,PySem.F.plainAttrs_tuple,slot,hty,⟨ob,g1,g2⟩,fun a e=>(by cases e; exact⟨ob,g1,g4⟩),?_⟩;have hA:=ha cpos pins s1 σ H1 _ I1 q1;rw[hs]at hA ⊢;refine T6 (by show(false || (backTo cpos (BX es X.env)).any (·.1))=false; rw[hplain] <;> rfl) (T7 ?_);exact thn hA fun us s2 ⟨vs,H2,I2,r2,q2⟩=>hm pins s2 σ H2 (.ref p) vs (.ref p) us Q I2 rfl r2 q2
end
section
variable {H:Hp} {Q:VK}
theorem ZHE {r:V→List V→Hp→VK→Prop} {to:TE} {t:TA} {σ:St} (h:to σ H fun x H1=>(∃p xs,x=.ref p∧H1 p=some (.tup xs))∧t σ H1 fun vs H2=>r x vs H2 Q):tBT r to t σ H Q:=h
theorem ux {l:Ab} {ns:List Str} {z:Str} {j:Nat} (h:H l=some (.tup (ns.map V.str))) (hj:ns[j]?=some z) (hno:∀m,m < j→ns[m]?≠some z) (q:Q (.int (j:Int)) H):ZBm (.ref l) [.str z] H Q:=⟨l,ns,z,j,rfl,rfl,h,hj,hno,q⟩
end
end L2
open PySem L2
abbrev Stp (G N:Prop):=G=N→N→G
local macro_rules | `(tactic| walk_at "side") => `(tactic| first | omega | (show (_ : Int) < _; omega) | exact ⟨by omega, by omega⟩ | exact ⟨by omega, by omega, by decide⟩)
local macro_rules | `(tactic| walk_at $z:str) => do
  let z:=z.getString
  unless ["rd","rs",""].contains z do Lean.Macro.throwUnsupported
  let f:=fun (s:String)=>((s.splitOn " ").toArray.map fun x=>Lean.mkIdent x.toName)
  let a←(f ((if z=="rs" then "" else "Hq ZHF ZJS ZHU ")++"ZHH ZHI ZEk ZHX ZHN Zz7 Zz8 ZD7 ZD6 ZD8 ZEl Zxa Zz4 ZHT ZDX i_rU ZD3 ZD4 ZEd ZEe qg qi qj ql ZEa qx ZHO")).mapM fun i=>`(tactic|refine $i ?_)
  let k←(f "ZnC").mapM fun i=>`(tactic|exact $i _)
  let t←`(tactic| first
 | ((with_reducible refine' ZHY ?hv ?_); (case hv=>exact rfl))
 | ((with_reducible refine ZEc ?_); (try dsimp only [Ycm,Ycn]))
 | (with_reducible first $[| $a:tactic]*)
 | ((with_reducible refine i_rI ?hc ?_); (case hc=>walk_at "side"))
 | ((with_reducible refine' qu ?hc ?_); (case hc=>assumption))
 | ((with_reducible refine' IV ?hc ?_); (case hc=>assumption))
 | ((with_reducible refine' qw ?hc ?_); (case hc=>assumption))
 | ((with_reducible refine' ZEb ?ht ?he ?_); (case ht=>first | exact TyOf.bl _ | exact TyOf.int _ | exact TyOf.str _ | exact TyOf.non | exact TyOf.lst (by assumption) | exact TyOf.tup (by assumption)); (case he=>first | exact Zxi _ _ $[| $k:tactic]*)))
  let c←`(tactic| try (refine' (?wf:Stp _ _) ?we ?_; (case we=>(with_reducible conv=>lhs;whnf)); (case wf=>with_reducible exact fun _ h=>h)))
  `(tactic| ($c:tactic; repeat ($t:tactic; $c:tactic)))
local macro_rules | `(tactic| walk_at "hp") => `(tactic| first | assumption | solve_by_elim (maxDepth := 16) only [*, Bw])
local macro_rules | `(tactic| walk_at "rd0") => `(tactic| ((try dsimp only [cxOf]); (try simp only [L2.start, Dq, Gx, CT, Gw, Yco, Ycp, Ycq, Es, jm, Ya1, Ya2]); walk_at "rd"))
local macro_rules | `(tactic| walk_at "rs0") => `(tactic| ((try dsimp only [cxOf]); (try simp only [L2.start, Dq, Gx, CT, Gw, Yco, Ycp, Ycq, Es, jm, Ya1, Ya2]); walk_at "rs"))
local macro_rules | `(tactic| walk_at "tst") => `(tactic| (walk_at "rd"; repeat ((first | refine Cg (decide_eq_true (by omega)) ?_ | refine Ba (decide_eq_false (by omega)) ?_ | refine Ba rfl ?_ | refine Cg rfl ?_ | refine ⟨_, rfl, ?_⟩); walk_at "rd")))
open PySem L2
theorem lnZ0 {A:Type} {P:List A→Prop} (h:P []):∀u:List A,u.length=0→P u:=fun u e=>(List.eq_nil_of_length_eq_zero e).symm▸h
theorem lnC {A:Type} {P:List A→Prop} {n:Nat} (h:∀a u,u.length=n→P (a::u)):∀u:List A,u.length=n+1→P u:=by
 intro u e;cases u with
 | nil=>cases e
 | cons a u=>exact h a u (Nat.succ.inj e)
theorem lnZ1 {A:Type} {P:List A→Prop} (h:∀a,P [a]):∀u:List A,u.length=1→P u:=lnC fun a=>lnZ0 (P:=fun r=>P (a::r)) (h a)
theorem lnZ2 {A:Type} {P:List A→Prop} (h:∀a b,P [a,b]):∀u:List A,u.length=2→P u:=lnC fun a=>lnZ1 (P:=fun r=>P (a::r)) (h a)
theorem lnZ3 {A:Type} {P:List A→Prop} (h:∀a b c,P [a,b,c]):∀u:List A,u.length=3→P u:=lnC fun a=>lnZ2 (P:=fun r=>P (a::r)) (h a)
theorem lnZ4 {A:Type} {P:List A→Prop} (h:∀a b c d,P [a,b,c,d]):∀u:List A,u.length=4→P u:=lnC fun a=>lnZ3 (P:=fun r=>P (a::r)) (h a)
theorem lnZ5 {A:Type} {P:List A→Prop} (h:∀a b c d e,P [a,b,c,d,e]):∀u:List A,u.length=5→P u:=lnC fun a=>lnZ4 (P:=fun r=>P (a::r)) (h a)
theorem lnZ6 {A:Type} {P:List A→Prop} (h:∀a b c d e f,P [a,b,c,d,e,f]):∀u:List A,u.length=6→P u:=lnC fun a=>lnZ5 (P:=fun r=>P (a::r)) (h a)
theorem lnZ7 {A:Type} {P:List A→Prop} (h:∀a b c d e f g,P [a,b,c,d,e,f,g]):∀u:List A,u.length=7→P u:=lnC fun a=>lnZ6 (P:=fun r=>P (a::r)) (h a)
local macro_rules | `(tactic| walk_at "b") => `(tactic| (intro _ _ _ _ _ _; first | exact lnZ1 (fun _=>rfl) | exact lnZ2 (fun _ _=>rfl) | exact lnZ3 (fun _ _ _=>rfl) | exact lnZ4 (fun _ _ _ _=>rfl) | exact lnZ5 (fun _ _ _ _ _=>rfl) | exact lnZ6 (fun _ _ _ _ _ _=>rfl) | exact lnZ7 (fun _ _ _ _ _ _ _=>rfl)))
local macro_rules | `(tactic| walk_at "sc") => `(tactic| exact ⟨rfl, rfl, rfl, by decide +kernel, rfl, by decide +kernel, by decide +kernel⟩)
namespace LW
open PySem L2 EM
open List (map_drop map_take take_nil)
noncomputable def top (i:Nat):Ar:=Ydp.main.body.getD i (.Pass ⟨0,0,0,0⟩)
noncomputable abbrev uz:Ar:=top 2
noncomputable abbrev u5:Ar:=top 51
noncomputable abbrev u6:Ar:=top 52
noncomputable abbrev u9:Ar:=top 54
noncomputable abbrev vd:Ar:=top 55
noncomputable abbrev W8:Ar:=top 56
noncomputable abbrev vf:Ar:=top 59
noncomputable abbrev vg:Ar:=top 63
noncomputable abbrev vh:Ar:=top 76
noncomputable abbrev vm:Ar:=top 79
noncomputable abbrev vo:Ar:=top 80
noncomputable abbrev vp:Ar:=top 81
noncomputable abbrev vq:Ar:=top 82
noncomputable abbrev vy:Ar:=top 84
noncomputable abbrev vz:Ar:=top 89
noncomputable abbrev wg:Ar:=top 90
noncomputable abbrev wj:Ar:=top 91
noncomputable abbrev wk:Ar:=top 92
noncomputable abbrev wu:Ar:=top 93
noncomputable abbrev ww:Ar:=top 94
noncomputable abbrev wy:Ar:=top 95
noncomputable abbrev wz:Ar:=top 96
noncomputable abbrev xf:Ar:=top 97
noncomputable abbrev xg:Ar:=top 98
noncomputable abbrev xj:Ar:=top 99
noncomputable abbrev xq:Ar:=top 100
noncomputable abbrev xr:Ar:=top 110
noncomputable abbrev xu:Ar:=top 111
noncomputable abbrev xx:Ar:=top 112
noncomputable abbrev yc:Ar:=top 113
noncomputable abbrev yd:Ar:=top 114
noncomputable abbrev ye:Ar:=top 120
noncomputable abbrev yf:Ar:=top 122
noncomputable abbrev yg:Ar:=top 125
noncomputable abbrev yh:Ar:=top 126
noncomputable abbrev yj:Ar:=top 127
noncomputable abbrev ym:Ar:=top 128
noncomputable abbrev yo:Ar:=top 129
noncomputable abbrev yp:Ar:=top 130
noncomputable abbrev yq:Ar:=top 131
noncomputable abbrev yr:Ar:=top 132
noncomputable abbrev U5:Ar:=top 133
noncomputable abbrev yt:Ar:=top 134
noncomputable abbrev U6:Ar:=top 135
noncomputable abbrev yu:Ar:=top 136
noncomputable abbrev yw:Ar:=top 137
noncomputable abbrev yx:Ar:=top 138
noncomputable abbrev yz:Ar:=top 139
noncomputable abbrev za:Ar:=top 140
noncomputable abbrev zb:Ar:=top 141
noncomputable abbrev zc:Ar:=top 142
noncomputable abbrev zf:Ar:=top 143
noncomputable abbrev zg:Ar:=top 144
noncomputable abbrev J1:Ar:=top 145
noncomputable abbrev zj:Ar:=CJ (top 57) 0
noncomputable abbrev zm:Ar:=CJ (top 57) 1
noncomputable abbrev zp:Ar:=CJ (top 60) 0
noncomputable abbrev zq:Ar:=CJ (top 60) 1
noncomputable abbrev zr:Ar:=CJ (top 60) 2
noncomputable abbrev zu:Ar:=CJ (top 61) 0
noncomputable abbrev W9:Ar:=CJ (top 61) 1
noncomputable abbrev zx:Ar:=CJ (top 61) 2
noncomputable abbrev zy:Ar:=CJ (top 64) 0
noncomputable abbrev z8:Ar:=CJ (top 65) 0
noncomputable abbrev Zju:Ar:=CJ (top 65) 1
noncomputable abbrev Zjt:Ar:=CJ (top 65) 2
noncomputable abbrev Zjv:Ar:=CJ (top 65) 4
noncomputable abbrev Zlo:Ar:=CJ (top 66) 0
noncomputable abbrev Zjz:Ar:=CJ (top 66) 1
noncomputable abbrev Zjy:Ar:=CJ (top 66) 2
noncomputable abbrev ZjA:Ar:=CJ (top 66) 4
noncomputable abbrev Zm7:Ar:=CJ (top 67) 0
noncomputable abbrev Zlm:Ar:=CJ (top 67) 1
noncomputable abbrev Zll:Ar:=CJ (top 67) 2
noncomputable abbrev Zln:Ar:=CJ (top 67) 4
noncomputable abbrev Ziz:Ar:=CJ (top 68) 0
noncomputable abbrev Zhr:Ar:=CJ (top 68) 2
noncomputable abbrev Zgw:Ar:=CJ (top 69) 0
noncomputable abbrev Zix:Ar:=CJ (top 69) 1
noncomputable abbrev Zlg:Ar:=CJ (top 69) 2
noncomputable abbrev Zlf:Ar:=CJ (top 69) 3
noncomputable abbrev ZeC:Ar:=CJ (top 70) 0
noncomputable abbrev ZfJ:Ar:=CJ (top 70) 1
noncomputable abbrev Zhq:Ar:=CJ (top 70) 2
noncomputable abbrev Zhp:Ar:=CJ (top 70) 3
noncomputable abbrev Zht:Ar:=CJ (top 71) 0
noncomputable abbrev Zjx:Ar:=CJ (top 71) 1
noncomputable abbrev Zm9:Ar:=CJ (top 71) 2
noncomputable abbrev Zm8:Ar:=CJ (top 71) 3
noncomputable abbrev Zjw:Ar:=CJ (top 83) 0
noncomputable abbrev Zfq:Ar:=CJ (top 83) 1
noncomputable abbrev Zfp:Ar:=CJ (top 83) 2
noncomputable abbrev Zfr:Ar:=CJ (top 83) 3
noncomputable abbrev ZiA:Ar:=CJ (top 83) 4
noncomputable abbrev Zlh:Ar:=CJ (top 123) 0
noncomputable abbrev Zm6:Ar:=CJ (top 123) 1
theorem ZsN:FnScope ["many"] ["many"] (Az uz):=by walk_at "sc"
theorem Xa:FnScope ["chart","found","wider"] ["chart"] (Az u5):=by walk_at "sc"
theorem Zy6:FnScope ["chart"] ["chart"] (Az u6):=by walk_at "sc"
theorem ZwM:FnScope ["thing"] ["thing"] (Az u9):=by walk_at "sc"
theorem ZwL:FnScope ["thing","many"] ["thing","many"] (Az vd):=by walk_at "sc"
theorem ZwK:FnScope ["many","starts","bads","after"] ["many","starts","bads","after"] (Az W8):=by walk_at "sc"
theorem Xb:FnScope ["formulas","many","found","formula"] ["formulas","many"] (Az vf):=by walk_at "sc"
theorem ZuT:FnScope ["part","text","bound"] ["part","text","bound"] (Az vg):=by walk_at "sc"
theorem Xc:FnScope ["text","sign","spaced","mark"] ["text"] (Az vh):=by walk_at "sc"
theorem ZBv:FnScope ["parts"] ["parts"] (Az vm):=by walk_at "sc"
theorem ZuU:FnScope ["parts"] ["parts"] (Az vo):=by walk_at "sc"
theorem ZDt:FnScope ["parts"] ["parts"] (Az vp):=by walk_at "sc"
theorem ZBw:FnScope ["word","names"] ["word","names"] (Az vq):=by walk_at "sc"
theorem Xd:FnScope ["found","names","levels","word","level"] ["found","names"] (Az vy):=by walk_at "sc"
theorem Xe:FnScope ["move","names","pieces","lamp","formula"] ["move","names"] (Az vz):=by walk_at "sc"
theorem O2:FnScope ["machine","names","lines","formula","move"] ["machine"] (Az wg):=by walk_at "sc"
theorem ZiW:FnScope ["line","found"] ["line"] (Az wj):=by walk_at "sc"
theorem ZdO:FnScope ["found","pieces","word"] ["found"] (Az wk):=by walk_at "sc"
theorem ZuV:FnScope ["found"] ["found"] (Az wu):=by walk_at "sc"
theorem ZqO:FnScope ["found"] ["found"] (Az ww):=by walk_at "sc"
theorem Zms:FnScope ["found","piece"] ["found"] (Az wy):=by walk_at "sc"
theorem ZsO:FnScope ["found"] ["found"] (Az wz):=by walk_at "sc"
theorem Xf:FnScope ["found","names","at","name"] ["found"] (Az xf):=by walk_at "sc"
theorem Xg:FnScope ["pieces","names","lamps","piece","name"] ["pieces","names"] (Az xg):=by walk_at "sc"
theorem LC:FnScope ["found","names","pieces","lamps","guard","changes","lamp","piece"] ["found","names"] (Az xj):=by walk_at "sc"
theorem ZwN:FnScope ["found","names"] ["found","names"] (Az xq):=by walk_at "sc"
theorem Zmr:FnScope ["found","first"] ["found"] (Az xr):=by walk_at "sc"
theorem ZuW:FnScope ["machine"] ["machine"] (Az xu):=by walk_at "sc"
theorem ZqP:FnScope ["machine","things"] ["machine","things"] (Az xx):=by walk_at "sc"
theorem ZsM:FnScope ["machine","found","thing","things"] ["machine","found"] (Az yc):=by walk_at "sc"
theorem Zrn:FnScope ["machine","sort","things"] ["machine","sort"] (Az yd):=by walk_at "sc"
theorem ZhA:FnScope ["machine","found","formula","outside"] ["machine","found"] (Az ye):=by walk_at "sc"
theorem Zy7:FnScope ["machine","found"] ["machine","found"] (Az yf):=by walk_at "sc"
theorem ZpS:FnScope ["_law_script","_law_k"] ["_law_script","_law_k"] (Az yg):=by walk_at "sc"
theorem ZiH:FnScope ["_law_name_here","_law_names_here","_law_some"] ["_law_name_here","_law_names_here"] (Az yh):=by walk_at "sc"
theorem LK:FnScope ["_law_seed","_law_size","_law_some","_law_name_here","_law_state","_law_k"] ["_law_seed","_law_size"] (Az yj):=by walk_at "sc"
theorem KD:FnScope ["_law_k","_law_cell","_law_some","_law_way","_law_size","_law_word","_law_place","_law_at"] ["_law_k","_law_cell"] (Az ym):=by walk_at "sc"
theorem ZiI:FnScope ["_law_many","_law_cell","_law_names_here","_law_k"] ["_law_many","_law_cell"] (Az yo):=by walk_at "sc"
theorem ZnW:FnScope ["_law_tree_here","_law_wraps"] ["_law_tree_here","_law_wraps"] (Az yp):=by walk_at "sc"
theorem HN:FnScope ["_law_cell","_law_many","_law_deep","_law_kind","_law_more","_law_parts","_law_k"] ["_law_cell","_law_many","_law_deep"] (Az yq):=by walk_at "sc"
theorem Zmp:FnScope ["_law_bag","_law_many","_law_found"] ["_law_bag","_law_many"] (Az yr):=by walk_at "sc"
theorem O3:FnScope ["_law_bag","_law_many","_law_deep","_law_kind","_law_parts"] ["_law_bag","_law_many","_law_deep"] (Az U5):=by walk_at "sc"
theorem ZuS:FnScope ["_law_more","_law_many","_law_free"] ["_law_more","_law_many","_law_free"] (Az yt):=by walk_at "sc"
theorem Fd:FnScope ["_law_tree_here","_law_names_here","_law_wraps","_law_kind","_law_bind","_law_found","_law_part","_law_inner"] ["_law_tree_here","_law_names_here","_law_wraps"] (Az U6):=by walk_at "sc"
theorem Zmq:FnScope ["_law_tree_here","_law_names_here","_law_line"] ["_law_tree_here","_law_names_here"] (Az yu):=by walk_at "sc"
theorem Ju:FnScope ["_law_some","_law_seed","_law_line","_law_last","_law_state","_law_word","_law_gap"] ["_law_some","_law_seed"] (Az yw):=by walk_at "sc"
theorem Xh:FnScope ["_law_more","_law_names_here","_law_many","_law_changes_here","_law_k"] ["_law_more","_law_names_here"] (Az yx):=by walk_at "sc"
theorem O4:FnScope ["_law_bag","_law_names_here","_law_guard","_law_names_left","_law_changes_here","_law_k","_law_name_here"] ["_law_bag","_law_names_here"] (Az yz):=by walk_at "sc"
theorem HQ:FnScope ["_law_more","_law_names_here","_law_free","_law_guard","_law_changes_here","_law_some","_law_pieces","_law_mark","_law_name_here","_law_tree_here"] ["_law_more","_law_names_here","_law_free"] (Az za):=by walk_at "sc"
theorem Xi:FnScope ["_law_model","_law_lines","_law_sort"] ["_law_model"] (Az zb):=by walk_at "sc"
theorem Zmo:FnScope ["_law_model","_law_cell","_law_sort"] ["_law_model","_law_cell"] (Az zc):=by walk_at "sc"
theorem Jv:FnScope ["_law_model","_law_cell","_law_free","_law_kind","_law_more","_law_sort","_law_some","_law_line","_law_word","_law_tree_here"] ["_law_model","_law_cell","_law_free"] (Az zf):=by walk_at "sc"
theorem ZjN:FnScope ["_law_desk","_law_some","_law_due","_law_seed","_law_told"] ["_law_desk","_law_some","_law_due","_law_seed"] (Az zg):=by walk_at "sc"
theorem FN:FnScope ["_law_script","_law_desks","_law_models","_law_k","_law_some","_law_due","_law_free","_law_tells","_law_cell","_law_mixed","_law_at"] ["_law_script"] (Az J1):=by walk_at "sc"
theorem ZsE:FnScope ["self","many","starts","bads","after"] ["self","many","starts","bads","after"] (Az zj):=by walk_at "sc"
theorem U7:FnScope ["self","crowd","found","stand","onto"] ["self","crowd"] (Az zm):=by walk_at "sc"
theorem ZuO:FnScope ["self","guard","changes"] ["self","guard","changes"] (Az zp):=by walk_at "sc"
theorem ZuN:FnScope ["self","stand"] ["self","stand"] (Az zq):=by walk_at "sc"
theorem O5:FnScope ["self","stand","found","lamp","formula"] ["self","stand"] (Az zr):=by walk_at "sc"
theorem ZpP:FnScope ["self","names","starts","bads","moves"] ["self","names","starts","bads","moves"] (Az zu):=by walk_at "sc"
theorem ZfK:FnScope ["self","many","after"] ["self"] (Az W9):=by walk_at "sc"
theorem Xj:FnScope ["self","stand","found","move"] ["self","stand"] (Az zx):=by walk_at "sc"
theorem Zdn:FnScope ["self"] ["self"] (Az zy):=by walk_at "sc"
theorem ZuM:FnScope ["self","at"] ["self","at"] (Az z8):=by walk_at "sc"
theorem ZsF:FnScope ["self","stand"] ["self","stand"] (Az Zju):=by walk_at "sc"
theorem Xk:FnScope ["self","many","found","stand"] ["self","many"] (Az Zjt):=by walk_at "sc"
theorem ZsG:FnScope ["self","names"] ["self","names"] (Az Zjv):=by walk_at "sc"
theorem ZuR:FnScope ["self","truth"] ["self","truth"] (Az Zlo):=by walk_at "sc"
theorem ZsK:FnScope ["self","stand"] ["self","stand"] (Az Zjz):=by walk_at "sc"
theorem ZsJ:FnScope ["self","many"] ["self","many"] (Az Zjy):=by walk_at "sc"
theorem ZsL:FnScope ["self","names"] ["self","names"] (Az ZjA):=by walk_at "sc"
theorem ZwJ:FnScope ["self","part"] ["self","part"] (Az Zm7):=by walk_at "sc"
theorem ZuQ:FnScope ["self","stand"] ["self","stand"] (Az Zlm):=by walk_at "sc"
theorem ZuP:FnScope ["self","many"] ["self","many"] (Az Zll):=by walk_at "sc"
theorem ZnV:FnScope ["self","names","text"] ["self","names"] (Az Zln):=by walk_at "sc"
theorem ZqM:FnScope ["self","parts"] ["self","parts"] (Az Ziz):=by walk_at "sc"
theorem Zgz:FnScope ["self","names","texts","part"] ["self","names"] (Az Zhr):=by walk_at "sc"
theorem Zn7:FnScope ["self"] ["self"] (Az Zgw):=by walk_at "sc"
theorem ZqL:FnScope ["self"] ["self"] (Az Zix):=by walk_at "sc"
theorem ZnU:FnScope ["self","stand","part"] ["self","stand"] (Az Zlg):=by walk_at "sc"
theorem Xl:FnScope ["self","many","found","part"] ["self","many"] (Az Zlf):=by walk_at "sc"
theorem Zly:FnScope ["self"] ["self"] (Az ZeC):=by walk_at "sc"
theorem Znf:FnScope ["self"] ["self"] (Az ZfJ):=by walk_at "sc"
theorem Xm:FnScope ["self","stand","odd","part"] ["self","stand"] (Az Zhq):=by walk_at "sc"
theorem Xn:FnScope ["self","many","found","part"] ["self","many"] (Az Zhp):=by walk_at "sc"
theorem ZpR:FnScope ["self"] ["self"] (Az Zht):=by walk_at "sc"
theorem ZsI:FnScope ["self"] ["self"] (Az Zjx):=by walk_at "sc"
theorem ZpQ:FnScope ["self","stand","part"] ["self","stand"] (Az Zm9):=by walk_at "sc"
theorem Xo:FnScope ["self","many","found","part"] ["self","many"] (Az Zm8):=by walk_at "sc"
theorem ZsH:FnScope ["self"] ["self"] (Az Zjw):=by walk_at "sc"
theorem ZeI:FnScope ["self","part","turn"] ["self","part"] (Az Zfq):=by walk_at "sc"
theorem Zmm:FnScope ["self","word"] ["self","word"] (Az Zfp):=by walk_at "sc"
theorem Zmn:FnScope ["self","word","names"] ["self","word","names"] (Az Zfr):=by walk_at "sc"
theorem ZqN:FnScope ["self"] ["self"] (Az ZiA):=by walk_at "sc"
theorem ZuL:FnScope ["self"] ["self"] (Az Zlh):=by walk_at "sc"
theorem ZpO:FnScope ["self","line","found"] ["self","line"] (Az Zm6):=by walk_at "sc"
def DF (K:Ao) (st:Ar) (nm q:Str) (f:Ab):Prop:=∃d,Fun K nm q st f d
theorem dmk {K:Ao} {st:Ar} {nm q:Str} {f:Ab} {od an:Option Ab} {sl:Array (Option Ae)} {oc kV dc pm cd ct:Ae} (l:K.lookup f=some ⟨oc,od,.func (Kg nm q (Lp st) (Jr st) (Az st) .none kV dc pm an cd ct),sl⟩) (c:V2 K cd q=true) (k:Fz K (.ref f)=true):DF K st nm q f:=⟨_,ZDW l c k⟩
set_option genInjectivity false in
structure Ad where
 O6:Ab
 Xp:Bc
 O7:Ab
 Xq:Bc
 O8:Ab
 Xr:Bc
 O9:Ab
 Xu:Bc
 Pa:Ab
 Xv:Bc
 Pb:Ab
 Xw:Bc
 Pg:Ab
 Xx:Bc
 Ph:Ab
 Xy:Bc
 Pj:Ab
 Xz:Bc
 Pk:Ab
 XC:Bc
 Pq:Ab
 XD:Bc
 Pr:Ab
 XF:Bc
 Pu:Ab
 XH:Bc
 Px:Ab
 XJ:Bc
 Py:Ab
 XM:Bc
 PB:Ab
 XN:Bc
 PL:Ab
 XQ:Bc
 PN:Ab
 XR:Bc
 PP:Ab
 XS:Bc
 PQ:Ab
 XX:Bc
 PX:Ab
 X3:Bc
 P0:Ab
 X4:Bc
 Qa:Ab
 X5:Bc
 Qc:Ab
 X6:Bc
 Qd:Ab
 X7:Bc
 Qe:Ab
 X8:Bc
 Qf:Ab
 Yb:Bc
 Qg:Ab
 Yc:Bc
 Qh:Ab
 Yd:Bc
 Qi:Ab
 Ye:Bc
 Qj:Ab
 Yg:Bc
 Qk:Ab
 Yh:Bc
 Ql:Ab
 Yi:Bc
 Qm:Ab
 Yj:Bc
 Qn:Ab
 Yk:Bc
 Qo:Ab
 Yl:Bc
 Qp:Ab
 Ym:Bc
 Qq:Ab
 Yn:Bc
 Qs:Ab
 Yo:Bc
 Qt:Ab
 Yp:Bc
 Qu:Ab
 Yq:Bc
 Qv:Ab
 Yr:Bc
 Qw:Ab
 Ys:Bc
 LQ:Ab
 Yt:Bc
 Qx:Ab
 Yu:Bc
 Qy:Ab
 Yv:Bc
 Qz:Ab
 Yw:Bc
 QB:Ab
 Yx:Bc
 QC:Ab
 Yy:Bc
 QD:Ab
 Yz:Bc
 QF:Ab
 YB:Bc
 QG:Ab
 YC:Bc
 QH:Ab
 YD:Bc
 f_law:Ab
 d_law:Bc
 LR:Ab
 YF:Bc
 Ma:Ab
 YG:Bc
 Mf:Ab
 YH:Bc
 Mg:Ab
 YJ:Bc
 Mh:Ab
 YK:Bc
 Mi:Ab
 YL:Bc
 Mj:Ab
 YM:Bc
 Ml:Ab
 YQ:Bc
 Jc:Ab
 YS:Bc
 Mm:Ab
 YT:Bc
 Mp:Ab
 YW:Bc
 Mq:Ab
 YX:Bc
 Mr:Ab
 YZ:Bc
 Ms:Ab
 Y7:Bc
 Mt:Ab
 Y8:Bc
 Mu:Ab
 Y9:Bc
 Mw:Ab
 Za:Bc
 Mx:Ab
 Zb:Bc
 Mz:Ab
 Zc:Bc
 MF:Ab
 Zd:Bc
 MJ:Ab
 Ze:Bc
 HR:Ab
 U8:Bc
 HS:Ab
 Zf:Bc
 MK:Ab
 Zg:Bc
 MN:Ab
 Zh:Bc
 MP:Ab
 Zi:Bc
 MT:Ab
 Zj:Bc
 M3:Ab
 Zk:Bc
 M4:Ab
 Zm:Bc
 M5:Ab
 Zn:Bc
 M6:Ab
 Zo:Bc
 M7:Ab
 Zq:Bc
 M8:Ab
 Zr:Bc
 M9:Ab
 Zt:Bc
 Nb:Ab
 Zu:Bc
 Nf:Ab
 Zv:Bc
 Ng:Ab
 Zw:Bc
 Nh:Ab
 Zx:Bc
 Ni:Ab
 Zy:Bc
 Nj:Ab
 Zz:Bc
 Nk:Ab
 ZC:Bc
 Nm:Ab
 ZD:Bc
 Dy:Ab
 DP:Ab
 Cw:Ab
 CK:Ab
 CN:Ab
 C_Not:Ab
 C_And:Ab
 CV:Ab
 C_Or:Ab
 Cr:Ab
 CP:Ab
 Hd:Ab
 v_JOINS:Ab
 v_NO_NAMES:Ab
 v_SORTS:Ab
 v_ALONE:Ab
structure Txt (K:Ao) (mg:Str→Option Ae) (t:Ad):Prop where
 QJ:Fun K "all_stands" "all_stands" uz t.O6 t.Xp
 Znv:Be K t.Xp ["many"] []
 ZnK:mg "all_stands" = some (.ref t.O6)
 QK:Fun K "layers" "layers" u5 t.O7 t.Xq
 Zw0:Be K t.Xq ["chart"] []
 Zxr:mg "layers" = some (.ref t.O7)
 QL:Fun K "reached" "reached" u6 t.O8 t.Xr
 Zti:Be K t.Xr ["chart"] []
 Zus:mg "reached" = some (.ref t.O8)
 QM:Fun K "is_whole" "is_whole" u9 t.O9 t.Xu
 ZqW:Be K t.Xu ["thing"] []
 Zrd:mg "is_whole" = some (.ref t.O9)
 QQ:Fun K "is_crowd" "is_crowd" vd t.Pa t.Xv
 ZqV:Be K t.Xv ["thing","many"] []
 Zrc:mg "is_crowd" = some (.ref t.Pa)
 QR:Fun K "is_chart" "is_chart" W8 t.Pb t.Xw
 ZqU:Be K t.Xw ["many","starts","bads","after"] []
 Zrb:mg "is_chart" = some (.ref t.Pb)
 QS:Fun K "crowd_of_any" "crowd_of_any" vf t.Pg t.Xx
 ZkF:Be K t.Xx ["formulas","many"] []
 ZkM:mg "crowd_of_any" = some (.ref t.Pg)
 QT:Fun K "bracketed" "bracketed" vg t.Ph t.Xy
 ZoG:Be K t.Xy ["part","text","bound"] []
 Zpo:mg "bracketed" = some (.ref t.Ph)
 QV:Fun K "words" "words" vh t.Pj t.Xz
 Zzy:Be K t.Xz ["text"] []
 ZAI:mg "words" = some (.ref t.Pj)
 QW:Fun K "and_of" "and_of" vm t.Pk t.XC
 ZwZ:Be K t.XC ["parts"] []
 Zxq:mg "and_of" = some (.ref t.Pk)
 QX:Fun K "either_of" "either_of" vo t.Pq t.XD
 ZoH:Be K t.XD ["parts"] []
 Zpp:mg "either_of" = some (.ref t.Pq)
 QZ:Fun K "or_of" "or_of" vp t.Pr t.XF
 Zzx:Be K t.XF ["parts"] []
 ZAH:mg "or_of" = some (.ref t.Pr)
 Q0:Fun K "single" "single" vq t.Pu t.XH
 Zw1:Be K t.XH ["word","names"] []
 Zxs:mg "single" = some (.ref t.Pu)
 Q3:Fun K "formula_in" "formula_in" vy t.Px t.XJ
 Znz:Be K t.XJ ["found","names"] []
 ZnO:mg "formula_in" = some (.ref t.Px)
 Q4:Fun K "written_move" "written_move" vz t.Py t.XM
 ZkG:Be K t.XM ["move","names"] []
 ZkN:mg "written_move" = some (.ref t.Py)
 Q5:Fun K "written" "written" wg t.PB t.XN
 Ztk:Be K t.XN ["machine"] []
 Zuu:mg "written" = some (.ref t.PB)
 Q6:Fun K "words_of_line" "words_of_line" wj t.PL t.XQ
 Zi7:Be K t.XQ ["line"] []
 Zjl:mg "words_of_line" = some (.ref t.PL)
 Q7:Fun K "parted_by_commas" "parted_by_commas" wk t.PN t.XR
 ZgF:Be K t.XR ["found"] []
 Zg6:mg "parted_by_commas" = some (.ref t.PN)
 Q8:Fun K "pieces_in" "pieces_in" wu t.PP t.XS
 ZoI:Be K t.XS ["found"] []
 Zpq:mg "pieces_in" = some (.ref t.PP)
 Q9:Fun K "check_lamps" "check_lamps" ww t.PQ t.XX
 ZlL:Be K t.XX ["found"] []
 Zmb:mg "check_lamps" = some (.ref t.PQ)
 Ra:Fun K "check_move" "check_move" wy t.PX t.X3
 Zny:Be K t.X3 ["found"] []
 ZnN:mg "check_move" = some (.ref t.PX)
 Rb:Fun K "check_form" "check_form" wz t.P0 t.X4
 Znw:Be K t.X4 ["found"] []
 ZnL:mg "check_form" = some (.ref t.P0)
 Rc:Fun K "names_in" "names_in" xf t.Qa t.X5
 ZqY:Be K t.X5 ["found"] []
 Zrf:mg "names_in" = some (.ref t.Qa)
 Rf:Fun K "lamps_in" "lamps_in" xg t.Qc t.X6
 ZqX:Be K t.X6 ["pieces","names"] []
 Zre:mg "lamps_in" = some (.ref t.Qc)
 Rg:Fun K "move_in" "move_in" xj t.Qd t.X7
 Zth:Be K t.X7 ["found","names"] []
 Zur:mg "move_in" = some (.ref t.Qd)
 Rh:Fun K "thing_in" "thing_in" xq t.Qe t.X8
 ZqZ:Be K t.X8 ["found","names"] []
 Zrg:mg "thing_in" = some (.ref t.Qe)
 Ri:Fun K "check_line" "check_line" xr t.Qf t.Yb
 Znx:Be K t.Yb ["found"] []
 ZnM:mg "check_line" = some (.ref t.Qf)
 Rj:Fun K "things_of" "things_of" xu t.Qg t.Yc
 ZoJ:Be K t.Yc ["machine"] []
 Zpr:mg "things_of" = some (.ref t.Qg)
 Rk:Fun K "with_things" "with_things" xx t.Qh t.Yd
 ZlN:Be K t.Yd ["machine","things"] []
 Zmd:mg "with_things" = some (.ref t.Qh)
 Rm:Fun K "added" "added" yc t.Qi t.Ye
 Zzw:Be K t.Ye ["machine","found"] []
 ZAG:mg "added" = some (.ref t.Qi)
 Rn:Fun K "dropped" "dropped" yd t.Qj t.Yg
 Ztg:Be K t.Yg ["machine","sort"] []
 Zuq:mg "dropped" = some (.ref t.Qj)
 Ro:Fun K "held_always" "held_always" ye t.Qk t.Yh
 ZlM:Be K t.Yh ["machine","found"] []
 Zmc:mg "held_always" = some (.ref t.Qk)
 Rp:Fun K "told_of" "told_of" yf t.Ql t.Yi
 Ztj:Be K t.Yi ["machine","found"] []
 Zut:mg "told_of" = some (.ref t.Ql)
 Rq:Fun K "_law_cell_at" "_law_cell_at" yg t.Qm t.Yj
 ZkC:Be K t.Yj ["_law_script","_law_k"] []
 ZkJ:mg "_law_cell_at" = some (.ref t.Qm)
 Rr:Fun K "_law_fresh" "_law_fresh" yh t.Qn t.Yk
 Znr:Be K t.Yk ["_law_name_here","_law_names_here"] []
 ZnG:mg "_law_fresh" = some (.ref t.Qn)
 Rt:Fun K "_law_letters" "_law_letters" yj t.Qo t.Yl
 ZkE:Be K t.Yl ["_law_seed","_law_size"] []
 ZkL:mg "_law_letters" = some (.ref t.Qo)
 Ru:Fun K "_law_name" "_law_name" ym t.Qp t.Ym
 ZoD:Be K t.Ym ["_law_k","_law_cell"] []
 Zpl:mg "_law_name" = some (.ref t.Qp)
 Rv:Fun K "_law_names" "_law_names" yo t.Qq t.Yn
 Zns:Be K t.Yn ["_law_many","_law_cell"] []
 ZnH:mg "_law_names" = some (.ref t.Qq)
 Rw:Fun K "_law_rank" "_law_rank" yp t.Qs t.Yo
 ZoE:Be K t.Yo ["_law_tree_here","_law_wraps"] []
 Zpm:mg "_law_rank" = some (.ref t.Qs)
 J2:Fun K "_law_grown" "_law_grown" yq t.Qt t.Yp
 ZF:Be K t.Yp ["_law_cell","_law_many","_law_deep"] []
 ZG:mg "_law_grown" = some (.ref t.Qt)
 Rx:Fun K "_law_digit" "_law_digit" yr t.Qu t.Yq
 Znq:Be K t.Yq ["_law_bag","_law_many"] []
 ZnF:mg "_law_digit" = some (.ref t.Qu)
 J3:Fun K "_law_any_tree" "_law_any_tree" U5 t.Qv t.Yr
 ZJ:Be K t.Yr ["_law_bag","_law_many","_law_deep"] []
 ZK:mg "_law_any_tree" = some (.ref t.Qv)
 Ry:Fun K "_law_tree" "_law_tree" yt t.Qw t.Ys
 ZoF:Be K t.Ys ["_law_more","_law_many","_law_free"] []
 Zpn:mg "_law_tree" = some (.ref t.Qw)
 Np:Fun K "_law_words_of" "_law_words_of" U6 t.LQ t.Yt
 Zgo:Be K t.Yt ["_law_tree_here","_law_names_here","_law_wraps"] []
 Zgs:mg "_law_words_of" = some (.ref t.LQ)
 Rz:Fun K "_law_plain" "_law_plain" yu t.Qx t.Yu
 Znt:Be K t.Yu ["_law_tree_here","_law_names_here"] []
 ZnI:mg "_law_plain" = some (.ref t.Qx)
 RB:Fun K "_law_spaced" "_law_spaced" yw t.Qy t.Yv
 ZlK:Be K t.Yv ["_law_some","_law_seed"] []
 Zma:mg "_law_spaced" = some (.ref t.Qy)
 RC:Fun K "_law_changes" "_law_changes" yx t.Qz t.Yw
 ZkD:Be K t.Yw ["_law_more","_law_names_here"] []
 ZkK:mg "_law_changes" = some (.ref t.Qz)
 RD:Fun K "_law_any_changes" "_law_any_changes" yz t.QB t.Yx
 ZgD:Be K t.Yx ["_law_bag","_law_names_here"] []
 Zg4:mg "_law_any_changes" = some (.ref t.QB)
 RG:Fun K "_law_move" "_law_move" za t.QC t.Yy
 ZoC:Be K t.Yy ["_law_more","_law_names_here","_law_free"] []
 Zpk:mg "_law_move" = some (.ref t.QC)
 RJ:Fun K "_law_shown" "_law_shown" zb t.QD t.Yz
 Znu:Be K t.Yz ["_law_model"] []
 ZnJ:mg "_law_shown" = some (.ref t.QD)
 RK:Fun K "_law_begun" "_law_begun" zc t.QF t.YB
 Znp:Be K t.YB ["_law_model","_law_cell"] []
 ZnE:mg "_law_begun" = some (.ref t.QF)
 RL:Fun K "_law_deed" "_law_deed" zf t.QG t.YC
 ZoB:Be K t.YC ["_law_model","_law_cell","_law_free"] []
 Zpj:mg "_law_deed" = some (.ref t.QG)
 RM:Fun K "_law_answers" "_law_answers" zg t.QH t.YD
 ZkB:Be K t.YD ["_law_desk","_law_some","_law_due","_law_seed"] []
 ZkI:mg "_law_answers" = some (.ref t.QH)
 F_law:Fun K "law" "law" J1 t.f_law t.d_law
 m_law:mg "law" = some (.ref t.f_law)
 U9:Fun K "__init__" "Chart.__init__" zj t.LR t.YF
 Znm:Be K t.YF ["self","many","starts","bads","after"] []
 RN:Fun K "ahead" "Chart.ahead" zm t.Ma t.YG
 ZlH:Be K t.YG ["self","crowd"] []
 Va:Fun K "__init__" "Move.__init__" zp t.Mf t.YH
 Zoz:Be K t.YH ["self","guard","changes"] []
 RP:Fun K "fits" "Move.fits" zq t.Mg t.YJ
 Zoy:Be K t.YJ ["self","stand"] []
 RQ:Fun K "onward" "Move.onward" zr t.Mh t.YK
 ZlJ:Be K t.YK ["self","stand"] []
 Vb:Fun K "__init__" "Machine.__init__" zu t.Mi t.YL
 Zkz:Be K t.YL ["self","names","starts","bads","moves"] []
 RT:Fun K "chart" "Machine.chart" W9 t.Mj t.YM
 Zi3:Be K t.YM ["self"] []
 RV:Fun K "steps_from" "Machine.steps_from" zx t.Ml t.YQ
 ZfN:Be K t.YQ ["self","stand"] []
 Jw:Fun K "looseness" "Formula.looseness" zy t.Jc t.YS
 ZL:Be K t.YS ["self"] []
 Vc:Fun K "__init__" "Lamp.__init__" z8 t.Mm t.YT
 Zox:Be K t.YT ["self","at"] []
 RW:Fun K "holds" "Lamp.holds" Zju t.Mp t.YW
 Zi1:Be K t.YW ["self","stand"] []
 RX:Fun K "crowd" "Lamp.crowd" Zjt t.Mq t.YX
 Zi0:Be K t.YX ["self","many"] []
 RZ:Fun K "shown" "Lamp.shown" Zjv t.Mr t.YZ
 Zi2:Be K t.YZ ["self","names"] []
 Vd:Fun K "__init__" "Sure.__init__" Zlo t.Ms t.Y7
 ZoA:Be K t.Y7 ["self","truth"] []
 R0:Fun K "holds" "Sure.holds" Zjz t.Mt t.Y8
 Zi5:Be K t.Y8 ["self","stand"] []
 R1:Fun K "crowd" "Sure.crowd" Zjy t.Mu t.Y9
 Zi4:Be K t.Y9 ["self","many"] []
 R3:Fun K "shown" "Sure.shown" ZjA t.Mw t.Za
 Zi6:Be K t.Za ["self","names"] []
 Ve:Fun K "__init__" "Not.__init__" Zm7 t.Mx t.Zb
 ZqT:Be K t.Zb ["self","part"] []
 R4:Fun K "holds" "Not.holds" Zlm t.Mz t.Zc
 Zk1:Be K t.Zc ["self","stand"] []
 R5:Fun K "crowd" "Not.crowd" Zll t.MF t.Zd
 Zk0:Be K t.Zd ["self","many"] []
 R6:Fun K "shown" "Not.shown" Zln t.MJ t.Ze
 Zk2:Be K t.Ze ["self","names"] []
 Vf:Fun K "__init__" "Joined.__init__" Ziz t.HR t.U8
 ZM:Be K t.U8 ["self","parts"] []
 KH:Fun K "shown" "Joined.shown" Zhr t.HS t.Zf
 Vg:Be K t.Zf ["self","names"] []
 R7:Fun K "looseness" "And.looseness" Zgw t.MK t.Zg
 ZiZ:Be K t.Zg ["self"] []
 R8:Fun K "between" "And.between" Zix t.MN t.Zh
 ZlG:Be K t.Zh ["self"] []
 R9:Fun K "holds" "And.holds" Zlg t.MP t.Zi
 ZkZ:Be K t.Zi ["self","stand"] []
 Sg:Fun K "crowd" "And.crowd" Zlf t.MT t.Zj
 ZkY:Be K t.Zj ["self","many"] []
 Sh:Fun K "looseness" "Either.looseness" ZeC t.M3 t.Zk
 ZgC:Be K t.Zk ["self"] []
 Sq:Fun K "between" "Either.between" ZfJ t.M4 t.Zm
 ZiO:Be K t.Zm ["self"] []
 Ss:Fun K "holds" "Either.holds" Zhq t.M5 t.Zn
 Zhe:Be K t.Zn ["self","stand"] []
 Su:Fun K "crowd" "Either.crowd" Zhp t.M6 t.Zo
 Zhd:Be K t.Zo ["self","many"] []
 Sv:Fun K "looseness" "Or.looseness" Zht t.M7 t.Zq
 ZkA:Be K t.Zq ["self"] []
 Sw:Fun K "between" "Or.between" Zjx t.M8 t.Zr
 Zno:Be K t.Zr ["self"] []
 Sx:Fun K "holds" "Or.holds" Zm9 t.M9 t.Zt
 ZmE:Be K t.Zt ["self","stand"] []
 Sy:Fun K "crowd" "Or.crowd" Zm8 t.Nb t.Zu
 ZmD:Be K t.Zu ["self","many"] []
 Vh:Fun K "__init__" "Level.__init__" Zjw t.Nf t.Zv
 Znn:Be K t.Zv ["self"] []
 SJ:Fun K "take_part" "Level.take_part" Zfq t.Ng t.Zw
 ZhI:Be K t.Zw ["self","part"] []
 SM:Fun K "take_join" "Level.take_join" Zfp t.Nh t.Zx
 ZhH:Be K t.Zx ["self","word"] []
 SN:Fun K "take_word" "Level.take_word" Zfr t.Ni t.Zy
 ZhJ:Be K t.Zy ["self","word","names"] []
 SQ:Fun K "whole" "Level.whole" ZiA t.Nj t.Zz
 ZlI:Be K t.Zz ["self"] []
 Vi:Fun K "__init__" "Desk.__init__" Zlh t.Nk t.ZC
 Zow:Be K t.ZC ["self"] []
 SX:Fun K "say" "Desk.say" Zm6 t.Nm t.ZD
 ZqS:Be K t.ZD ["self","line"] []
 ZAE:mg "Chart" = some (.ref t.Dy)
 Jx:Cls K t.Dy
 ZAl:Mk K t.Dy t.LR
 ZP:Dn K t.Dy "many"
 Nq:Dn K t.Dy "starts"
 ZQ:Dn K t.Dy "bads"
 Vj:Dn K t.Dy "after"
 ZlX:Meth K t.Dy "ahead" t.Ma
 ZEv:mg "Move" = some (.ref t.DP)
 J4:Cls K t.DP
 ZEp:Mk K t.DP t.Mf
 S5:Dn K t.DP "guard"
 S6:Dn K t.DP "changes"
 ZoY:Meth K t.DP "fits" t.Mg
 ZlZ:Meth K t.DP "onward" t.Mh
 Zup:mg "Machine" = some (.ref t.Cw)
 Fe:Cls K t.Cw
 ZtX:Mk K t.Cw t.Mi
 Nr:Dn K t.Cw "starts"
 Nt:Dn K t.Cw "bads"
 Jy:Dn K t.Cw "names"
 Nu:Dn K t.Cw "moves"
 Zje:Meth K t.Cw "chart" t.Mj
 ZfP:Meth K t.Cw "steps_from" t.Ml
 ZEu:mg "Lamp" = some (.ref t.CK)
 Jd:Cls K t.CK
 ZEo:Mk K t.CK t.Mm
 S7:Dn K t.CK "at"
 Zjc:Meth K t.CK "holds" t.Mp
 Zjb:Meth K t.CK "crowd" t.Mq
 Zjd:Meth K t.CK "shown" t.Mr
 ZiS:Meth K t.CK "looseness" t.Jc
 ZEw:mg "Sure" = some (.ref t.CN)
 HW:Cls K t.CN
 ZEq:Mk K t.CN t.Ms
 Nv:Dn K t.CN "truth"
 Zjh:Meth K t.CN "holds" t.Mt
 Zjg:Meth K t.CN "crowd" t.Mu
 Zji:Meth K t.CN "shown" t.Mw
 ZiT:Meth K t.CN "looseness" t.Jc
 m_Not:mg "Not" = some (.ref t.C_Not)
 c_Not:Cls K t.C_Not
 k_Not:Mk K t.C_Not t.Mx
 KJ:Dn K t.C_Not "part"
 Zk9:Meth K t.C_Not "holds" t.Mz
 Zk8:Meth K t.C_Not "crowd" t.MF
 Zla:Meth K t.C_Not "shown" t.MJ
 Zjf:Meth K t.C_Not "looseness" t.Jc
 m_And:mg "And" = some (.ref t.C_And)
 c_And:Cls K t.C_And
 k_And:Mk K t.C_And t.HR
 Nx:Dn K t.C_And "parts"
 Zja:Meth K t.C_And "looseness" t.MK
 ZlW:Meth K t.C_And "between" t.MN
 Zk6:Meth K t.C_And "holds" t.MP
 Zk5:Meth K t.C_And "crowd" t.MT
 Zk7:Meth K t.C_And "shown" t.HS
 Zxp:mg "Either" = some (.ref t.CV)
 HX:Cls K t.CV
 Zxh:Mk K t.CV t.HR
 Ny:Dn K t.CV "parts"
 Zg1:Meth K t.CV "looseness" t.M3
 ZiR:Meth K t.CV "between" t.M4
 Zhj:Meth K t.CV "holds" t.M5
 Zhi:Meth K t.CV "crowd" t.M6
 Zhk:Meth K t.CV "shown" t.HS
 m_Or:mg "Or" = some (.ref t.C_Or)
 c_Or:Cls K t.C_Or
 k_Or:Mk K t.C_Or t.HR
 Nz:Dn K t.C_Or "parts"
 ZkH:Meth K t.C_Or "looseness" t.M7
 ZnA:Meth K t.C_Or "between" t.M8
 ZmQ:Meth K t.C_Or "holds" t.M9
 ZmP:Meth K t.C_Or "crowd" t.Nb
 ZmR:Meth K t.C_Or "shown" t.HS
 ZAF:mg "Level" = some (.ref t.Cr)
 DR:Cls K t.Cr
 ZAm:Mk K t.Cr t.Nf
 KN:Dn K t.Cr "nots"
 NB:Dn K t.Cr "ands"
 NK:Dn K t.Cr "eithers"
 S8:Dn K t.Cr "ors"
 HY:Dn K t.Cr "lacking"
 ZhS:Meth K t.Cr "take_part" t.Ng
 ZhR:Meth K t.Cr "take_join" t.Nh
 ZhT:Meth K t.Cr "take_word" t.Ni
 ZlY:Meth K t.Cr "whole" t.Nj
 ZEt:mg "Desk" = some (.ref t.CP)
 Ia:Cls K t.CP
 ZEn:Mk K t.CP t.Nk
 Hs:Dn K t.CP "machine"
 Zq5:Meth K t.CP "say" t.Nm
 ZR:mg "NoFormula" = some (.ref t.Hd)
 ZS:ExcK K t.Hd
 Zp4:t.DP≠t.CP
 ZkR:t.Cw≠t.CP
 ZlB:t.CK≠t.CN
 Znj:t.CK≠t.C_Not
 Zni:t.CK≠t.C_And
 ZiM:t.CK≠t.CV
 Zp3:t.CK≠t.C_Or
 ZnY:t.CK≠t.Cr
 Zp2:t.CK≠t.CP
 Znl:t.CN≠t.C_Not
 Znk:t.CN≠t.C_And
 ZiN:t.CN≠t.CV
 Zp8:t.CN≠t.C_Or
 ZnZ:t.CN≠t.Cr
 Zp7:t.CN≠t.CP
 Zp5:t.C_Not≠t.C_And
 ZjT:t.C_Not≠t.CV
 ZsU:t.C_Not≠t.C_Or
 Zp6:t.C_Not≠t.Cr
 Zrt:t.C_Not≠t.CP
 ZjS:t.C_And≠t.CV
 ZsT:t.C_And≠t.C_Or
 Zp1:t.C_And≠t.Cr
 Zrs:t.C_And≠t.CP
 ZlA:t.CV≠t.C_Or
 ZkQ:t.CV≠t.Cr
 Zmv:t.CV≠t.CP
 Zru:t.C_Or≠t.Cr
 Zu8:t.C_Or≠t.CP
 bl:∀(s:Ak) (u:Ae),TX s t.d_law ⟨[u],[]⟩ [("_law_script",u)]
 B:Bt mg
 g_LETTERS:GC mg "LETTERS" (.str "abcdefghijklmnopqrstuvwxyz")
 g_MARKS:GC mg "MARKS" (.str "(),")
 g_BLANK:GC mg "BLANK" (.str " ")
 g_MOST_LAMPS:GC mg "MOST_LAMPS" (.int 6)
 g_LONGEST_NAME:GC mg "LONGEST_NAME" (.int 8)
 g_MOST:GC mg "MOST" (.int 8)
 g_JOINS:GC mg "JOINS" (.ref t.v_JOINS)
 q_JOINS:∀H,SqT K H t.v_JOINS ((["and","either","or"]:List Str).map V.str)
 g_NO_NAMES:GC mg "NO_NAMES" (.ref t.v_NO_NAMES)
 q_NO_NAMES:∀H,SqT K H t.v_NO_NAMES ((["and","or","not","either","yes","no","then","is","(",")",","]:List Str).map V.str)
 g_SORTS:GC mg "SORTS" (.ref t.v_SORTS)
 q_SORTS:∀H,SqT K H t.v_SORTS ((["start","bad","move"]:List Str).map V.str)
 g_ALONE:GC mg "ALONE" (.ref t.v_ALONE)
 q_ALONE:∀H,SqT K H t.v_ALONE ((["show","judge","fence","reach"]:List Str).map V.str)
theorem txt_mk {K:Ao} {h:Aq} {mg:Str→Option Ae} (X:K.In h) (G:h.Ns Bf mg)
 {O6 O7 O8 O9 Pa Pb Pg Ph Pj Pk Pq Pr Pu Px Py PB PL PN PP PQ PX P0 Qa Qc Qd Qe Qf Qg Qh Qi Qj Qk Ql Qm Qn Qo Qp Qq Qs Qt Qu Qv Qw LQ Qx Qy Qz QB QC QD QF QG QH:Ab}
  {f_law:Ab} {ZIs ZDR:Option Ab} {ZI7:Array (Option Ae)} {ZIr ZEm ZDT ZEJ ZzH ZDS:Ae}
 {LR Ma Mf Mg Mh Mi Mj Ml Jc Mm Mp Mq Mr Ms Mt Mu Mw Mx Mz MF MJ HR HS MK MN MP MT M3 M4 M5 M6 M7 M8 M9 Nb Nf Ng Nh Ni Nj Nk Nm ZwW Dy DP Cw ZsV CK CN C_Not ZwX C_And CV C_Or Cr CP Hd:Ab}
  {tk_LETTERS:Tok}
  {tk_MARKS:Tok}
  {tk_BLANK:Tok}
  {tk_MOST_LAMPS:Tok}
  {tk_LONGEST_NAME:Tok}
  {tk_MOST:Tok}
  {v_JOINS:Ab} {nn_JOINS:Nat} {od_JOINS:Option Ab} {sl_JOINS:Array (Option Ae)} {tk_JOINS_0 tk_JOINS_1 tk_JOINS_2:Tok}
  {v_NO_NAMES:Ab} {nn_NO_NAMES:Nat} {od_NO_NAMES:Option Ab} {sl_NO_NAMES:Array (Option Ae)} {tk_NO_NAMES_0 tk_NO_NAMES_1 tk_NO_NAMES_2 tk_NO_NAMES_3 tk_NO_NAMES_4 tk_NO_NAMES_5 tk_NO_NAMES_6 tk_NO_NAMES_7 tk_NO_NAMES_8 tk_NO_NAMES_9 tk_NO_NAMES_10:Tok}
  {v_SORTS:Ab} {nn_SORTS:Nat} {od_SORTS:Option Ab} {sl_SORTS:Array (Option Ae)} {tk_SORTS_0 tk_SORTS_1 tk_SORTS_2:Tok}
  {v_ALONE:Ab} {nn_ALONE:Nat} {od_ALONE:Option Ab} {sl_ALONE:Array (Option Ae)} {tk_ALONE_0 tk_ALONE_1 tk_ALONE_2 tk_ALONE_3:Tok}
  (Zta:Bh K Bf "all_stands" = some (some (.ref O6)))
  (ZCh:Bh K Bf "layers" = some (some (.ref O7)))
  (Zzr:Bh K Bf "reached" = some (some (.ref O8)))
  (Zx7:Bh K Bf "is_whole" = some (some (.ref O9)))
  (Zx6:Bh K Bf "is_crowd" = some (some (.ref Pa)))
  (Zx5:Bh K Bf "is_chart" = some (some (.ref Pb)))
  (Zqh:Bh K Bf "crowd_of_any" = some (some (.ref Pg)))
  (Zvq:Bh K Bf "bracketed" = some (some (.ref Ph)))
  (ZE5:Bh K Bf "words" = some (some (.ref Pj)))
  (ZCg:Bh K Bf "and_of" = some (some (.ref Pk)))
  (Zvr:Bh K Bf "either_of" = some (some (.ref Pq)))
  (ZE4:Bh K Bf "or_of" = some (some (.ref Pr)))
  (ZCi:Bh K Bf "single" = some (some (.ref Pu)))
  (Zte:Bh K Bf "formula_in" = some (some (.ref Px)))
  (Zqi:Bh K Bf "written_move" = some (some (.ref Py)))
  (Zzt:Bh K Bf "written" = some (some (.ref PB)))
  (Zos:Bh K Bf "words_of_line" = some (some (.ref PL)))
  (ZlF:Bh K Bf "parted_by_commas" = some (some (.ref PN)))
  (Zvs:Bh K Bf "pieces_in" = some (some (.ref PP)))
  (Zrz:Bh K Bf "check_lamps" = some (some (.ref PQ)))
  (Ztd:Bh K Bf "check_move" = some (some (.ref PX)))
  (Ztb:Bh K Bf "check_form" = some (some (.ref P0)))
  (Zx9:Bh K Bf "names_in" = some (some (.ref Qa)))
  (Zx8:Bh K Bf "lamps_in" = some (some (.ref Qc)))
  (Zzq:Bh K Bf "move_in" = some (some (.ref Qd)))
  (Zya:Bh K Bf "thing_in" = some (some (.ref Qe)))
  (Ztc:Bh K Bf "check_line" = some (some (.ref Qf)))
  (Zvt:Bh K Bf "things_of" = some (some (.ref Qg)))
  (ZrB:Bh K Bf "with_things" = some (some (.ref Qh)))
  (ZE3:Bh K Bf "added" = some (some (.ref Qi)))
  (Zzp:Bh K Bf "dropped" = some (some (.ref Qj)))
  (ZrA:Bh K Bf "held_always" = some (some (.ref Qk)))
  (Zzs:Bh K Bf "told_of" = some (some (.ref Ql)))
  (Zqe:Bh K Bf "_law_cell_at" = some (some (.ref Qm)))
  (Zs5:Bh K Bf "_law_fresh" = some (some (.ref Qn)))
  (Zqg:Bh K Bf "_law_letters" = some (some (.ref Qo)))
  (Zvn:Bh K Bf "_law_name" = some (some (.ref Qp)))
  (Zs7:Bh K Bf "_law_names" = some (some (.ref Qq)))
  (Zvo:Bh K Bf "_law_rank" = some (some (.ref Qs)))
  (Zs6:Bh K Bf "_law_grown" = some (some (.ref Qt)))
  (Zs4:Bh K Bf "_law_digit" = some (some (.ref Qu)))
  (Zoq:Bh K Bf "_law_any_tree" = some (some (.ref Qv)))
  (Zvp:Bh K Bf "_law_tree" = some (some (.ref Qw)))
  (Zor:Bh K Bf "_law_words_of" = some (some (.ref LQ)))
  (Zs8:Bh K Bf "_law_plain" = some (some (.ref Qx)))
  (Zry:Bh K Bf "_law_spaced" = some (some (.ref Qy)))
  (Zqf:Bh K Bf "_law_changes" = some (some (.ref Qz)))
  (ZlE:Bh K Bf "_law_any_changes" = some (some (.ref QB)))
  (Zvm:Bh K Bf "_law_move" = some (some (.ref QC)))
  (Zs9:Bh K Bf "_law_shown" = some (some (.ref QD)))
  (Zs3:Bh K Bf "_law_begun" = some (some (.ref QF)))
  (Zvl:Bh K Bf "_law_deed" = some (some (.ref QG)))
  (Zqd:Bh K Bf "_law_answers" = some (some (.ref QH)))
  (a_law:Bh K Bf "law" = some (some (.ref f_law)))
  (ZJG:Bh K Bf "Frames" = some (some (.ref ZwW)))
  (ZE1:Bh K Bf "Chart" = some (some (.ref Dy)))
  (ZHd:Bh K Bf "Move" = some (some (.ref DP)))
  (Zzo:Bh K Bf "Machine" = some (some (.ref Cw)))
  (ZHb:Bh K Bf "Formula" = some (some (.ref ZsV)))
  (ZHc:Bh K Bf "Lamp" = some (some (.ref CK)))
  (ZHe:Bh K Bf "Sure" = some (some (.ref CN)))
  (a_Not:Bh K Bf "Not" = some (some (.ref C_Not)))
  (ZJH:Bh K Bf "Joined" = some (some (.ref ZwX)))
  (a_And:Bh K Bf "And" = some (some (.ref C_And)))
  (ZCf:Bh K Bf "Either" = some (some (.ref CV)))
  (a_Or:Bh K Bf "Or" = some (some (.ref C_Or)))
  (ZE2:Bh K Bf "Level" = some (some (.ref Cr)))
  (ZHa:Bh K Bf "Desk" = some (some (.ref CP)))
  (Zvk:Bh K Bf "NoFormula" = some (some (.ref Hd)))
  (ZtQ:W.isClsIn K Hd=true)
  (Zuv:VP K Hd (.type "BaseException")=some true)
  (ZjU:YaT K Hd [.type "ValueError",.type "Exception",.type "BaseException",.type "object"] "ValueError.__new__" = true)
  (Zva:Bk K (.ref Hd) "__getattribute__" = some (some (.builtin "BaseException.__getattribute__")))
  (Zvb:Bk K (.ref Hd) "__getattr__" = some none)
  (Zu9:Bk K (.ref Hd) "__class__" = some (some (.builtin "object.__class__")))
  (Zvc:VP K Hd (.type "object")=some true)
  (Ztr:Bk K (.ref Dy) "__init__" = some (some (.ref LR)))
  (ZrK:Bk K (.ref Dy) "ahead" = some (some (.ref Ma)))
  (ZvF:Bk K (.ref DP) "__init__" = some (some (.ref Mf)))
  (ZvE:Bk K (.ref DP) "fits" = some (some (.ref Mg)))
  (ZrN:Bk K (.ref DP) "onward" = some (some (.ref Mh)))
  (Zqm:Bk K (.ref Cw) "__init__" = some (some (.ref Mi)))
  (ZoU:Bk K (.ref Cw) "chart" = some (some (.ref Mj)))
  (Zko:Bk K (.ref Cw) "steps_from" = some (some (.ref Ml)))
  (ZvD:Bk K (.ref CK) "__init__" = some (some (.ref Mm)))
  (Ztt:Bk K (.ref CK) "holds" = some (some (.ref Mp)))
  (Zts:Bk K (.ref CK) "crowd" = some (some (.ref Mq)))
  (Ztu:Bk K (.ref CK) "shown" = some (some (.ref Mr)))
  (Zn2:Bk K (.ref CK) "looseness" = some (some (.ref Jc)))
  (ZvJ:Bk K (.ref CN) "__init__" = some (some (.ref Ms)))
  (Zty:Bk K (.ref CN) "holds" = some (some (.ref Mt)))
  (Ztx:Bk K (.ref CN) "crowd" = some (some (.ref Mu)))
  (Ztz:Bk K (.ref CN) "shown" = some (some (.ref Mw)))
  (Zn3:Bk K (.ref CN) "looseness" = some (some (.ref Jc)))
  (Zyf:Bk K (.ref C_Not) "__init__" = some (some (.ref Mx)))
  (ZvH:Bk K (.ref C_Not) "holds" = some (some (.ref Mz)))
  (ZvG:Bk K (.ref C_Not) "crowd" = some (some (.ref MF)))
  (ZvI:Bk K (.ref C_Not) "shown" = some (some (.ref MJ)))
  (ZoV:Bk K (.ref C_Not) "looseness" = some (some (.ref Jc)))
  (ZoT:Bk K (.ref C_And) "looseness" = some (some (.ref MK)))
  (ZrJ:Bk K (.ref C_And) "between" = some (some (.ref MN)))
  (ZvA:Bk K (.ref C_And) "holds" = some (some (.ref MP)))
  (Zvz:Bk K (.ref C_And) "crowd" = some (some (.ref MT)))
  (Zyd:Bk K (.ref C_And) "__init__" = some (some (.ref HR)))
  (ZvB:Bk K (.ref C_And) "shown" = some (some (.ref HS)))
  (ZlU:Bk K (.ref CV) "looseness" = some (some (.ref M3)))
  (Zn1:Bk K (.ref CV) "between" = some (some (.ref M4)))
  (Zqk:Bk K (.ref CV) "holds" = some (some (.ref M5)))
  (Zqj:Bk K (.ref CV) "crowd" = some (some (.ref M6)))
  (ZrL:Bk K (.ref CV) "__init__" = some (some (.ref HR)))
  (Zql:Bk K (.ref CV) "shown" = some (some (.ref HS)))
  (Zqn:Bk K (.ref C_Or) "looseness" = some (some (.ref M7)))
  (Ztw:Bk K (.ref C_Or) "between" = some (some (.ref M8)))
  (Zyh:Bk K (.ref C_Or) "holds" = some (some (.ref M9)))
  (Zyg:Bk K (.ref C_Or) "crowd" = some (some (.ref Nb)))
  (ZzT:Bk K (.ref C_Or) "__init__" = some (some (.ref HR)))
  (Zyi:Bk K (.ref C_Or) "shown" = some (some (.ref HS)))
  (Ztv:Bk K (.ref Cr) "__init__" = some (some (.ref Nf)))
  (ZmJ:Bk K (.ref Cr) "take_part" = some (some (.ref Ng)))
  (ZmI:Bk K (.ref Cr) "take_join" = some (some (.ref Nh)))
  (ZmK:Bk K (.ref Cr) "take_word" = some (some (.ref Ni)))
  (ZrM:Bk K (.ref Cr) "whole" = some (some (.ref Nj)))
  (ZvC:Bk K (.ref CP) "__init__" = some (some (.ref Nk)))
  (Zye:Bk K (.ref CP) "say" = some (some (.ref Nm)))
  (Zug:DF K uz "all_stands" "all_stands" O6)
  (ZCT:DF K u5 "layers" "layers" O7)
  (ZAt:DF K u6 "reached" "reached" O8)
  (ZyD:DF K u9 "is_whole" "is_whole" O9)
  (ZyC:DF K vd "is_crowd" "is_crowd" Pa)
  (ZyB:DF K W8 "is_chart" "is_chart" Pb)
  (ZqB:DF K vf "crowd_of_any" "crowd_of_any" Pg)
  (Zwd:DF K vg "bracketed" "bracketed" Ph)
  (ZFQ:DF K vh "words" "words" Pj)
  (ZCS:DF K vm "and_of" "and_of" Pk)
  (Zwe:DF K vo "either_of" "either_of" Pq)
  (ZFP:DF K vp "or_of" "or_of" Pr)
  (ZCU:DF K vq "single" "single" Pu)
  (Zuk:DF K vy "formula_in" "formula_in" Px)
  (ZqC:DF K vz "written_move" "written_move" Py)
  (ZAv:DF K wg "written" "written" PB)
  (Zpa:DF K wj "words_of_line" "words_of_line" PL)
  (Zl6:DF K wk "parted_by_commas" "parted_by_commas" PN)
  (Zwf:DF K wu "pieces_in" "pieces_in" PP)
  (Zr6:DF K ww "check_lamps" "check_lamps" PQ)
  (Zuj:DF K wy "check_move" "check_move" PX)
  (Zuh:DF K wz "check_form" "check_form" P0)
  (ZyF:DF K xf "names_in" "names_in" Qa)
  (ZyE:DF K xg "lamps_in" "lamps_in" Qc)
  (ZAs:DF K xj "move_in" "move_in" Qd)
  (ZyG:DF K xq "thing_in" "thing_in" Qe)
  (Zui:DF K xr "check_line" "check_line" Qf)
  (Zwg:DF K xu "things_of" "things_of" Qg)
  (Zr8:DF K xx "with_things" "with_things" Qh)
  (ZFO:DF K yc "added" "added" Qi)
  (ZAr:DF K yd "dropped" "dropped" Qj)
  (Zr7:DF K ye "held_always" "held_always" Qk)
  (ZAu:DF K yf "told_of" "told_of" Ql)
  (Zqy:DF K yg "_law_cell_at" "_law_cell_at" Qm)
  (Zub:DF K yh "_law_fresh" "_law_fresh" Qn)
  (ZqA:DF K yj "_law_letters" "_law_letters" Qo)
  (Zwa:DF K ym "_law_name" "_law_name" Qp)
  (Zud:DF K yo "_law_names" "_law_names" Qq)
  (Zwb:DF K yp "_law_rank" "_law_rank" Qs)
  (Zuc:DF K yq "_law_grown" "_law_grown" Qt)
  (Zua:DF K yr "_law_digit" "_law_digit" Qu)
  (Zo8:DF K U5 "_law_any_tree" "_law_any_tree" Qv)
  (Zwc:DF K yt "_law_tree" "_law_tree" Qw)
  (Zo9:DF K U6 "_law_words_of" "_law_words_of" LQ)
  (Zue:DF K yu "_law_plain" "_law_plain" Qx)
  (Zr5:DF K yw "_law_spaced" "_law_spaced" Qy)
  (Zqz:DF K yx "_law_changes" "_law_changes" Qz)
  (Zl5:DF K yz "_law_any_changes" "_law_any_changes" QB)
  (Zv9:DF K za "_law_move" "_law_move" QC)
  (Zuf:DF K zb "_law_shown" "_law_shown" QD)
  (Zt9:DF K zc "_law_begun" "_law_begun" QF)
  (Zv8:DF K zf "_law_deed" "_law_deed" QG)
  (Zqx:DF K zg "_law_answers" "_law_answers" QH)
  (l_law:K.lookup f_law=some ⟨ZIr,ZIs,.func (Kg "law" "law" (Lp J1) (Jr J1) (Az J1) .none ZEm ZDT ZEJ ZDR ZzH ZDS),ZI7⟩)
  (c_law:V2 K ZzH "law" = true)
  (k_law:Fz K (.ref f_law)=true)
  (Zt0:DF K zj "__init__" "Chart.__init__" LR)
  (ZtF:Cy K (.ref LR)=true)
  (Zr1:DF K zm "ahead" "Chart.ahead" Ma)
  (ZrQ:Cy K (.ref Ma)=true)
  (Zv3:DF K zp "__init__" "Move.__init__" Mf)
  (ZvR:Cy K (.ref Mf)=true)
  (Zv2:DF K zq "fits" "Move.fits" Mg)
  (ZvQ:Cy K (.ref Mg)=true)
  (Zr4:DF K zr "onward" "Move.onward" Mh)
  (ZrS:Cy K (.ref Mh)=true)
  (Zqv:DF K zu "__init__" "Machine.__init__" Mi)
  (Zqq:Cy K (.ref Mi)=true)
  (Zo7:DF K W9 "chart" "Machine.chart" Mj)
  (Zo0:Cy K (.ref Mj)=true)
  (Zkq:DF K zx "steps_from" "Machine.steps_from" Ml)
  (Zkp:Cy K (.ref Ml)=true)
  (Zlc:DF K zy "looseness" "Formula.looseness" Jc)
  (ZdJ:Cy K (.ref Jc)=true)
  (Zv1:DF K z8 "__init__" "Lamp.__init__" Mm)
  (ZvP:Cy K (.ref Mm)=true)
  (Zt2:DF K Zju "holds" "Lamp.holds" Mp)
  (ZtH:Cy K (.ref Mp)=true)
  (Zt1:DF K Zjt "crowd" "Lamp.crowd" Mq)
  (ZtG:Cy K (.ref Mq)=true)
  (Zt3:DF K Zjv "shown" "Lamp.shown" Mr)
  (ZtI:Cy K (.ref Mr)=true)
  (Zv7:DF K Zlo "__init__" "Sure.__init__" Ms)
  (ZvV:Cy K (.ref Ms)=true)
  (Zt7:DF K Zjz "holds" "Sure.holds" Mt)
  (ZtM:Cy K (.ref Mt)=true)
  (Zt6:DF K Zjy "crowd" "Sure.crowd" Mu)
  (ZtL:Cy K (.ref Mu)=true)
  (Zt8:DF K ZjA "shown" "Sure.shown" Mw)
  (ZtN:Cy K (.ref Mw)=true)
  (Zyy:DF K Zm7 "__init__" "Not.__init__" Mx)
  (Zyp:Cy K (.ref Mx)=true)
  (Zv5:DF K Zlm "holds" "Not.holds" Mz)
  (ZvT:Cy K (.ref Mz)=true)
  (Zv4:DF K Zll "crowd" "Not.crowd" MF)
  (ZvS:Cy K (.ref MF)=true)
  (Zv6:DF K Zln "shown" "Not.shown" MJ)
  (ZvU:Cy K (.ref MJ)=true)
  (Zr2:DF K Ziz "__init__" "Joined.__init__" HR)
  (Zim:Cy K (.ref HR)=true)
  (Zqu:DF K Zhr "shown" "Joined.shown" HS)
  (Zhl:Cy K (.ref HS)=true)
  (Zo6:DF K Zgw "looseness" "And.looseness" MK)
  (ZoZ:Cy K (.ref MK)=true)
  (Zr0:DF K Zix "between" "And.between" MN)
  (ZrP:Cy K (.ref MN)=true)
  (ZvZ:DF K Zlg "holds" "And.holds" MP)
  (ZvN:Cy K (.ref MP)=true)
  (ZvY:DF K Zlf "crowd" "And.crowd" MT)
  (ZvM:Cy K (.ref MT)=true)
  (Zl4:DF K ZeC "looseness" "Either.looseness" M3)
  (Zl0:Cy K (.ref M3)=true)
  (Zn5:DF K ZfJ "between" "Either.between" M4)
  (Zn4:Cy K (.ref M4)=true)
  (Zqt:DF K Zhq "holds" "Either.holds" M5)
  (Zqp:Cy K (.ref M5)=true)
  (Zqs:DF K Zhp "crowd" "Either.crowd" M6)
  (Zqo:Cy K (.ref M6)=true)
  (Zqw:DF K Zht "looseness" "Or.looseness" M7)
  (Zqr:Cy K (.ref M7)=true)
  (Zt5:DF K Zjx "between" "Or.between" M8)
  (ZtK:Cy K (.ref M8)=true)
  (ZyA:DF K Zm9 "holds" "Or.holds" M9)
  (Zyr:Cy K (.ref M9)=true)
  (Zyz:DF K Zm8 "crowd" "Or.crowd" Nb)
  (Zyq:Cy K (.ref Nb)=true)
  (Zt4:DF K Zjw "__init__" "Level.__init__" Nf)
  (ZtJ:Cy K (.ref Nf)=true)
  (ZmY:DF K Zfq "take_part" "Level.take_part" Ng)
  (ZmT:Cy K (.ref Ng)=true)
  (ZmX:DF K Zfp "take_join" "Level.take_join" Nh)
  (ZmS:Cy K (.ref Nh)=true)
  (ZmZ:DF K Zfr "take_word" "Level.take_word" Ni)
  (ZmU:Cy K (.ref Ni)=true)
  (Zr3:DF K ZiA "whole" "Level.whole" Nj)
  (ZrR:Cy K (.ref Nj)=true)
  (Zv0:DF K Zlh "__init__" "Desk.__init__" Nk)
  (ZvO:Cy K (.ref Nk)=true)
  (Zyx:DF K Zm6 "say" "Desk.say" Nm)
  (Zyo:Cy K (.ref Nm)=true)
  (ZDh:Hh K Dy BK=true)
  (ZCC:Hl K Dy=true)
  (ZDk:Hw K Dy=true)
  (ZDr:Bk K (.ref Dy) "__setattr__" = some (some (.builtin "object.__setattr__")))
  (ZCO:Fz K (.ref Dy)=true)
  (ZC2:Hx K Dy=true)
  (ZP:Bk K (.ref Dy) "many" = some none)
  (Nq:Bk K (.ref Dy) "starts" = some none)
  (ZQ:Bk K (.ref Dy) "bads" = some none)
  (Vj:Bk K (.ref Dy) "after" = some none)
  (ZGo:Hh K DP BK=true)
  (ZFp:Hl K DP=true)
  (ZGt:Hw K DP=true)
  (ZGC:Bk K (.ref DP) "__setattr__" = some (some (.builtin "object.__setattr__")))
  (ZFK:Fz K (.ref DP)=true)
  (ZFZ:Hx K DP=true)
  (S5:Bk K (.ref DP) "guard" = some none)
  (S6:Bk K (.ref DP) "changes" = some none)
  (Zy2:Hh K Cw BK=true)
  (Zyn:Hl K Cw=true)
  (Zy4:Hw K Cw=true)
  (Zy5:Bk K (.ref Cw) "__setattr__" = some (some (.builtin "object.__setattr__")))
  (Zyv:Fz K (.ref Cw)=true)
  (ZyM:Hx K Cw=true)
  (Nr:Bk K (.ref Cw) "starts" = some none)
  (Nt:Bk K (.ref Cw) "bads" = some none)
  (Jy:Bk K (.ref Cw) "names" = some none)
  (Nu:Bk K (.ref Cw) "moves" = some none)
  (ZGn:Hh K CK BK=true)
  (ZFo:Hl K CK=true)
  (ZGs:Hw K CK=true)
  (ZGB:Bk K (.ref CK) "__setattr__" = some (some (.builtin "object.__setattr__")))
  (ZFJ:Fz K (.ref CK)=true)
  (ZFY:Hx K CK=true)
  (S7:Bk K (.ref CK) "at" = some none)
  (ZGp:Hh K CN BK=true)
  (ZFq:Hl K CN=true)
  (ZGu:Hw K CN=true)
  (ZGD:Bk K (.ref CN) "__setattr__" = some (some (.builtin "object.__setattr__")))
  (ZFL:Fz K (.ref CN)=true)
  (ZF0:Hx K CN=true)
  (Nv:Bk K (.ref CN) "truth" = some none)
  (ZIL:Hh K C_Not BK=true)
  (ZHy:Hl K C_Not=true)
  (ZIO:Hw K C_Not=true)
  (ZI6:Bk K (.ref C_Not) "__setattr__" = some (some (.builtin "object.__setattr__")))
  (ZH7:Fz K (.ref C_Not)=true)
  (ZIk:Hx K C_Not=true)
  (KJ:Bk K (.ref C_Not) "part" = some none)
  (ZIK:Hh K C_And BK=true)
  (ZHx:Hl K C_And=true)
  (ZIN:Hw K C_And=true)
  (ZI5:Bk K (.ref C_And) "__setattr__" = some (some (.builtin "object.__setattr__")))
  (ZH6:Fz K (.ref C_And)=true)
  (ZIj:Hx K C_And=true)
  (Nx:Bk K (.ref C_And) "parts" = some none)
  (ZBc:Hh K CV BK=true)
  (Zz1:Hl K CV=true)
  (ZBh:Hw K CV=true)
  (ZBu:Bk K (.ref CV) "__setattr__" = some (some (.builtin "object.__setattr__")))
  (ZAn:Fz K (.ref CV)=true)
  (ZAJ:Hx K CV=true)
  (Ny:Bk K (.ref CV) "parts" = some none)
  (pg_Or:Hh K C_Or BK=true)
  (hd_Or:Hl K C_Or=true)
  (po_Or:Hw K C_Or=true)
  (sa_Or:Bk K (.ref C_Or) "__setattr__" = some (some (.builtin "object.__setattr__")))
  (kc_Or:Fz K (.ref C_Or)=true)
  (mk_Or:Hx K C_Or=true)
  (Nz:Bk K (.ref C_Or) "parts" = some none)
  (ZDi:Hh K Cr BK=true)
  (ZCD:Hl K Cr=true)
  (ZDl:Hw K Cr=true)
  (ZDs:Bk K (.ref Cr) "__setattr__" = some (some (.builtin "object.__setattr__")))
  (ZCP:Fz K (.ref Cr)=true)
  (ZC3:Hx K Cr=true)
  (KN:Bk K (.ref Cr) "nots" = some none)
  (NB:Bk K (.ref Cr) "ands" = some none)
  (NK:Bk K (.ref Cr) "eithers" = some none)
  (S8:Bk K (.ref Cr) "ors" = some none)
  (HY:Bk K (.ref Cr) "lacking" = some none)
  (ZGm:Hh K CP BK=true)
  (ZFn:Hl K CP=true)
  (ZGr:Hw K CP=true)
  (ZGA:Bk K (.ref CP) "__setattr__" = some (some (.builtin "object.__setattr__")))
  (ZFI:Fz K (.ref CP)=true)
  (ZFX:Hx K CP=true)
  (Hs:Bk K (.ref CP) "machine" = some none)
  (nd_:[ZwW,Dy,DP,Cw,ZsV,CK,CN,C_Not,ZwX,C_And,CV,C_Or,Cr,CP].Nodup)
  (b_len:Bh K Bf "len" = some none)
  (b_range:Bh K Bf "range" = some none)
  (b_isinstance:Bh K Bf "isinstance" = some none)
  (b_int:Bh K Bf "int" = some none)
  (b_bool:Bh K Bf "bool" = some none)
  (b_str:Bh K Bf "str" = some none)
  (b_list:Bh K Bf "list" = some none)
  (b_tuple:Bh K Bf "tuple" = some none)
  (b_dict:Bh K Bf "dict" = some none)
  (b_set:Bh K Bf "set" = some none)
  (b_sorted:Bh K Bf "sorted" = some none)
  (b_max:Bh K Bf "max" = some none)
  (b_min:Bh K Bf "min" = some none)
  (b_sum:Bh K Bf "sum" = some none)
  (b_any:Bh K Bf "any" = some none)
  (b_all:Bh K Bf "all" = some none)
  (b_abs:Bh K Bf "abs" = some none)
  (b_reversed:Bh K Bf "reversed" = some none)
  (b_enumerate:Bh K Bf "enumerate" = some none)
  (b_zip:Bh K Bf "zip" = some none)
  (g_LETTERS:Bh K Bf "LETTERS" = some (some (.str "abcdefghijklmnopqrstuvwxyz" tk_LETTERS)))
  (g_MARKS:Bh K Bf "MARKS" = some (some (.str "()," tk_MARKS)))
  (g_BLANK:Bh K Bf "BLANK" = some (some (.str " " tk_BLANK)))
  (g_MOST_LAMPS:Bh K Bf "MOST_LAMPS" = some (some (.int 6 tk_MOST_LAMPS)))
  (g_LONGEST_NAME:Bh K Bf "LONGEST_NAME" = some (some (.int 8 tk_LONGEST_NAME)))
  (g_MOST:Bh K Bf "MOST" = some (some (.int 8 tk_MOST)))
  (g_JOINS:Bh K Bf "JOINS" = some (some (.ref v_JOINS)))
  (lk_JOINS:K.lookup v_JOINS=some ⟨.type "tuple",od_JOINS,.seq #[.str "and" tk_JOINS_0,.str "either" tk_JOINS_1,.str "or" tk_JOINS_2] nn_JOINS,sl_JOINS⟩)
  (g_NO_NAMES:Bh K Bf "NO_NAMES" = some (some (.ref v_NO_NAMES)))
  (lk_NO_NAMES:K.lookup v_NO_NAMES=some ⟨.type "tuple",od_NO_NAMES,.seq #[.str "and" tk_NO_NAMES_0,.str "or" tk_NO_NAMES_1,.str "not" tk_NO_NAMES_2,.str "either" tk_NO_NAMES_3,.str "yes" tk_NO_NAMES_4,.str "no" tk_NO_NAMES_5,.str "then" tk_NO_NAMES_6,.str "is" tk_NO_NAMES_7,.str "(" tk_NO_NAMES_8,.str ")" tk_NO_NAMES_9,.str "," tk_NO_NAMES_10] nn_NO_NAMES,sl_NO_NAMES⟩)
  (g_SORTS:Bh K Bf "SORTS" = some (some (.ref v_SORTS)))
  (lk_SORTS:K.lookup v_SORTS=some ⟨.type "tuple",od_SORTS,.seq #[.str "start" tk_SORTS_0,.str "bad" tk_SORTS_1,.str "move" tk_SORTS_2] nn_SORTS,sl_SORTS⟩)
  (g_ALONE:Bh K Bf "ALONE" = some (some (.ref v_ALONE)))
  (lk_ALONE:K.lookup v_ALONE=some ⟨.type "tuple",od_ALONE,.seq #[.str "show" tk_ALONE_0,.str "judge" tk_ALONE_1,.str "fence" tk_ALONE_2,.str "reach" tk_ALONE_3] nn_ALONE,sl_ALONE⟩)
  : ∃t:Ad,Txt K mg t:=by
 obtain⟨Xp,QJ⟩:=Zug;obtain⟨Xq,QK⟩:=ZCT;obtain⟨Xr,QL⟩:=ZAt;obtain⟨Xu,QM⟩:=ZyD;obtain⟨Xv,QQ⟩:=ZyC;obtain⟨Xw,QR⟩:=ZyB;obtain⟨Xx,QS⟩:=ZqB;obtain⟨Xy,QT⟩:=Zwd;obtain⟨Xz,QV⟩:=ZFQ;obtain⟨XC,QW⟩:=ZCS;obtain⟨XD,QX⟩:=Zwe;obtain⟨XF,QZ⟩:=ZFP;obtain⟨XH,Q0⟩:=ZCU;obtain⟨XJ,Q3⟩:=Zuk;obtain⟨XM,Q4⟩:=ZqC;obtain⟨XN,Q5⟩:=ZAv;obtain⟨XQ,Q6⟩:=Zpa;obtain⟨XR,Q7⟩:=Zl6;obtain⟨XS,Q8⟩:=Zwf;obtain⟨XX,Q9⟩:=Zr6;obtain⟨X3,Ra⟩:=Zuj;obtain⟨X4,Rb⟩:=Zuh;obtain⟨X5,Rc⟩:=ZyF;obtain⟨X6,Rf⟩:=ZyE;obtain⟨X7,Rg⟩:=ZAs;obtain⟨X8,Rh⟩:=ZyG;obtain⟨Yb,Ri⟩:=Zui;obtain⟨Yc,Rj⟩:=Zwg;obtain⟨Yd,Rk⟩:=Zr8;obtain⟨Ye,Rm⟩:=ZFO;obtain⟨Yg,Rn⟩:=ZAr;obtain⟨Yh,Ro⟩:=Zr7;obtain⟨Yi,Rp⟩:=ZAu;obtain⟨Yj,Rq⟩:=Zqy;obtain⟨Yk,Rr⟩:=Zub;obtain⟨Yl,Rt⟩:=ZqA;obtain⟨Ym,Ru⟩:=Zwa;obtain⟨Yn,Rv⟩:=Zud;obtain⟨Yo,Rw⟩:=Zwb;obtain⟨Yp,J2⟩:=Zuc;obtain⟨Yq,Rx⟩:=Zua;obtain⟨Yr,J3⟩:=Zo8;obtain⟨Ys,Ry⟩:=Zwc;obtain⟨Yt,Np⟩:=Zo9;obtain⟨Yu,Rz⟩:=Zue;obtain⟨Yv,RB⟩:=Zr5;obtain⟨Yw,RC⟩:=Zqz;obtain⟨Yx,RD⟩:=Zl5;obtain⟨Yy,RG⟩:=Zv9;obtain⟨Yz,RJ⟩:=Zuf;obtain⟨YB,RK⟩:=Zt9;obtain⟨YC,RL⟩:=Zv8;obtain⟨YD,RM⟩:=Zqx;obtain⟨YF,U9⟩:=Zt0;obtain⟨YG,RN⟩:=Zr1;obtain⟨YH,Va⟩:=Zv3;obtain⟨YJ,RP⟩:=Zv2;obtain⟨YK,RQ⟩:=Zr4;obtain⟨YL,Vb⟩:=Zqv;obtain⟨YM,RT⟩:=Zo7;obtain⟨YQ,RV⟩:=Zkq;obtain⟨YS,Jw⟩:=Zlc;obtain⟨YT,Vc⟩:=Zv1;obtain⟨YW,RW⟩:=Zt2;obtain⟨YX,RX⟩:=Zt1;obtain⟨YZ,RZ⟩:=Zt3;obtain⟨Y7,Vd⟩:=Zv7;obtain⟨Y8,R0⟩:=Zt7;obtain⟨Y9,R1⟩:=Zt6;obtain⟨Za,R3⟩:=Zt8;obtain⟨Zb,Ve⟩:=Zyy;obtain⟨Zc,R4⟩:=Zv5;obtain⟨Zd,R5⟩:=Zv4;obtain⟨Ze,R6⟩:=Zv6;obtain⟨U8,Vf⟩:=Zr2;obtain⟨Zf,KH⟩:=Zqu;obtain⟨Zg,R7⟩:=Zo6;obtain⟨Zh,R8⟩:=Zr0;obtain⟨Zi,R9⟩:=ZvZ;obtain⟨Zj,Sg⟩:=ZvY;obtain⟨Zk,Sh⟩:=Zl4;obtain⟨Zm,Sq⟩:=Zn5;obtain⟨Zn,Ss⟩:=Zqt;obtain⟨Zo,Su⟩:=Zqs;obtain⟨Zq,Sv⟩:=Zqw;obtain⟨Zr,Sw⟩:=Zt5;obtain⟨Zt,Sx⟩:=ZyA;obtain⟨Zu,Sy⟩:=Zyz;obtain⟨Zv,Vh⟩:=Zt4;obtain⟨Zw,SJ⟩:=ZmY;obtain⟨Zx,SM⟩:=ZmX;obtain⟨Zy,SN⟩:=ZmZ;obtain⟨Zz,SQ⟩:=Zr3;obtain⟨ZC,Vi⟩:=Zv0;obtain⟨ZD,SX⟩:=Zyx;refine⟨⟨O6,Xp,O7,Xq,O8,Xr,O9,Xu,Pa,Xv,Pb,Xw,Pg,Xx,Ph,Xy,Pj,Xz,Pk,XC,Pq,XD,Pr,XF,Pu,XH,Px,XJ,Py,XM,PB,XN,PL,XQ,PN,XR,PP,XS,PQ,XX,PX,X3,P0,X4,Qa,X5,Qc,X6,Qd,X7,Qe,X8,Qf,Yb,Qg,Yc,Qh,Yd,Qi,Ye,Qj,Yg,Qk,Yh,Ql,Yi,Qm,Yj,Qn,Yk,Qo,Yl,Qp,Ym,Qq,Yn,Qs,Yo,Qt,Yp,Qu,Yq,Qv,Yr,Qw,Ys,LQ,Yt,Qx,Yu,Qy,Yv,Qz,Yw,QB,Yx,QC,Yy,QD,Yz,QF,YB,QG,YC,QH,YD,f_law,Kg "law" "law" (Lp J1) (Jr J1) (Az J1) .none ZEm ZDT ZEJ ZDR ZzH ZDS,LR,YF,Ma,YG,Mf,YH,Mg,YJ,Mh,YK,Mi,YL,Mj,YM,Ml,YQ,Jc,YS,Mm,YT,Mp,YW,Mq,YX,Mr,YZ,Ms,Y7,Mt,Y8,Mu,Y9,Mw,Za,Mx,Zb,Mz,Zc,MF,Zd,MJ,Ze,HR,U8,HS,Zf,MK,Zg,MN,Zh,MP,Zi,MT,Zj,M3,Zk,M4,Zm,M5,Zn,M6,Zo,M7,Zq,M8,Zr,M9,Zt,Nb,Zu,Nf,Zv,Ng,Zw,Nh,Zx,Ni,Zy,Nj,Zz,Nk,ZC,Nm,ZD,Dy,DP,Cw,CK,CN,C_Not,C_And,CV,C_Or,Cr,CP,Hd,v_JOINS,v_NO_NAMES,v_SORTS,v_ALONE⟩,?_⟩
 exact {
  QJ:=QJ,
  Znv:=QJ.binds (ps:=["many"]) (by walk_at "b"),
  ZnK:=Bx X G Zta,
  QK:=QK,
  Zw0:=QK.binds (ps:=["chart"]) (by walk_at "b"),
  Zxr:=Bx X G ZCh,
  QL:=QL,
  Zti:=QL.binds (ps:=["chart"]) (by walk_at "b"),
  Zus:=Bx X G Zzr,
  QM:=QM,
  ZqW:=QM.binds (ps:=["thing"]) (by walk_at "b"),
  Zrd:=Bx X G Zx7,
  QQ:=QQ,
  ZqV:=QQ.binds (ps:=["thing","many"]) (by walk_at "b"),
  Zrc:=Bx X G Zx6,
  QR:=QR,
  ZqU:=QR.binds (ps:=["many","starts","bads","after"]) (by walk_at "b"),
  Zrb:=Bx X G Zx5,
  QS:=QS,
  ZkF:=QS.binds (ps:=["formulas","many"]) (by walk_at "b"),
  ZkM:=Bx X G Zqh,
  QT:=QT,
  ZoG:=QT.binds (ps:=["part","text","bound"]) (by walk_at "b"),
  Zpo:=Bx X G Zvq,
  QV:=QV,
  Zzy:=QV.binds (ps:=["text"]) (by walk_at "b"),
  ZAI:=Bx X G ZE5,
  QW:=QW,
  ZwZ:=QW.binds (ps:=["parts"]) (by walk_at "b"),
  Zxq:=Bx X G ZCg,
  QX:=QX,
  ZoH:=QX.binds (ps:=["parts"]) (by walk_at "b"),
  Zpp:=Bx X G Zvr,
  QZ:=QZ,
  Zzx:=QZ.binds (ps:=["parts"]) (by walk_at "b"),
  ZAH:=Bx X G ZE4,
  Q0:=Q0,
  Zw1:=Q0.binds (ps:=["word","names"]) (by walk_at "b"),
  Zxs:=Bx X G ZCi,
  Q3:=Q3,
  Znz:=Q3.binds (ps:=["found","names"]) (by walk_at "b"),
  ZnO:=Bx X G Zte,
  Q4:=Q4,
  ZkG:=Q4.binds (ps:=["move","names"]) (by walk_at "b"),
  ZkN:=Bx X G Zqi,
  Q5:=Q5,
  Ztk:=Q5.binds (ps:=["machine"]) (by walk_at "b"),
  Zuu:=Bx X G Zzt,
  Q6:=Q6,
  Zi7:=Q6.binds (ps:=["line"]) (by walk_at "b"),
  Zjl:=Bx X G Zos,
  Q7:=Q7,
  ZgF:=Q7.binds (ps:=["found"]) (by walk_at "b"),
  Zg6:=Bx X G ZlF,
  Q8:=Q8,
  ZoI:=Q8.binds (ps:=["found"]) (by walk_at "b"),
  Zpq:=Bx X G Zvs,
  Q9:=Q9,
  ZlL:=Q9.binds (ps:=["found"]) (by walk_at "b"),
  Zmb:=Bx X G Zrz,
  Ra:=Ra,
  Zny:=Ra.binds (ps:=["found"]) (by walk_at "b"),
  ZnN:=Bx X G Ztd,
  Rb:=Rb,
  Znw:=Rb.binds (ps:=["found"]) (by walk_at "b"),
  ZnL:=Bx X G Ztb,
  Rc:=Rc,
  ZqY:=Rc.binds (ps:=["found"]) (by walk_at "b"),
  Zrf:=Bx X G Zx9,
  Rf:=Rf,
  ZqX:=Rf.binds (ps:=["pieces","names"]) (by walk_at "b"),
  Zre:=Bx X G Zx8,
  Rg:=Rg,
  Zth:=Rg.binds (ps:=["found","names"]) (by walk_at "b"),
  Zur:=Bx X G Zzq,
  Rh:=Rh,
  ZqZ:=Rh.binds (ps:=["found","names"]) (by walk_at "b"),
  Zrg:=Bx X G Zya,
  Ri:=Ri,
  Znx:=Ri.binds (ps:=["found"]) (by walk_at "b"),
  ZnM:=Bx X G Ztc,
  Rj:=Rj,
  ZoJ:=Rj.binds (ps:=["machine"]) (by walk_at "b"),
  Zpr:=Bx X G Zvt,
  Rk:=Rk,
  ZlN:=Rk.binds (ps:=["machine","things"]) (by walk_at "b"),
  Zmd:=Bx X G ZrB,
  Rm:=Rm,
  Zzw:=Rm.binds (ps:=["machine","found"]) (by walk_at "b"),
  ZAG:=Bx X G ZE3,
  Rn:=Rn,
  Ztg:=Rn.binds (ps:=["machine","sort"]) (by walk_at "b"),
  Zuq:=Bx X G Zzp,
  Ro:=Ro,
  ZlM:=Ro.binds (ps:=["machine","found"]) (by walk_at "b"),
  Zmc:=Bx X G ZrA,
  Rp:=Rp,
  Ztj:=Rp.binds (ps:=["machine","found"]) (by walk_at "b"),
  Zut:=Bx X G Zzs,
  Rq:=Rq,
  ZkC:=Rq.binds (ps:=["_law_script","_law_k"]) (by walk_at "b"),
  ZkJ:=Bx X G Zqe,
  Rr:=Rr,
  Znr:=Rr.binds (ps:=["_law_name_here","_law_names_here"]) (by walk_at "b"),
  ZnG:=Bx X G Zs5,
  Rt:=Rt,
  ZkE:=Rt.binds (ps:=["_law_seed","_law_size"]) (by walk_at "b"),
  ZkL:=Bx X G Zqg,
  Ru:=Ru,
  ZoD:=Ru.binds (ps:=["_law_k","_law_cell"]) (by walk_at "b"),
  Zpl:=Bx X G Zvn,
  Rv:=Rv,
  Zns:=Rv.binds (ps:=["_law_many","_law_cell"]) (by walk_at "b"),
  ZnH:=Bx X G Zs7,
  Rw:=Rw,
  ZoE:=Rw.binds (ps:=["_law_tree_here","_law_wraps"]) (by walk_at "b"),
  Zpm:=Bx X G Zvo,
  J2:=J2,
  ZF:=J2.binds (ps:=["_law_cell","_law_many","_law_deep"]) (by walk_at "b"),
  ZG:=Bx X G Zs6,
  Rx:=Rx,
  Znq:=Rx.binds (ps:=["_law_bag","_law_many"]) (by walk_at "b"),
  ZnF:=Bx X G Zs4,
  J3:=J3,
  ZJ:=J3.binds (ps:=["_law_bag","_law_many","_law_deep"]) (by walk_at "b"),
  ZK:=Bx X G Zoq,
  Ry:=Ry,
  ZoF:=Ry.binds (ps:=["_law_more","_law_many","_law_free"]) (by walk_at "b"),
  Zpn:=Bx X G Zvp,
  Np:=Np,
  Zgo:=Np.binds (ps:=["_law_tree_here","_law_names_here","_law_wraps"]) (by walk_at "b"),
  Zgs:=Bx X G Zor,
  Rz:=Rz,
  Znt:=Rz.binds (ps:=["_law_tree_here","_law_names_here"]) (by walk_at "b"),
  ZnI:=Bx X G Zs8,
  RB:=RB,
  ZlK:=RB.binds (ps:=["_law_some","_law_seed"]) (by walk_at "b"),
  Zma:=Bx X G Zry,
  RC:=RC,
  ZkD:=RC.binds (ps:=["_law_more","_law_names_here"]) (by walk_at "b"),
  ZkK:=Bx X G Zqf,
  RD:=RD,
  ZgD:=RD.binds (ps:=["_law_bag","_law_names_here"]) (by walk_at "b"),
  Zg4:=Bx X G ZlE,
  RG:=RG,
  ZoC:=RG.binds (ps:=["_law_more","_law_names_here","_law_free"]) (by walk_at "b"),
  Zpk:=Bx X G Zvm,
  RJ:=RJ,
  Znu:=RJ.binds (ps:=["_law_model"]) (by walk_at "b"),
  ZnJ:=Bx X G Zs9,
  RK:=RK,
  Znp:=RK.binds (ps:=["_law_model","_law_cell"]) (by walk_at "b"),
  ZnE:=Bx X G Zs3,
  RL:=RL,
  ZoB:=RL.binds (ps:=["_law_model","_law_cell","_law_free"]) (by walk_at "b"),
  Zpj:=Bx X G Zvl,
  RM:=RM,
  ZkB:=RM.binds (ps:=["_law_desk","_law_some","_law_due","_law_seed"]) (by walk_at "b"),
  ZkI:=Bx X G Zqd,
  F_law:=ZDW (st:=J1) l_law c_law k_law,
  m_law:=Bx X G a_law,
  U9:=U9,
  Znm:=U9.binds (ps:=["self","many","starts","bads","after"]) (by walk_at "b"),
  RN:=RN,
  ZlH:=RN.binds (ps:=["self","crowd"]) (by walk_at "b"),
  Va:=Va,
  Zoz:=Va.binds (ps:=["self","guard","changes"]) (by walk_at "b"),
  RP:=RP,
  Zoy:=RP.binds (ps:=["self","stand"]) (by walk_at "b"),
  RQ:=RQ,
  ZlJ:=RQ.binds (ps:=["self","stand"]) (by walk_at "b"),
  Vb:=Vb,
  Zkz:=Vb.binds (ps:=["self","names","starts","bads","moves"]) (by walk_at "b"),
  RT:=RT,
  Zi3:=RT.binds (ps:=["self"]) (by walk_at "b"),
  RV:=RV,
  ZfN:=RV.binds (ps:=["self","stand"]) (by walk_at "b"),
  Jw:=Jw,
  ZL:=Jw.binds (ps:=["self"]) (by walk_at "b"),
  Vc:=Vc,
  Zox:=Vc.binds (ps:=["self","at"]) (by walk_at "b"),
  RW:=RW,
  Zi1:=RW.binds (ps:=["self","stand"]) (by walk_at "b"),
  RX:=RX,
  Zi0:=RX.binds (ps:=["self","many"]) (by walk_at "b"),
  RZ:=RZ,
  Zi2:=RZ.binds (ps:=["self","names"]) (by walk_at "b"),
  Vd:=Vd,
  ZoA:=Vd.binds (ps:=["self","truth"]) (by walk_at "b"),
  R0:=R0,
  Zi5:=R0.binds (ps:=["self","stand"]) (by walk_at "b"),
  R1:=R1,
  Zi4:=R1.binds (ps:=["self","many"]) (by walk_at "b"),
  R3:=R3,
  Zi6:=R3.binds (ps:=["self","names"]) (by walk_at "b"),
  Ve:=Ve,
  ZqT:=Ve.binds (ps:=["self","part"]) (by walk_at "b"),
  R4:=R4,
  Zk1:=R4.binds (ps:=["self","stand"]) (by walk_at "b"),
  R5:=R5,
  Zk0:=R5.binds (ps:=["self","many"]) (by walk_at "b"),
  R6:=R6,
  Zk2:=R6.binds (ps:=["self","names"]) (by walk_at "b"),
  Vf:=Vf,
  ZM:=Vf.binds (ps:=["self","parts"]) (by walk_at "b"),
  KH:=KH,
  Vg:=KH.binds (ps:=["self","names"]) (by walk_at "b"),
  R7:=R7,
  ZiZ:=R7.binds (ps:=["self"]) (by walk_at "b"),
  R8:=R8,
  ZlG:=R8.binds (ps:=["self"]) (by walk_at "b"),
  R9:=R9,
  ZkZ:=R9.binds (ps:=["self","stand"]) (by walk_at "b"),
  Sg:=Sg,
  ZkY:=Sg.binds (ps:=["self","many"]) (by walk_at "b"),
  Sh:=Sh,
  ZgC:=Sh.binds (ps:=["self"]) (by walk_at "b"),
  Sq:=Sq,
  ZiO:=Sq.binds (ps:=["self"]) (by walk_at "b"),
  Ss:=Ss,
  Zhe:=Ss.binds (ps:=["self","stand"]) (by walk_at "b"),
  Su:=Su,
  Zhd:=Su.binds (ps:=["self","many"]) (by walk_at "b"),
  Sv:=Sv,
  ZkA:=Sv.binds (ps:=["self"]) (by walk_at "b"),
  Sw:=Sw,
  Zno:=Sw.binds (ps:=["self"]) (by walk_at "b"),
  Sx:=Sx,
  ZmE:=Sx.binds (ps:=["self","stand"]) (by walk_at "b"),
  Sy:=Sy,
  ZmD:=Sy.binds (ps:=["self","many"]) (by walk_at "b"),
  Vh:=Vh,
  Znn:=Vh.binds (ps:=["self"]) (by walk_at "b"),
  SJ:=SJ,
  ZhI:=SJ.binds (ps:=["self","part"]) (by walk_at "b"),
  SM:=SM,
  ZhH:=SM.binds (ps:=["self","word"]) (by walk_at "b"),
  SN:=SN,
  ZhJ:=SN.binds (ps:=["self","word","names"]) (by walk_at "b"),
  SQ:=SQ,
  ZlI:=SQ.binds (ps:=["self"]) (by walk_at "b"),
  Vi:=Vi,
  Zow:=Vi.binds (ps:=["self"]) (by walk_at "b"),
  SX:=SX,
  ZqS:=SX.binds (ps:=["self","line"]) (by walk_at "b"),
  ZAE:=Bx X G ZE1,
  Jx:=⟨ZDh,ZCC,ZDk,ZDr⟩,
  ZAl:=⟨ZC2,Ztr,ZtF,ZCO⟩,
  ZP:=ZP,
  Nq:=Nq,
  ZQ:=ZQ,
  Vj:=Vj,
  ZlX:=⟨ZrK,ZrQ,RN.kp⟩,
  ZEv:=Bx X G ZHd,
  J4:=⟨ZGo,ZFp,ZGt,ZGC⟩,
  ZEp:=⟨ZFZ,ZvF,ZvR,ZFK⟩,
  S5:=S5,
  S6:=S6,
  ZoY:=⟨ZvE,ZvQ,RP.kp⟩,
  ZlZ:=⟨ZrN,ZrS,RQ.kp⟩,
  Zup:=Bx X G Zzo,
  Fe:=⟨Zy2,Zyn,Zy4,Zy5⟩,
  ZtX:=⟨ZyM,Zqm,Zqq,Zyv⟩,
  Nr:=Nr,
  Nt:=Nt,
  Jy:=Jy,
  Nu:=Nu,
  Zje:=⟨ZoU,Zo0,RT.kp⟩,
  ZfP:=⟨Zko,Zkp,RV.kp⟩,
  ZEu:=Bx X G ZHc,
  Jd:=⟨ZGn,ZFo,ZGs,ZGB⟩,
  ZEo:=⟨ZFY,ZvD,ZvP,ZFJ⟩,
  S7:=S7,
  Zjc:=⟨Ztt,ZtH,RW.kp⟩,
  Zjb:=⟨Zts,ZtG,RX.kp⟩,
  Zjd:=⟨Ztu,ZtI,RZ.kp⟩,
  ZiS:=⟨Zn2,ZdJ,Jw.kp⟩,
  ZEw:=Bx X G ZHe,
  HW:=⟨ZGp,ZFq,ZGu,ZGD⟩,
  ZEq:=⟨ZF0,ZvJ,ZvV,ZFL⟩,
  Nv:=Nv,
  Zjh:=⟨Zty,ZtM,R0.kp⟩,
  Zjg:=⟨Ztx,ZtL,R1.kp⟩,
  Zji:=⟨Ztz,ZtN,R3.kp⟩,
  ZiT:=⟨Zn3,ZdJ,Jw.kp⟩,
  m_Not:=Bx X G a_Not,
  c_Not:=⟨ZIL,ZHy,ZIO,ZI6⟩,
  k_Not:=⟨ZIk,Zyf,Zyp,ZH7⟩,
  KJ:=KJ,
  Zk9:=⟨ZvH,ZvT,R4.kp⟩,
  Zk8:=⟨ZvG,ZvS,R5.kp⟩,
  Zla:=⟨ZvI,ZvU,R6.kp⟩,
  Zjf:=⟨ZoV,ZdJ,Jw.kp⟩,
  m_And:=Bx X G a_And,
  c_And:=⟨ZIK,ZHx,ZIN,ZI5⟩,
  k_And:=⟨ZIj,Zyd,Zim,ZH6⟩,
  Nx:=Nx,
  Zja:=⟨ZoT,ZoZ,R7.kp⟩,
  ZlW:=⟨ZrJ,ZrP,R8.kp⟩,
  Zk6:=⟨ZvA,ZvN,R9.kp⟩,
  Zk5:=⟨Zvz,ZvM,Sg.kp⟩,
  Zk7:=⟨ZvB,Zhl,KH.kp⟩,
  Zxp:=Bx X G ZCf,
  HX:=⟨ZBc,Zz1,ZBh,ZBu⟩,
  Zxh:=⟨ZAJ,ZrL,Zim,ZAn⟩,
  Ny:=Ny,
  Zg1:=⟨ZlU,Zl0,Sh.kp⟩,
  ZiR:=⟨Zn1,Zn4,Sq.kp⟩,
  Zhj:=⟨Zqk,Zqp,Ss.kp⟩,
  Zhi:=⟨Zqj,Zqo,Su.kp⟩,
  Zhk:=⟨Zql,Zhl,KH.kp⟩,
  m_Or:=Bx X G a_Or,
  c_Or:=⟨pg_Or,hd_Or,po_Or,sa_Or⟩,
  k_Or:=⟨mk_Or,ZzT,Zim,kc_Or⟩,
  Nz:=Nz,
  ZkH:=⟨Zqn,Zqr,Sv.kp⟩,
  ZnA:=⟨Ztw,ZtK,Sw.kp⟩,
  ZmQ:=⟨Zyh,Zyr,Sx.kp⟩,
  ZmP:=⟨Zyg,Zyq,Sy.kp⟩,
  ZmR:=⟨Zyi,Zhl,KH.kp⟩,
  ZAF:=Bx X G ZE2,
  DR:=⟨ZDi,ZCD,ZDl,ZDs⟩,
  ZAm:=⟨ZC3,Ztv,ZtJ,ZCP⟩,
  KN:=KN,
  NB:=NB,
  NK:=NK,
  S8:=S8,
  HY:=HY,
  ZhS:=⟨ZmJ,ZmT,SJ.kp⟩,
  ZhR:=⟨ZmI,ZmS,SM.kp⟩,
  ZhT:=⟨ZmK,ZmU,SN.kp⟩,
  ZlY:=⟨ZrM,ZrR,SQ.kp⟩,
  ZEt:=Bx X G ZHa,
  Ia:=⟨ZGm,ZFn,ZGr,ZGA⟩,
  ZEn:=⟨ZFX,ZvC,ZvO,ZFI⟩,
  Hs:=Hs,
  Zq5:=⟨Zye,Zyo,SX.kp⟩,
  ZR:=Bx X G Zvk,
  ZS:=⟨ZjU,ZtQ,Zva,Zvb,Zu9,Zuv,Zvc⟩,
  Zp4:=Ef nd_ (i:=2) (j:=13) rfl rfl (by decide),
  ZkR:=Ef nd_ (i:=3) (j:=13) rfl rfl (by decide),
  ZlB:=Ef nd_ (i:=5) (j:=6) rfl rfl (by decide),
  Znj:=Ef nd_ (i:=5) (j:=7) rfl rfl (by decide),
  Zni:=Ef nd_ (i:=5) (j:=9) rfl rfl (by decide),
  ZiM:=Ef nd_ (i:=5) (j:=10) rfl rfl (by decide),
  Zp3:=Ef nd_ (i:=5) (j:=11) rfl rfl (by decide),
  ZnY:=Ef nd_ (i:=5) (j:=12) rfl rfl (by decide),
  Zp2:=Ef nd_ (i:=5) (j:=13) rfl rfl (by decide),
  Znl:=Ef nd_ (i:=6) (j:=7) rfl rfl (by decide),
  Znk:=Ef nd_ (i:=6) (j:=9) rfl rfl (by decide),
  ZiN:=Ef nd_ (i:=6) (j:=10) rfl rfl (by decide),
  Zp8:=Ef nd_ (i:=6) (j:=11) rfl rfl (by decide),
  ZnZ:=Ef nd_ (i:=6) (j:=12) rfl rfl (by decide),
  Zp7:=Ef nd_ (i:=6) (j:=13) rfl rfl (by decide),
  Zp5:=Ef nd_ (i:=7) (j:=9) rfl rfl (by decide),
  ZjT:=Ef nd_ (i:=7) (j:=10) rfl rfl (by decide),
  ZsU:=Ef nd_ (i:=7) (j:=11) rfl rfl (by decide),
  Zp6:=Ef nd_ (i:=7) (j:=12) rfl rfl (by decide),
  Zrt:=Ef nd_ (i:=7) (j:=13) rfl rfl (by decide),
  ZjS:=Ef nd_ (i:=9) (j:=10) rfl rfl (by decide),
  ZsT:=Ef nd_ (i:=9) (j:=11) rfl rfl (by decide),
  Zp1:=Ef nd_ (i:=9) (j:=12) rfl rfl (by decide),
  Zrs:=Ef nd_ (i:=9) (j:=13) rfl rfl (by decide),
  ZlA:=Ef nd_ (i:=10) (j:=11) rfl rfl (by decide),
  ZkQ:=Ef nd_ (i:=10) (j:=12) rfl rfl (by decide),
  Zmv:=Ef nd_ (i:=10) (j:=13) rfl rfl (by decide),
  Zru:=Ef nd_ (i:=11) (j:=12) rfl rfl (by decide),
  Zu8:=Ef nd_ (i:=11) (j:=13) rfl rfl (by decide),
  bl:=fun s u=>.of_eq rfl,
  B:=⟨FJ X G b_len,FJ X G b_range,FJ X G b_isinstance,FJ X G b_int,FJ X G b_bool,FJ X G b_str,FJ X G b_list,FJ X G b_tuple,FJ X G b_dict,FJ X G b_set,FJ X G b_sorted,FJ X G b_max,FJ X G b_min,FJ X G b_sum,FJ X G b_any,FJ X G b_all,FJ X G b_abs,FJ X G b_reversed,FJ X G b_enumerate,FJ X G b_zip⟩,
  g_LETTERS:=⟨_,Bx X G g_LETTERS,⟨_,rfl⟩⟩,
  g_MARKS:=⟨_,Bx X G g_MARKS,⟨_,rfl⟩⟩,
  g_BLANK:=⟨_,Bx X G g_BLANK,⟨_,rfl⟩⟩,
  g_MOST_LAMPS:=⟨_,Bx X G g_MOST_LAMPS,⟨_,rfl⟩⟩,
  g_LONGEST_NAME:=⟨_,Bx X G g_LONGEST_NAME,⟨_,rfl⟩⟩,
  g_MOST:=⟨_,Bx X G g_MOST,⟨_,rfl⟩⟩,
  g_JOINS:=⟨_,Bx X G g_JOINS,rfl⟩,
  q_JOINS:=fun H=>.inr ⟨_,_,_,lk_JOINS,rfl,rfl,Dv rfl,.cons ⟨_,rfl⟩ (.cons ⟨_,rfl⟩ (.cons ⟨_,rfl⟩ (.nil)))⟩,
  g_NO_NAMES:=⟨_,Bx X G g_NO_NAMES,rfl⟩,
  q_NO_NAMES:=fun H=>.inr ⟨_,_,_,lk_NO_NAMES,rfl,rfl,Dv rfl,.cons ⟨_,rfl⟩ (.cons ⟨_,rfl⟩ (.cons ⟨_,rfl⟩ (.cons ⟨_,rfl⟩ (.cons ⟨_,rfl⟩ (.cons ⟨_,rfl⟩ (.cons ⟨_,rfl⟩ (.cons ⟨_,rfl⟩ (.cons ⟨_,rfl⟩ (.cons ⟨_,rfl⟩ (.cons ⟨_,rfl⟩ (.nil)))))))))))⟩,
  g_SORTS:=⟨_,Bx X G g_SORTS,rfl⟩,
  q_SORTS:=fun H=>.inr ⟨_,_,_,lk_SORTS,rfl,rfl,Dv rfl,.cons ⟨_,rfl⟩ (.cons ⟨_,rfl⟩ (.cons ⟨_,rfl⟩ (.nil)))⟩,
  g_ALONE:=⟨_,Bx X G g_ALONE,rfl⟩,
  q_ALONE:=fun H=>.inr ⟨_,_,_,lk_ALONE,rfl,rfl,Dv rfl,.cons ⟨_,rfl⟩ (.cons ⟨_,rfl⟩ (.cons ⟨_,rfl⟩ (.cons ⟨_,rfl⟩ (.nil))))⟩ }
theorem Vk (x y:Nat):Jh (x:Int) (y:Int)=((x &&& y:Nat):Int):=by simp[Jh]
theorem Zwo (x:Int):Ji (Ji x)=x:=by unfold Ji; omega
theorem J5 (x y:Nat):dh (x:Int) (y:Int)=((x ||| y:Nat):Int):=by
 show Ji (Jh (Ji x) (Ji y))=_;rw[Ydq (by unfold Ji; omega) (by unfold Ji; omega),Zwo,Zwo,Zwo];simp
theorem ZB7 (x y:Nat):Ybr (x:Int) (y:Int)=((x ^^^ y:Nat):Int):=by
 show dh x y - Jh x y=_;rw[J5,Vk,p7 (x+1) x y (by omega)];omega
noncomputable def cell (ns:List Int) (k:Nat):Int:=ns.getD k 0
noncomputable def spLaw (K:Ao):Sp:=fun vs H Q _=>∃(a:Ab) (ns:List Int),vs=[.ref a]∧SqL K H a (ns.map V.int)∧ns.length≤63∧Only H∧∀H',Q (.bl true) H'
noncomputable def ZJc (K:Ao):Sp:=fun vs H Q _=>∃(a:Ab) (ns:List Int) (k:Nat),vs=[.ref a,.int (k:Int)]∧SqL K H a (ns.map V.int)∧Q (.int (cell ns k)) H
section
variable {P:Bp} {w:Bg} {K:Ao} {mg:Str→Option Ae} {base:Aq} {t:Ad}
theorem ZyP (T:Txt K mg t):FnS P w K mg base 1 "_law_cell_at" ["_law_script","_law_k"] (ZJc K):=by
 refine⟨_,_,T.Rq.ok ZpS (fun vs H Q E h=>?_) (fun cdv A outer s H vs Q E hr h=>?_),T.ZkC,T.Rq.kp,T.ZkJ⟩
 ·obtain⟨a,ns,k,rfl,_⟩:=h
  rfl
 ·obtain⟨a,ns,k,rfl,hS,q⟩:=h
  refine⟨_,(Ai (Bl (Ay Jo (pv 1) (Dh Ed rfl T.B.len Ec (Ac (pv 0) Af)) (Bd _))
   (Ah (Av (Bm Bo (pv 0) (pv 1) (fun _ _=>rfl))))
   Bq)
   (Ah (Av Ag))),?_⟩
  walk_at "rd0";refine Di (fun h=>?_) (fun h=>?_)
  ·rw[Ax]at h
   have hk:k < ns.length:=by omega
   walk_at "";refine qz (j:=k) (v:=.int (cell ns k)) hS ?_ q;rw[El,Dr hk];simp[cell,Gd,Dr hk]
  ·rw[Ax]at h
   walk_at ""
   have e:cell ns k=0:=by
    simp only [cell,Gd];rw[jo (by omega)];rfl
   rw[e]at q;exact q
end
theorem GF {t u:TS} {D:Ends} {σ:St} {H:Hp} (Pn:St→Hp→Prop) (h2:∀σ H,Pn σ H→u D σ H) (h1:∀Kn:St→Hp→Prop,(∀σ H,Pn σ H→Kn σ H)→t { D with nx:=Kn } σ H):tSeq t u D σ H:=h1 (u D) h2
noncomputable def cw (t:Ad):W3→Ab
 | .a=>t.C_And
 | .e=>t.CV
 | .o=>t.C_Or
noncomputable def FmAt (t:Ad) (H:Hp):Nat→Ab→Fm→Prop
 | 0,_,_=>False
 | n+1,p,f=>match f with
  | .lamp k=>∃dx,H p=some (.ins t.CK dx [(("at" : Str),.int (k:Int))])
  | .sure b=>∃dx,H p=some (.ins t.CN dx [(("truth" : Str),.bl b)])
  | .neg g=>∃dx q,H p=some (.ins t.C_Not dx [(("part" : Str),.ref q)])∧FmAt t H n q g
  | .join w gs=>∃dx tp ps,H p=some (.ins (cw t w) dx [(("parts" : Str),.ref tp)])∧H tp=some (.tup (ps.map V.ref))∧Bs (FmAt t H n) ps gs
def isFm (t:Ad) (C:Ab):Prop:=C=t.CK∨C=t.CN∨C=t.C_Not∨C=t.C_And∨C=t.CV∨C=t.C_Or
theorem BV {α β:Type} {F G:α→β→Prop} (h:∀a b,F a b→G a b):∀{xs:List α} {ys:List β},Bs F xs ys→Bs G xs ys
 | _,_,.nil=>.nil
 | _,_,.cons r s=>.cons (h _ _ r) (BV h s)
theorem Ib {α β:Type} {F:α→β→Prop}:∀{xs:List α} {ys:List β} {i:Nat} {x:α},Bs F xs ys→xs[i]?=some x→∃y,ys[i]?=some y∧F x y
 | _,_,_,_,.nil,e=>by simp at e
 | _,_,0,_,.cons r _,e=>by simp at e; subst e; exact⟨_,rfl,r⟩
 | _,_,i+1,x,.cons _ s,e=>by
  obtain⟨u,h1,h2⟩:=Ib (i:=i) (x:=x) s (by simpa using e);exact⟨u,by simpa using h1,h2⟩
theorem Ie {α β:Type} {F:α→β→Prop}:∀{xs xs':List α} {ys ys':List β},Bs F xs ys→Bs F xs' ys'→Bs F (xs++xs') (ys++ys'):=by
 intro _ _ _ _ h s;induction h with
 | nil=>exact s
 | cons r _ ih=>exact .cons r ih
theorem ZpC {α β:Type} {F:α→β→Prop}:∀{xs:List α} {ys:List β} (n:Nat),Bs F xs ys→Bs F (xs.take n) (ys.take n)
 | _,_,0,_=>by rw[Ug,Ug]; exact .nil
 | _,_,_+1,.nil=>by rw[take_nil,take_nil]; exact .nil
 | _,_,n+1,.cons r q=>by rw[Ycr,Ycr]; exact .cons r (ZpC n q)
theorem Dj {α β:Type} {F:α→β→Prop} {xs:List α} {ys:List β} (h:Bs F xs ys):xs.length=ys.length:=Yab h
theorem FQ {ps:List Ab} {i:Nat} {x:V} (h:(ps.map V.ref)[i]?=some x):∃p,x=V.ref p∧ps[i]?=some p:=by
 rw[El]at h
 cases e:ps[i]? with
 | none=>rw[e]at h; cases h
 | some p=>rw[e]at h; exact⟨p,(Dl h).symm,rfl⟩
theorem Ff {α:Type} {l:List α} {i:Nat} {x:α} (h:l[i]?=some x):l.take (i+1)=l.take i++[x]:=by
 rw[Ycs,h]; rfl
section
variable {P:Bp} {w:Bg} {K:Ao} {mg:Str→Option Ae} {base:Aq} {t:Ad} {H H':Hp} {n:Nat} {p:Ab} {f:Fm}
theorem FmAt.mono (s:Ext H H'):∀{n:Nat} {p:Ab} {f:Fm},FmAt t H n p f→FmAt t H' n p f
 | 0,_,_,h=>h
 | n+1,p,f,h=>by
  cases f with
  | lamp k=>obtain⟨dx,e⟩:=h; exact⟨dx,s _ _ e (fun _ z=>nomatch z)⟩
  | sure b=>obtain⟨dx,e⟩:=h; exact⟨dx,s _ _ e (fun _ z=>nomatch z)⟩
  | neg g=>obtain⟨dx,q,e,h⟩:=h; exact⟨dx,q,s _ _ e (fun _ z=>nomatch z),FmAt.mono s h⟩
  | join w gs=>obtain⟨dx,tp,ps,e,e2,h⟩:=h; exact⟨dx,tp,ps,s _ _ e (fun _ z=>nomatch z),s _ _ e2 (fun _ z=>nomatch z),BV (fun a b h=>FmAt.mono s h) h⟩
theorem FmAt.le:∀{n m:Nat} {p:Ab} {f:Fm},n≤m→FmAt t H n p f→FmAt t H m p f
 | 0,_,_,_,_,h=>h.elim
 | n+1,0,_,_,hm,_=>absurd hm (by omega)
 | n+1,m+1,p,f,hm,h=>by
  have hm':n≤m:=by omega
  cases f with
  | lamp k=>exact h
  | sure b=>exact h
  | neg g=>obtain⟨dx,q,e,h⟩:=h; exact⟨dx,q,e,FmAt.le hm' h⟩
  | join w gs=>obtain⟨dx,tp,ps,e,e2,h⟩:=h; exact⟨dx,tp,ps,e,e2,BV (fun a b h=>FmAt.le hm' h) h⟩
theorem ZFB (t:Ad) (w:W3):isFm t (cw t w):=by
 cases w
 ·exact .inr (.inr (.inr (.inl rfl)))
 ·exact .inr (.inr (.inr (.inr (.inl rfl))))
 ·exact .inr (.inr (.inr (.inr (.inr rfl))))
theorem FmAt.ins (h:FmAt t H n p f) (m:Str) (h1 : ¬m = "at") (h2 : ¬m = "truth") (h3 : ¬m = "part") (h4 : ¬m = "parts"):∃C dx fs,H p=some (.ins C dx fs)∧isFm t C∧fs.lookup m=none:=by
 cases n with
 | zero=>exact h.elim
 | succ n=>
  cases f with
  | lamp k=>obtain⟨dx,e⟩:=h; exact⟨_,dx,_,e,.inl rfl,lk0 _ h1⟩
  | sure b=>obtain⟨dx,e⟩:=h; exact⟨_,dx,_,e,.inr (.inl rfl),lk0 _ h2⟩
  | neg g=>obtain⟨dx,q,e,h⟩:=h; exact⟨_,dx,_,e,.inr (.inr (.inl rfl)),lk0 _ h3⟩
  | join w gs=>obtain⟨dx,tp,ps,e,e2,h⟩:=h; exact⟨_,dx,_,e,ZFB t w,lk0 _ h4⟩
theorem FmAt.lamp {dx:Ab} {fs:List (Str×V)} (T:Txt K mg t) (h:FmAt t H (n+1) p f) (e:H p=some (.ins t.CK dx fs)):∃k:Nat,f=.lamp k∧fs=[(("at" : Str),.int (k:Int))]:=by
 cases f with
 | lamp k=>obtain⟨dx',e'⟩:=h; rw[e]at e'; injection e' with e'; injection e' with _ _ e'; exact⟨k,rfl,e'⟩
 | sure b=>obtain⟨dx',e'⟩:=h; rw[e]at e'; injection e' with e'; injection e' with e' _ _; exact absurd e' T.ZlB
 | neg g=>obtain⟨dx',q,e',_⟩:=h; rw[e]at e'; injection e' with e'; injection e' with e' _ _; exact absurd e' T.Znj
 | join w gs=>obtain⟨dx',tp,ps,e',_⟩:=h; rw[e]at e'; injection e' with e'; injection e' with e' _ _; cases w; exact absurd e' T.Zni; exact absurd e' T.ZiM; exact absurd e' T.Zp3
theorem FmAt.sure {dx:Ab} {fs:List (Str×V)} (T:Txt K mg t) (h:FmAt t H (n+1) p f) (e:H p=some (.ins t.CN dx fs)):∃b:Bool,f=.sure b∧fs=[(("truth" : Str),.bl b)]:=by
 cases f with
 | lamp k=>obtain⟨dx',e'⟩:=h; rw[e]at e'; injection e' with e'; injection e' with e' _ _; exact absurd e'.symm T.ZlB
 | sure b=>obtain⟨dx',e'⟩:=h; rw[e]at e'; injection e' with e'; injection e' with _ _ e'; exact⟨b,rfl,e'⟩
 | neg g=>obtain⟨dx',q,e',_⟩:=h; rw[e]at e'; injection e' with e'; injection e' with e' _ _; exact absurd e' T.Znl
 | join w gs=>obtain⟨dx',tp,ps,e',_⟩:=h; rw[e]at e'; injection e' with e'; injection e' with e' _ _; cases w; exact absurd e' T.Znk; exact absurd e' T.ZiN; exact absurd e' T.Zp8
theorem FmAt.neg {dx:Ab} {fs:List (Str×V)} (T:Txt K mg t) (h:FmAt t H (n+1) p f) (e:H p=some (.ins t.C_Not dx fs)):∃g q,f=.neg g∧fs=[(("part" : Str),.ref q)]∧FmAt t H n q g:=by
 cases f with
 | lamp k=>obtain⟨dx',e'⟩:=h; rw[e]at e'; injection e' with e'; injection e' with e' _ _; exact absurd e'.symm T.Znj
 | sure b=>obtain⟨dx',e'⟩:=h; rw[e]at e'; injection e' with e'; injection e' with e' _ _; exact absurd e'.symm T.Znl
 | neg g=>obtain⟨dx',q,e',h⟩:=h; rw[e]at e'; injection e' with e'; injection e' with _ _ e'; exact⟨g,q,rfl,e',h⟩
 | join w gs=>obtain⟨dx',tp,ps,e',_⟩:=h; rw[e]at e'; injection e' with e'; injection e' with e' _ _; cases w; exact absurd e' T.Zp5; exact absurd e' T.ZjT; exact absurd e' T.ZsU
theorem ZV (T:Txt K mg t) {v w:W3} (e:cw t v=cw t w):v=w:=by
 cases v <;> cases w <;> first
  | rfl
  | exact absurd e T.ZjS
  | exact absurd e T.ZsT
  | exact absurd e T.ZlA
  | exact absurd e.symm T.ZjS
  | exact absurd e.symm T.ZsT
  | exact absurd e.symm T.ZlA
theorem FmAt.join {dx:Ab} {fs:List (Str×V)} {w:W3} (T:Txt K mg t) (h:FmAt t H (n+1) p f) (e:H p=some (.ins (cw t w) dx fs)) :
  ∃gs tp ps,f=.join w gs∧fs=[(("parts" : Str),.ref tp)]∧H tp=some (.tup (ps.map V.ref))∧Bs (FmAt t H n) ps gs:=by
 cases f with
 | lamp k=>obtain⟨dx',e'⟩:=h; rw[e]at e'; injection e' with e'; injection e' with e' _ _; cases w; exact absurd e'.symm T.Zni; exact absurd e'.symm T.ZiM; exact absurd e'.symm T.Zp3
 | sure b=>obtain⟨dx',e'⟩:=h; rw[e]at e'; injection e' with e'; injection e' with e' _ _; cases w; exact absurd e'.symm T.Znk; exact absurd e'.symm T.ZiN; exact absurd e'.symm T.Zp8
 | neg g=>obtain⟨dx',q,e',_⟩:=h; rw[e]at e'; injection e' with e'; injection e' with e' _ _; cases w; exact absurd e'.symm T.Zp5; exact absurd e'.symm T.ZjT; exact absurd e'.symm T.ZsU
 | join v gs=>
  obtain⟨dx',tp,ps,e',e2,h⟩:=h
  rw[e]at e'; injection e' with e'; injection e' with e1 _ e3
  obtain rfl:=ZV T e1;exact⟨gs,tp,ps,rfl,e3,e2,h⟩
theorem ZF5 (T:Txt K mg t):MkS P w K mg base 1 "Lamp" t.CK ["self","at"] (WT t.CK "at"):=by
 refine⟨T.ZEu,_,_,T.ZEo,T.Vc.ok ZuM (fun vs H Q E h=>?_) (fun cdv A outer s H vs Q E hr h=>?_),T.Zox⟩
 ·obtain⟨p,dx,v,rfl,_⟩:=h
  rfl
 ·obtain⟨p,dx,v,rfl,hp,q⟩:=h
  refine⟨_,(Ah (DY (pv 0) (pv 1) rfl)),?_⟩;walk_at "rd0";exact⟨p,_,_,_,rfl,hp,T.Jd,T.S7,by decide,q⟩
theorem ZF7 (T:Txt K mg t):MkS P w K mg base 1 "Sure" t.CN ["self","truth"] (WT t.CN "truth"):=by
 refine⟨T.ZEw,_,_,T.ZEq,T.Vd.ok ZuR (fun vs H Q E h=>?_) (fun cdv A outer s H vs Q E hr h=>?_),T.ZoA⟩
 ·obtain⟨p,dx,v,rfl,_⟩:=h
  rfl
 ·obtain⟨p,dx,v,rfl,hp,q⟩:=h
  refine⟨_,(Ah (DY (pv 0) (pv 1) rfl)),?_⟩;walk_at "rd0";exact⟨p,_,_,_,rfl,hp,T.HW,T.Nv,by decide,q⟩
theorem ZIu (T:Txt K mg t):MkS P w K mg base 1 "Not" t.C_Not ["self","part"] (WT t.C_Not "part"):=by
 refine⟨T.m_Not,_,_,T.k_Not,T.Ve.ok ZwJ (fun vs H Q E h=>?_) (fun cdv A outer s H vs Q E hr h=>?_),T.ZqT⟩
 ·obtain⟨p,dx,v,rfl,_⟩:=h
  rfl
 ·obtain⟨p,dx,v,rfl,hp,q⟩:=h
  refine⟨_,(Ah (DY (pv 0) (pv 1) rfl)),?_⟩;walk_at "rd0";exact⟨p,_,_,_,rfl,hp,T.c_Not,T.KJ,by decide,q⟩
noncomputable def Vl (C:Ab):Sp:=fun vs H Q _=>∃p dx l ys,vs=[.ref p,.ref l]∧H p=some (.ins C dx [])∧H l=some (.lst ys)∧∀tp,H tp=none→Q .non (upd (upd H tp (.tup ys)) p (.ins C dx [(("parts" : Str),.ref tp)]))
theorem Zm1 {C:Ab} (T:Txt K mg t) (cl:Cls K C) (na:Dn K C "parts"):FnOk P w K mg base CX0 1 t.HR t.U8 ["self","parts"] (Vl C):=by
 refine T.Vf.ok ZqM (fun vs H Q E h=>?_) (fun cdv A outer s H vs Q E hr h=>?_)
 ·obtain⟨p,dx,l,ys,rfl,_⟩:=h
  rfl
 ·obtain⟨p,dx,l,ys,rfl,hp,hl,q⟩:=h
  refine⟨_,(Ah (DY (pv 0) (Gg Ls rfl T.B.tuple Lr (Ac (pv 1) Af)) rfl)),?_⟩;walk_at "rd0";refine Lw hl fun tp htp=>?_;walk_at "";exact⟨p,_,_,_,rfl,by rw[Cd (Bw hp htp)]; exact hp,cl,na,by decide,q tp htp⟩
theorem ZIt (T:Txt K mg t):MkS P w K mg base 1 "And" t.C_And ["self","parts"] (Vl t.C_And):=⟨T.m_And,_,_,T.k_And,Zm1 T T.c_And T.Nx,T.ZM⟩
theorem ZAS (T:Txt K mg t):MkS P w K mg base 1 "Either" t.CV ["self","parts"] (Vl t.CV):=⟨T.Zxp,_,_,T.Zxh,Zm1 T T.HX T.Ny,T.ZM⟩
theorem ZJ2 (T:Txt K mg t):MkS P w K mg base 1 "Or" t.C_Or ["self","parts"] (Vl t.C_Or):=⟨T.m_Or,_,_,T.k_Or,Zm1 T T.c_Or T.Nz,T.ZM⟩
theorem ZvW {C l:Ab} {ys:List V} {H:Hp} {Q:VK} (hl:H l=some (.lst ys)) (h:∀(x dx tp:Ab) (H':Hp),Same H H'→H x=none→H' x=some (.ins C dx [(("parts" : Str),.ref tp)])→H' tp=some (.tup ys)→Q (.ref x) H') :
  MkG C (Vl C) [.ref l] H Q:=by
 intro x dx hx hdx ne;have s2:=Lx hx hdx (.ins C dx []) (.own x);refine⟨x,dx,l,ys,rfl,Cm,s2 _ _ hl,fun tp htp=>⟨rfl,?_⟩⟩
 have hxt:tp≠x:=by
  intro e; subst e; rw[Cm]at htp; cases htp
 have htp0:H tp=none:=s2.free htp;refine h x dx tp _ (fun b o e=>?_) hx Cm (by rw[Cd hxt,Cm]);rw[Cd (Bw e hx),Cd (Bw e htp0),Cd (Bw e hx),Cd (Bw e hdx)];exact e
end
noncomputable def Ig (t:Ad) (n:Nat):Sp:=fun vs H Q _=>∃(p:Ab) (s:Nat) (f:Fm),vs=[.ref p,.int (s:Int)]∧FmAt t H n p f∧Q (.bl (f.holds s)) H
theorem ZIe (s k:Nat):decide (Jh ((s:Int) / 2 ^ ((k:Int)).toNat) 1=1)=s.testBit k:=by
 have e:((s:Int) / 2 ^ ((k:Int)).toNat)=((s / 2 ^ k:Nat):Int):=by simp
 have h:Jh ((s:Int) / 2 ^ ((k:Int)).toNat) 1=((s / 2 ^ k % 2:Nat):Int):=by
  rw[e,show(1:Int)=((1:Nat):Int) from rfl,Vk,Yct]
 rw[h,ZAA];exact decide_eq_decide.mpr (by omega)
section
variable {P:Bp} {w:Bg} {K:Ao} {mg:Str→Option Ae} {base:Aq} {t:Ad} {n:Nat}
theorem Zsj (T:Txt K mg t):MeS P w K mg base (n+1) t.CK "holds" ["self","stand"] (spAt (Ig t (n+1)) t.CK):=by
 refine⟨T.Jd,_,_,T.RW.ok ZsF (fun vs H Q E h=>?_) (fun cdv A outer s H vs Q E hr h=>?_),T.Zi1,T.Zjc⟩
 ·obtain⟨⟨p,s,f,rfl,_⟩,_⟩:=h
  rfl
 ·obtain⟨⟨p,s,f,rfl,hf,q⟩,a,dx,fs,r,e,ea⟩:=h
  cases e
  obtain⟨k,rfl,rfl⟩:=hf.lamp T ea;refine⟨_,(Ah (Av (Jp (BL hr.units) (Aj Ur (Aj ZEG (pv 1) (Cj (pv 0) rfl)) Ag) Ag (Bd _)))),?_⟩;walk_at "rd0";refine⟨p,_,_,_,_,rfl,ea,T.Jd,T.S7,lk1 _ _,?_⟩;walk_at "";rw[ZIe]
  simpa [Fm.holds] using q
theorem Zsm (T:Txt K mg t):MeS P w K mg base (n+1) t.CN "holds" ["self","stand"] (spAt (Ig t (n+1)) t.CN):=by
 refine⟨T.HW,_,_,T.R0.ok ZsK (fun vs H Q E h=>?_) (fun cdv A outer s H vs Q E hr h=>?_),T.Zi5,T.Zjh⟩
 ·obtain⟨⟨p,s,f,rfl,_⟩,_⟩:=h
  rfl
 ·obtain⟨⟨p,s,f,rfl,hf,q⟩,a,dx,fs,r,e,ea⟩:=h
  cases e
  obtain⟨b,rfl,rfl⟩:=hf.sure T ea;refine⟨_,(Ah (Av (Cj (pv 0) rfl))),?_⟩;walk_at "rd0";exact⟨p,_,_,_,_,rfl,ea,T.HW,T.Nv,lk1 _ _,by simpa [Fm.holds] using q⟩
theorem ZuC (T:Txt K mg t) (D_holds:∀C,isFm t C→MeS P w K mg base n C "holds" ["self","stand"] (spAt (Ig t n) C)):MeS P w K mg base (n+1) t.C_Not "holds" ["self","stand"] (spAt (Ig t (n+1)) t.C_Not):=by
 refine⟨T.c_Not,_,_,T.R4.ok ZuQ (fun vs H Q E h=>?_) (fun cdv A outer s H vs Q E hr h=>?_),T.Zk1,T.Zk9⟩
 ·obtain⟨⟨p,s,f,rfl,_⟩,_⟩:=h
  rfl
 ·obtain⟨⟨p,s,f,rfl,hf,q⟩,a,dx,fs,r,e,ea⟩:=h
  cases e
  obtain⟨g,p',rfl,rfl,hg⟩:=hf.neg T ea;obtain⟨C,dx',fs',e',hC,hl⟩:=hg.ins "holds" (by decide +kernel) (by decide +kernel) (by decide +kernel) (by decide +kernel);refine⟨_,(Ah (Av (qt (Eb D_holds hr (Cj (pv 0) rfl) (Ac (pv 1) Af))))),?_⟩;walk_at "rd0";refine⟨p,_,_,_,_,rfl,ea,T.c_Not,T.KJ,lk1 _ _,?_⟩;walk_at "";refine⟨p',C,dx',fs',rfl,e',hC,hl,?_⟩;walk_at "";refine⟨e',p',s,g,rfl,hg,?_⟩;walk_at ""
  simpa [Fm.holds] using q
theorem ZuA (T:Txt K mg t) (D_holds:∀C,isFm t C→MeS P w K mg base n C "holds" ["self","stand"] (spAt (Ig t n) C)):MeS P w K mg base (n+1) t.C_And "holds" ["self","stand"] (spAt (Ig t (n+1)) t.C_And):=by
 refine⟨T.c_And,_,_,T.R9.ok ZnU (fun vs H Q E h=>?_) (fun cdv A outer s H vs Q E hr h=>?_),T.ZkZ,T.Zk6⟩
 ·obtain⟨⟨p,s,f,rfl,_⟩,_⟩:=h
  rfl
 ·obtain⟨⟨p,s,f,rfl,hf,q⟩,a,dx,fs,r,e,ea⟩:=h
  cases e
  obtain⟨gs,tp,ps,rfl,rfl,htp,hg⟩:=hf.join (w:=.a) T ea
  refine⟨_,(Ai (Dd Cz rfl (Et (Cj (pv 0) rfl)) (sg 2 ZnU.nd)
   (Ah (Bl (HF (DX (Eb D_holds hr (pv 2) (Ac (pv 1) Af)) (fun _=>rfl)))
   (Ah (Av Fo))
   Bq)))
   (Ah (Av Fo))),?_⟩
  walk_at "rd0";refine⟨p,_,_,_,_,rfl,ea,T.c_And,T.Nx,lk1 _ _,?_⟩;refine seqT (xs:=ps.map V.ref) (fun i σ H'=>H'=H∧comb .a ((gs.take i).map (Fm.holds s))=true∧∃v,σ=[some (.ref p),some (.int (s:Int)),v]) ⟨rfl,rfl,_,rfl⟩ (fun i σ H' _ hp=>by obtain⟨rfl,_⟩:=hp; exact SqT.of htp) ?_ ?_
  ·rintro i x σ H' hx ⟨rfl,hc,v,rfl⟩
   obtain⟨p',rfl,hx'⟩:=FQ hx;obtain⟨g,hgi,hf'⟩:=Ib hg hx';obtain⟨C,dx',fs',e',hC,hl⟩:=hf'.ins "holds" (by decide +kernel) (by decide +kernel) (by decide +kernel) (by decide +kernel);walk_at "";refine⟨p',C,dx',fs',rfl,e',hC,hl,?_⟩;walk_at "";refine⟨e',p',s,g,rfl,hf',?_⟩;walk_at "";refine JX (fun hb=>?_) (fun hb=>?_)
   ·walk_at ""
    have hz:(Fm.join .a gs).holds s=false:=by
     rw[Kv];have hm:g∈gs:=Dm hgi
     have hgf:g.holds s=false:=by simpa using hb
     simp only [comb];rw[Ycu];exact⟨_,jq hm,by simp[hgf]⟩
    rw[hz]at q;exact q
   ·walk_at ""
    refine⟨rfl,?_,_,rfl⟩
    have hgt:g.holds s=true:=by simpa using hb
    rw[Ff hgi,Cp,Dq,Gx,ZoP,hc,hgt];rfl
  ·rintro σ H' ⟨rfl,hc,v,rfl⟩
   walk_at "";rw[Ax,Dj hg,Fw]at hc;rw[Kv,hc]at q;exact q
theorem Zwq (T:Txt K mg t) (D_holds:∀C,isFm t C→MeS P w K mg base n C "holds" ["self","stand"] (spAt (Ig t n) C)):MeS P w K mg base (n+1) t.C_Or "holds" ["self","stand"] (spAt (Ig t (n+1)) t.C_Or):=by
 refine⟨T.c_Or,_,_,T.Sx.ok ZpQ (fun vs H Q E h=>?_) (fun cdv A outer s H vs Q E hr h=>?_),T.ZmE,T.ZmQ⟩
 ·obtain⟨⟨p,s,f,rfl,_⟩,_⟩:=h
  rfl
 ·obtain⟨⟨p,s,f,rfl,hf,q⟩,a,dx,fs,r,e,ea⟩:=h
  cases e
  obtain⟨gs,tp,ps,rfl,rfl,htp,hg⟩:=hf.join (w:=.o) T ea
  refine⟨_,(Ai (Dd Cz rfl (Et (Cj (pv 0) rfl)) (sg 2 ZpQ.nd)
   (Ah (Bl (DX (Eb D_holds hr (pv 2) (Ac (pv 1) Af)) (fun _=>rfl))
   (Ah (Av Fo))
   Bq)))
   (Ah (Av Fo))),?_⟩
  walk_at "rd0";refine⟨p,_,_,_,_,rfl,ea,T.c_Or,T.Nz,lk1 _ _,?_⟩;refine seqT (xs:=ps.map V.ref) (fun i σ H'=>H'=H∧comb .o ((gs.take i).map (Fm.holds s))=false∧∃v,σ=[some (.ref p),some (.int (s:Int)),v]) ⟨rfl,rfl,_,rfl⟩ (fun i σ H' _ hp=>by obtain⟨rfl,_⟩:=hp; exact SqT.of htp) ?_ ?_
  ·rintro i x σ H' hx ⟨rfl,hc,v,rfl⟩
   obtain⟨p',rfl,hx'⟩:=FQ hx;obtain⟨g,hgi,hf'⟩:=Ib hg hx';obtain⟨C,dx',fs',e',hC,hl⟩:=hf'.ins "holds" (by decide +kernel) (by decide +kernel) (by decide +kernel) (by decide +kernel);walk_at "";refine⟨p',C,dx',fs',rfl,e',hC,hl,?_⟩;walk_at "";refine⟨e',p',s,g,rfl,hf',?_⟩;walk_at "";refine JX (fun hb=>?_) (fun hb=>?_)
   ·walk_at ""
    have hz:(Fm.join .o gs).holds s=true:=by
     rw[Kv];have hm:g∈gs:=Dm hgi;simp only [comb];rw[List.any_eq_true];exact⟨_,jq hm,by simp[hb]⟩
    rw[hz]at q;exact q
   ·walk_at ""
    refine⟨rfl,?_,_,rfl⟩;rw[Ff hgi,Cp,Dq,Gx,ZoR,hc,hb];rfl
  ·rintro σ H' ⟨rfl,hc,v,rfl⟩
   walk_at "";rw[Ax,Dj hg,Fw]at hc;rw[Kv,hc]at q;exact q
theorem Zpw (T:Txt K mg t) (D_holds:∀C,isFm t C→MeS P w K mg base n C "holds" ["self","stand"] (spAt (Ig t n) C)):MeS P w K mg base (n+1) t.CV "holds" ["self","stand"] (spAt (Ig t (n+1)) t.CV):=by
 refine⟨T.HX,_,_,T.Ss.ok Xm (fun vs H Q E h=>?_) (fun cdv A outer s H vs Q E hr h=>?_),T.Zhe,T.Zhj⟩
 ·obtain⟨⟨p,s,f,rfl,_⟩,_⟩:=h
  rfl
 ·obtain⟨⟨p,s,f,rfl,hf,q⟩,a,dx,fs,r,e,ea⟩:=h
  cases e
  obtain⟨gs,tp,ps,rfl,rfl,htp,hg⟩:=hf.join (w:=.e) T ea
  refine⟨_,(Ai (ss 2 Xm.nd Fo)
   (Ai (Dd Cz rfl (Et (Cj (pv 0) rfl)) (sg 3 Xm.nd)
   (Ah (Bl (DX (Eb D_holds hr (pv 3) (Ac (pv 1) Af)) (fun _=>rfl))
   (Ah (ss 2 Xm.nd (qt (pv 2))))
   Bq)))
   (Ah (Av (pv 2))))),?_⟩
  walk_at "rd0";refine⟨p,_,_,_,_,rfl,ea,T.HX,T.Ny,lk1 _ _,?_⟩;refine seqT (xs:=ps.map V.ref) (fun i σ H'=>H'=H∧∃v,σ=[some (.ref p),some (.int (s:Int)),some (.bl (comb .e ((gs.take i).map (Fm.holds s)))),v]) ⟨rfl,_,rfl⟩ (fun i σ H' _ hp=>by obtain⟨rfl,_⟩:=hp; exact SqT.of htp) ?_ ?_
  ·rintro i x σ H' hx ⟨rfl,v,rfl⟩
   obtain⟨p',rfl,hx'⟩:=FQ hx;obtain⟨g,hgi,hf'⟩:=Ib hg hx';obtain⟨C,dx',fs',e',hC,hl⟩:=hf'.ins "holds" (by decide +kernel) (by decide +kernel) (by decide +kernel) (by decide +kernel)
   have hs:comb .e ((gs.take (i+1)).map (Fm.holds s))=xor (comb .e ((gs.take i).map (Fm.holds s))) (g.holds s):=by
    rw[Ff hgi,Cp,Dq,Gx,ZoQ]
   walk_at "";refine⟨p',C,dx',fs',rfl,e',hC,hl,?_⟩;walk_at "";refine⟨e',p',s,g,rfl,hf',?_⟩;walk_at "";refine JX (fun hb=>?_) (fun hb=>?_)
   ·walk_at ""
    refine⟨rfl,some (.ref p'),?_⟩;rw[hs,hb,Bool.xor_true]
   ·walk_at ""
    refine⟨rfl,some (.ref p'),?_⟩;rw[hs,hb,Bool.xor_false]
  ·rintro σ H' ⟨rfl,v,rfl⟩
   walk_at "";rw[Ax,Dj hg,Fw];rw[Kv]at q;exact q
theorem Ih {C f:Ab} {fd:Bc} {m:Str} {ps:List Str} {sp:Sp} (no:∀vs H Q E,¬sp vs H Q E) (c:Cls K C) (b:Be K fd ps []) (h:Meth K C m f):MeS P w K mg base 0 C m ps sp:=
 ⟨c,f,fd,⟨fun vs H Q E h=>absurd h (no vs H Q E),fun A outer s H args us vs Q E _ _ _ _ h=>absurd h (no vs H Q E)⟩,b,h⟩
theorem ZW (T:Txt K mg t):∀n:Nat,∀C,isFm t C→MeS P w K mg base n C "holds" ["self","stand"] (spAt (Ig t n) C)
 | 0=>by
  have no:∀C vs H Q E,¬spAt (Ig t 0) C vs H Q E:=fun C vs H Q E h=>by
   obtain⟨⟨p,s,f,_,h,_⟩,_⟩:=h;exact h
  rintro C (rfl | rfl | rfl | rfl | rfl | rfl)
  ·exact Ih (no _) T.Jd T.Zi1 T.Zjc
  ·exact Ih (no _) T.HW T.Zi5 T.Zjh
  ·exact Ih (no _) T.c_Not T.Zk1 T.Zk9
  ·exact Ih (no _) T.c_And T.ZkZ T.Zk6
  ·exact Ih (no _) T.HX T.Zhe T.Zhj
  ·exact Ih (no _) T.c_Or T.ZmE T.ZmQ
 | n+1=>by
  have ih:=ZW T n;rintro C (rfl | rfl | rfl | rfl | rfl | rfl)
  ·exact Zsj T
  ·exact Zsm T
  ·exact ZuC T ih
  ·exact ZuA T ih
  ·exact Zpw T ih
  ·exact Zwq T ih
end
theorem ZFV (s k:Nat):Jh ((s:Int) / 2 ^ ((k:Int)).toNat) 1=if s.testBit k=true then 1 else 0:=by
 have e:((s:Int) / 2 ^ ((k:Int)).toNat)=((s / 2 ^ k:Nat):Int):=by simp
 rw[e,show(1:Int)=((1:Nat):Int) from rfl,Vk,Yct,ZAA]
 by_cases h:s / 2 ^ k % 2=1
 ·rw[decide_eq_true h,if_pos rfl,h]
 ·rw[decide_eq_false h,if_neg Dt]
  have:s / 2 ^ k % 2=0:=by omega
  rw[this]; rfl
theorem ZtC {n i:Nat} {lo:Int} {x:V} (h:((Im n).map fun i:Nat=>V.int (lo+(i:Int)))[i]?=some x):i < n∧x=.int (lo+(i:Int)):=by
 rw[El]at h
 by_cases hi:i < n
 ·rw[ik hi]at h
  exact⟨hi,(Dl h).symm⟩
 ·rw[jo (by rw[JR]; omega)]at h
  cases h
theorem S9 {m:Nat} (h:m≤6):(2:Nat) ^ m≤64:=Ex (gr (by decide) h) (by decide)
theorem J6 (m:Nat):(1:Int) * 2 ^ ((m:Int)).toNat=((2 ^ m:Nat):Int):=by
 simp
theorem ZqR (x y:Nat):Jh (x:Int) (Ji (y:Int))=((x - (x &&& y):Nat):Int):=by
 rw[Ydr,Vk];have:=YbZ (n:=x) (m:=y);omega
noncomputable def nums (l:List Nat):List Int:=l.map fun k:Nat=>(k:Int)
noncomputable def orUp (f:Nat→Nat):Nat→Nat
 | 0=>0
 | n+1=>orUp f n ||| f n
noncomputable def ahN (af:List Nat) (s:Nat):Nat:=orUp (fun k=>if s.testBit k=true then af.getD k 0 else 0) af.length
theorem ZA1 {f:Nat→Nat} {n:Nat} (h:f n=0):orUp f (n+1)=orUp f n:=by
 show orUp f n ||| f n=orUp f n
 rw[h,Nat.or_zero]
theorem Zw7 {af:List Nat} {i:Nat} (h:i < af.length):((nums af).map V.int)[i]?=some (.int ((af.getD i 0:Nat):Int)):=by
 unfold nums;rw[El,El,Gd,Dr h];rfl
theorem Tc (af:List Nat):((nums af).map V.int).length=af.length:=by unfold nums; rw[Ax,Ax]
theorem Zuy (af:List Nat) (x:Nat):(nums (af++[x])).map V.int=(nums af).map V.int++[V.int (x:Int)]:=by unfold nums; rw[Cp,Cp]; rfl
theorem ZGv {a b:Nat} (h:a < b):2 ^ a < 2 ^ b:=Nat.pow_lt_pow_right (by decide) h
theorem ZA0 {f:Nat→Nat} {B:Nat} (h:∀k,f k < 2 ^ B):∀n,orUp f n < 2 ^ B
 | 0=>Wg B
 | n+1=>jt (ZA0 h n) (h n)
theorem ZHf {af:List Nat} {B:Nat} (h:∀x∈af,x < 2 ^ B) (c:Nat):ahN af c < 2 ^ B:=by
 unfold ahN;apply ZA0;intro k
 by_cases e:c.testBit k=true
 ·rw[if_pos e,Gd]
  cases z:af[k]? with
  | none=>exact Wg B
  | some x=>exact h x (Dm z)
 ·rw[if_neg e]; exact Wg B
noncomputable def ZKe (af:List Nat) (c:Nat):Nat:=c ||| ahN af c
noncomputable def layN (af:List Nat) (st:Nat):Nat→Nat
 | 0=>st
 | i+1=>ZKe af (layN af st i)
theorem Zwh {af:List Nat} {B st:Nat} (h:∀x∈af,x < 2 ^ B) (hs:st < 2 ^ B):∀i,layN af st i < 2 ^ B
 | 0=>hs
 | i+1=>jt (Zwh h hs i) (ZHf h _)
noncomputable def pc (c:Nat):Nat→Nat
 | 0=>0
 | n+1=>pc c n+(if c.testBit n=true then 1 else 0)
theorem ZIE (c:Nat):∀n,pc c n≤n
 | 0=>Bv _
 | n+1=>by
  show pc c n+(if c.testBit n=true then 1 else 0)≤n+1;have:=ZIE c n
  split <;> omega
theorem ZA5 {c d:Nat} (h:∀k,c.testBit k=true→d.testBit k=true):∀n,pc c n≤pc d n
 | 0=>Bv _
 | n+1=>by
  show pc c n+(if c.testBit n=true then 1 else 0)≤pc d n+(if d.testBit n=true then 1 else 0);have:=ZA5 h n
  by_cases e:c.testBit n=true
  ·rw[if_pos e,if_pos (h n e)]; omega
  ·rw[if_neg e]; split <;> omega
theorem ZIF {c d k:Nat} (h:∀k,c.testBit k=true→d.testBit k=true) (h1:c.testBit k=false) (h2:d.testBit k=true):∀n,k < n→pc c n < pc d n
 | 0,hk=>absurd hk (Wh _)
 | n+1,hk=>by
  show pc c n+(if c.testBit n=true then 1 else 0) < pc d n+(if d.testBit n=true then 1 else 0)
  by_cases e:k=n
  ·subst e
   have:=ZA5 h k;rw[h1,h2,if_neg Dt,if_pos rfl]; omega
  ·have:=ZIF h h1 h2 n (by omega)
   by_cases e:c.testBit n=true
   ·rw[if_pos e,if_pos (h n e)]; omega
   ·rw[if_neg e]; split <;> omega
theorem ZGf {c x B:Nat} (hB:c ||| x < 2 ^ B) (h:c ||| x≠c):pc c B < pc (c ||| x) B:=by
 obtain⟨k,hk⟩ : ∃k,(c ||| x).testBit k≠c.testBit k:=Nat.exists_testBit_ne_of_ne h
 have sub:∀j,c.testBit j=true→(c ||| x).testBit j=true:=fun j hj=>by rw[gw,hj]; rfl
 have h1:c.testBit k=false:=by
  cases e:c.testBit k with
  | false=>rfl
  | true=>exact absurd ((sub k e).trans e.symm) hk
 have h2:(c ||| x).testBit k=true:=by
  cases e:(c ||| x).testBit k with
  | true=>rfl
  | false=>exact absurd (e.trans h1.symm) hk
 refine ZIF sub h1 h2 B ?_
 by_cases e:k < B
 ·exact e
 ·rw[YaG (Ez hB (gr (by decide) (by omega)))]at h2
  cases h2
theorem ZEr {af:List Nat} {B st:Nat} (h:∀x∈af,x < 2 ^ B) (hs:st < 2 ^ B):∀i,(∀j,j < i→layN af st (j+1)≠layN af st j)→i≤pc (layN af st i) B
 | 0,_=>De _
 | i+1,q=>by
  have h1:=ZEr h hs i fun j hj=>q j (by omega);have h2:=ZGf (c:=layN af st i) (x:=ahN af (layN af st i)) (Zwh h hs (i+1)) (q i (Oe _));show i+1≤pc (layN af st i ||| ahN af (layN af st i)) B;omega
theorem ZAx {af:List Nat} {B st i:Nat} (h:∀x∈af,x < 2 ^ B) (hs:st < 2 ^ B) (q:∀j,j < i→layN af st (j+1)≠layN af st j):i≤B:=Ex (ZEr h hs i q) (ZIE _ _)
noncomputable def layL (af:List Nat) (st k:Nat):List Nat:=(Im (k+1)).map (layN af st)
theorem ZAw (af:List Nat) (st k:Nat):layL af st (k+1)=layL af st k++[layN af st (k+1)]:=by unfold layL; rw[Ycv,Cp]; rfl
theorem Zsa (af:List Nat) (st k:Nat):(layL af st k).length=k+1:=by unfold layL; rw[Ax,JR]
theorem ZCW {af:List Nat} {st k i:Nat} (h:i≤k):(layL af st k).getD i 0=layN af st i:=by
 unfold layL;rw[Gd,El,ik (by omega)];rfl
structure Flood (af:List Nat) (st k:Nat):Prop where
 new:∀j,j < k→layN af st (j+1)≠layN af st j
 fix:layN af st (k+1)=layN af st k
theorem ZCl {α:Type} {xs:List α} {x:α} {n:Nat} (hl:xs.length=n+1) (h:xs[n]?=some x):atI xs (-1)=some x:=by
 unfold atI ixN;rw[if_neg (by decide),if_pos (by omega),hl]
 have e:((-1:Int)+((n+1:Nat):Int)).toNat=n:=by omega
 show xs[((-1:Int)+((n+1:Nat):Int)).toNat]?=some x;rw[e];exact h
theorem Zxj (af:List Nat) (st k:Nat):atI ((nums (layL af st k)).map V.int) (-1)=some (.int ((layN af st k:Nat):Int)):=by
 have hk:k < (layL af st k).length:=by rw[Zsa]; omega
 refine ZCl (n:=k) (by rw[Tc,Zsa]) ?_;rw[Zw7 hk,ZCW (Bv _)]
section
variable {P:Bp} {w:Bg} {K:Ao} {mg:Str→Option Ae} {base:Aq} {t:Ad}
noncomputable def ZwO:Sp:=fun vs H Q _=>∃(m:Nat),vs=[.int (m:Int)]∧m≤6∧Q (.int ((2 ^ 2 ^ m - 1:Nat):Int)) H
theorem Td (T:Txt K mg t):FnS P w K mg base 1 "all_stands" ["many"] (ZwO):=by
 refine⟨_,_,T.QJ.ok ZsN (fun vs H Q E h=>?_) (fun cdv A outer s H vs Q E hr h=>?_),T.Znv,T.QJ.kp,T.ZnK⟩
 ·obtain⟨m,rfl,hm,q⟩:=h
  rfl
 obtain⟨m,rfl,hm,q⟩:=h;have hp:=S9 hm;have hp0:=dg (2 ^ m);refine⟨_,(Ah (Av (Aj Fq (Aj JV Ag (Aj JV Ag (pv 0))) Ag))),?_⟩;walk_at "rd0";rw[J6];refine i_rI ⟨by omega,by omega,by decide⟩ ?_;walk_at "";rw[J6];have:1≤2 ^ 2 ^ m:=Nat.one_le_two_pow
 have e:((2 ^ 2 ^ m:Nat):Int) - 1=((2 ^ 2 ^ m - 1:Nat):Int):=by omega
 rw[e];exact q
structure GoodC (m st bd:Nat) (af:List Nat):Prop where
 m1:1≤m
 m6:m≤6
 st:st < 2 ^ 2 ^ m
 bd:bd < 2 ^ 2 ^ m
 ln:af.length=2 ^ m
 af:∀x∈af,x < 2 ^ 2 ^ m
noncomputable def ZGS:Sp:=fun vs H Q _=>∃n:Int,vs=[.int n]∧Q (.bl true) H
theorem Zpy (T:Txt K mg t):FnS P w K mg base 1 "is_whole" ["thing"] (ZGS):=by
 refine⟨_,_,T.QM.ok ZwM (fun vs H Q E h=>?_) (fun cdv A outer s H vs Q E hr h=>?_),T.ZqW,T.QM.kp,T.Zrd⟩
 ·obtain⟨n,rfl,q⟩:=h
  rfl
 obtain⟨n,rfl,q⟩:=h;refine⟨_,(Ah (Av (km (Dh WQ rfl T.B.isinstance WR (Ac (pv 0) (Ac (Wt (v:=.ty "int") rfl T.B.int Lq rfl) Af))) (kh (qt (Dh WQ rfl T.B.isinstance WR (Ac (pv 0) (Ac (Wt (v:=.ty "bool") rfl T.B.bool ZFb rfl) Af)))))))),?_⟩;walk_at "rd0";refine Cg rfl ?_;walk_at "";exact q
noncomputable def ZBK:Sp:=fun vs H Q _=>∃(n m:Nat),vs=[.int (n:Int),.int (m:Int)]∧m≤6∧n < 2 ^ 2 ^ m∧Q (.bl true) H
theorem Zws (T:Txt K mg t):FnS P w K mg base 2 "is_crowd" ["thing","many"] (ZBK):=by
 refine⟨_,_,T.QQ.ok ZwL (fun vs H Q E h=>?_) (fun cdv A outer s H vs Q E hr h=>?_),T.ZqV,T.QQ.kp,T.Zrc⟩
 ·obtain⟨n,m,rfl,hm,hn,q⟩:=h
  rfl
 obtain⟨n,m,rfl,hm,hn,q⟩:=h;have ZmC:=Zpy (P:=P) (w:=w) (base:=base) T;have J7:=Td (P:=P) (w:=w) (base:=base) T;refine⟨_,(Ah (Av (km (Bj ZmC hr (Ac (pv 0) Af)) (kh (ZDf ZIy ZIy Ag (pv 0) (Bj J7 hr (Ac (pv 1) Af))))))),?_⟩;walk_at "rd0";refine⟨_,rfl,?_⟩;walk_at "";refine Cg rfl ?_;walk_at "";refine Cg (decide_eq_true (by omega)) ?_;walk_at "";refine⟨m,rfl,hm,?_⟩;walk_at "";have e:decide ((n:Int)≤((2 ^ 2 ^ m - 1:Nat):Int))=true:=decide_eq_true (by omega);rw[e];exact q
noncomputable def ZBJ:Sp:=fun vs H Q _=>∃(m st bd:Nat) (l:Ab) (af:List Nat),vs=[.int (m:Int),.int (st:Int),.int (bd:Int),.ref l]∧H l=some (.lst ((nums af).map V.int))∧GoodC m st bd af∧∀H',Same H H'→Q (.bl true) H'
theorem Zwr (T:Txt K mg t):FnS P w K mg base 3 "is_chart" ["many","starts","bads","after"] (ZBJ):=by
 refine⟨_,_,T.QR.ok ZwK (fun vs H Q E h=>?_) (fun cdv A outer s H vs Q E hr h=>?_),T.ZqU,T.QR.kp,T.Zrb⟩
 ·obtain⟨m,st,bd,l,af,rfl,hl,g,q⟩:=h
  rfl
 obtain⟨m,st,bd,l,af,rfl,hl,g,q⟩:=h;have ZmC:=Zpy (P:=P) (w:=w) (base:=base) T;have ZmB:=Zws (P:=P) (w:=w) (base:=base) T;have hp:=S9 g.m6;have m1:=g.m1;have m6:=g.m6;have ln:=g.ln
 refine⟨_,(Ai (Bl (PW.pt (Fp (HF (DX (Bj ZmC hr (Ac (pv 0) Af)) (fun _=>rfl))) (Fp (Ay Jo (pv 0) Ag (Bd _)) (Fy (Ay Iw (pv 0) Ag (Bd _))))))
   (Ah (Av Fo))
   Bq)
   (Ai (Bl (PW.pt (Fp (HF (DX (Bj ZmB hr (Ac (pv 1) (Ac (pv 0) Af))) (fun _=>rfl))) (Fy (HF (DX (Bj ZmB hr (Ac (pv 2) (Ac (pv 0) Af))) (fun _=>rfl))))))
   (Ah (Av Fo))
   Bq)
   (Ai (Bl (PW.pt (Fp (HF (DX (Dh WQ rfl T.B.isinstance WR (Ac (pv 3) (Ac (Wt (v:=.ty "list") rfl T.B.list Ov rfl) Af))) (fun _=>rfl))) (Fy (Ay (Ja hr.units) (Dh Ed rfl T.B.len Ec (Ac (pv 3) Af)) (Aj JV Ag (pv 0)) (Bd _)))))
   (Ah (Av Fo))
   Bq)
   (Ah (Av (Dh (ZzB rfl) rfl T.B.all ZHi (Ac (ZGj (sc:=Az W8) (N:=["many","starts","bads","after"]) (ns:=["many"]) (ix:=[0]) rfl rfl (by decide +kernel) rfl (Et (pv 3)) (fun _ _ _ _=>WY) (fun _ _ _ _=>(Bj ZmB hr (Ac (pv 0) (Ac (pv 1) Af))))) Af))))))),?_⟩
 walk_at "rd0";refine⟨_,rfl,?_⟩;walk_at "";refine Ba rfl ?_;walk_at "";refine Ba (decide_eq_false (by omega)) ?_;walk_at "";refine Ba (decide_eq_false (by omega)) ?_;walk_at "";refine⟨_,_,rfl,m6,g.st,?_⟩;walk_at "";refine Ba rfl ?_;walk_at "";refine⟨_,_,rfl,m6,g.bd,?_⟩;walk_at "";refine Ba rfl ?_;walk_at "";refine Ba rfl ?_;walk_at "";rw[Tc,J6,ln];refine Ba (by simp) ?_;walk_at "";refine .inl ⟨l,_,rfl,SqL.of hl,?_⟩;refine ZzL (fun i ys=>ys=(JL i true).map V.bl) (ZG3 (SqL.of hl)) (by rw[Tc]; omega) rfl ?_ ?_
 ·intro i x ys acc H' hx s1 hacc ea hy _ R k
  obtain⟨n,rfl,hn⟩ : ∃n:Nat,x=.int (n:Int)∧n∈af:=by
   unfold nums at hx;rw[El,El]at hx
   cases e:af[i]? with
   | none=>rw[e]at hx; cases hx
   | some n=>rw[e]at hx; exact⟨n,(Dl hx).symm,Dm e⟩
  simp only [subS,Dq,Gx];walk_at "";refine k _ H' (Same.refl _) (fun z=>by cases z) fun z R2 k2=>?_;walk_at "";refine⟨_,_,rfl,m6,g.af n hn,?_⟩;refine k2 _ H' (Same.refl _) ?_;rw[hy,List.replicate_succ',Cp];rfl
 ·intro acc ys H' n1 s1 e1 hy
  subst hy;walk_at "";refine ZJR (SqL.of e1) ?_
  have e:(JL ((nums af).map V.int).length true).all id=true:=by
   rw[GK];intro x hx;rw[(Ya3.mp hx).2]; rfl
  rw[e];exact q H' s1
noncomputable def NP (m st bd:Int) (tp:Ab):List (Str×V):=putF "after" (.ref tp) (putF "bads" (.int bd) (putF "starts" (.int st) (putF "many" (.int m) [])))
def Jz (t:Ad) (H:Hp) (p:Ab) (m st bd:Int) (af:List Nat):Prop:=∃dx tp,H p=some (.ins t.Dy dx (NP m st bd tp))∧H tp=some (.tup ((nums af).map V.int))
theorem Jz.mono {H H':Hp} {p:Ab} {m st bd:Int} {af:List Nat} (h:Jz t H p m st bd af) (s:Ext H H'):Jz t H' p m st bd af:=by
 obtain⟨dx,tp,h1,h2⟩:=h;exact⟨dx,tp,s _ _ h1 (fun _ z=>nomatch z),s _ _ h2 (fun _ z=>nomatch z)⟩
theorem KQ (f:Str) (v:V):∀fs:List (Str×V),(putF f v fs).length≤fs.length+1
 | []=>Bv _
 | (g,x)::r=>by
  unfold putF
  by_cases h:g=f
  ·rw[if_pos h]; exact VR _
  ·rw[if_neg h]; exact YaD (KQ f v r)
noncomputable def ZBG (C:Ab):Sp:=fun vs H Q _=>∃(p dx l:Ab) (m st bd:Nat) (af:List Nat),vs=[.ref p,.int (m:Int),.int (st:Int),.int (bd:Int),.ref l]∧H p=some (.ins C dx [])∧H l=some (.lst ((nums af).map V.int))∧GoodC m st bd af∧∀tp H',(∀b o,b≠p→H b=some o→H' b=some o)→H' tp=some (.tup ((nums af).map V.int))→H' p=some (.ins C dx (NP m st bd tp))→Q .non H'
theorem ZC7 (T:Txt K mg t):MkS P w K mg base 4 "Chart" t.Dy ["self","many","starts","bads","after"] (ZBG t.Dy):=by
 refine⟨T.ZAE,_,_,T.ZAl,T.U9.ok ZsE (fun vs H Q E h=>?_) (fun cdv A outer s H vs Q E hr h=>?_),T.Znm⟩
 ·obtain⟨p,dx,l,m,st,bd,ys,rfl,_⟩:=h
  rfl
 obtain⟨p,dx,l,m,st,bd,af,rfl,hp0,hl0,hg,q⟩:=h;have Zx1:=Zwr (P:=P) (w:=w) (base:=base) T;have z1:=KQ "many" (.int (m:Int)) [];have z2:=KQ "starts" (.int (st:Int)) (putF "many" (.int (m:Int)) []);have z3:=KQ "bads" (.int (bd:Int)) (putF "starts" (.int (st:Int)) (putF "many" (.int (m:Int)) []));rw[Gw]at z1
 have hlp:l≠p:=fun e=>by rw[e,hp0]at hl0; cases hl0
 refine⟨_,(Ai (Bl (HF (DX (Bj Zx1 hr (Ac (pv 1) (Ac (pv 2) (Ac (pv 3) (Ac (pv 4) Af))))) (fun _=>rfl)))
   (Ah Gr)
   Bq)
   (Ai (DY (pv 0) (pv 1) rfl)
   (Ai (DY (pv 0) (pv 2) rfl)
   (Ai (DY (pv 0) (pv 3) rfl)
   (Ah (DY (pv 0) (Gg Ls rfl T.B.tuple Lr (Ac (pv 4) Af)) rfl)))))),?_⟩
 walk_at "rd0";refine⟨m,st,bd,l,af,rfl,hl0,hg,fun H0 s0=>?_⟩;have hp:=s0 _ _ hp0;have hl:=s0 _ _ hl0;walk_at "";refine Ba rfl ?_;walk_at "";refine⟨p,_,_,_,rfl,hp,T.Jx,T.ZP,by decide,?_⟩;walk_at "";refine⟨p,_,_,_,rfl,Cm,T.Jx,T.Nq,by omega,?_⟩;rw[j8];walk_at "";refine⟨p,_,_,_,rfl,Cm,T.Jx,T.ZQ,by omega,?_⟩;rw[j8];walk_at "";refine Lw (ys:=(nums af).map V.int) (by rw[Cd hlp]; exact hl) fun tp htp=>?_
 have hpt:tp≠p:=fun e=>by rw[e,Cm]at htp; cases htp
 walk_at "";refine⟨p,_,_,_,rfl,by rw[Cd (Gs hpt)]; exact Cm,T.Jx,T.Vj,by omega,?_⟩;refine q tp _ (fun b o hb e0=>?_) (by rw[Cd hpt]; exact Cm) Cm;have e:=s0 _ _ e0
 have hb':b≠tp:=fun z=>by rw[←z,Cd hb,e]at htp; cases htp
 rw[Cd hb,Cd hb',Cd hb];exact e
theorem ZFs {l:Ab} {m st bd:Nat} {af:List Nat} {H:Hp} {Q:VK} (hl:H l=some (.lst ((nums af).map V.int))) (hg:GoodC m st bd af) (h:∀(x:Ab) (H':Hp),Same H H'→H x=none→Jz t H' x m st bd af→Q (.ref x) H') :
  MkG t.Dy (ZBG t.Dy) [.int (m:Int),.int (st:Int),.int (bd:Int),.ref l] H Q:=by
 intro x dx hx hdx ne;have s2:=Lx hx hdx (.ins t.Dy dx []) (.own x);refine⟨x,dx,l,m,st,bd,_,rfl,Cm,s2 _ _ hl,hg,fun tp H' s3 h1 h2=>⟨rfl,?_⟩⟩;exact h x H' (fun b o e=>s3 b o (Bw e hx) (s2 b o e)) hx ⟨dx,tp,h2,h1⟩
def isCh (t:Ad) (C:Ab):Prop:=C=t.Dy
theorem Jz.ins {H:Hp} {p:Ab} {m st bd:Int} {af:List Nat} (h:Jz t H p m st bd af) (f:Str) (h1 : ¬f = "after") (h2 : ¬f = "bads") (h3 : ¬f = "starts") (h4 : ¬f = "many"):∃C dx fs,H p=some (.ins C dx fs)∧isCh t C∧fs.lookup f=none:=by
 obtain⟨dx,tp,e,_⟩:=h;refine⟨_,dx,_,e,rfl,?_⟩;unfold NP;rw[DN,if_neg h1,DN,if_neg h2,DN,if_neg h3,DN,if_neg h4];rfl
theorem ZCZ (m st bd:Int) (tp:Ab):(NP m st bd tp).lookup ("after" : Str)=some (.ref tp):=by
 unfold NP;rw[DN,if_pos rfl]
theorem Zpg (m st bd:Int) (tp:Ab):(NP m st bd tp).lookup ("starts" : Str)=some (.int st):=by
 unfold NP;rw[DN,if_neg (by decide),DN,if_neg (by decide),DN,if_pos rfl]
theorem ZFU (s k:Nat):(!decide (Jh ((s:Int) / 2 ^ ((k:Int)).toNat) 1=0))=s.testBit k:=by
 rw[ZFV]
 cases s.testBit k <;> rfl
theorem ZFl {af:List Nat} {i:Nat} {v:V} (h:((nums af).map V.int)[i]?=some v):i < af.length∧v=.int ((af.getD i 0:Nat):Int):=by
 have hi:i < af.length:=by
  have:=(Ej.mp h).1;rw[Tc]at this;exact this
 rw[Zw7 hi]at h;exact⟨hi,(Dl h).symm⟩
noncomputable def ZBB (t:Ad):Sp:=fun vs H Q _=>∃(p:Ab) (m st bd:Int) (af:List Nat) (s:Nat),vs=[.ref p,.int (s:Int)]∧Jz t H p m st bd af∧∀H',Same H H'→Q (.int ((ahN af s:Nat):Int)) H'
theorem ZqE (T:Txt K mg t):MeS P w K mg base 1 t.Dy "ahead" ["self","crowd"] (spAt (ZBB t) t.Dy):=by
 refine⟨T.Jx,_,_,T.RN.ok U7 (fun vs H Q E h=>?_) (fun cdv A outer s H vs Q E hr h=>?_),T.ZlH,T.ZlX⟩
 ·obtain⟨⟨p,m,st,bd,af,s,rfl,_⟩,_⟩:=h
  rfl
 obtain⟨⟨p,m,st,bd,af,n,rfl,hc,q⟩,_⟩:=h;obtain⟨dx,tp,e1,e2⟩:=hc
 refine⟨_,(Ai (ss 2 U7.nd Ag)
   (Ai (Dd Cz rfl (ZBf rfl T.B.enumerate (Cj (pv 0) rfl)) (Iv rfl (Fb (sg 3 U7.nd) (Fb (sg 4 U7.nd) Iu)))
   (Ah (Bl (DX (Aj Ur (Aj ZEG (pv 1) (pv 3)) Ag) (fun _=>rfl))
   (Ah (ss 2 U7.nd (Aj Ks (pv 2) (pv 4))))
   Bq)))
   (Ah (Av (pv 2))))),?_⟩
 walk_at "rd0";refine⟨p,_,_,_,_,rfl,e1,T.Jx,T.Vj,ZCZ _ _ _ _,?_⟩;refine ZJ8 (xs:=(nums af).map V.int) (fun i σ H'=>Same H H'∧∃v v',σ=[some (.ref p),some (.int (n:Int)),some (.int ((orUp (fun k=>if n.testBit k=true then af.getD k 0 else 0) i:Nat):Int)),v,v']) ⟨Same.refl _,_,_,rfl⟩ (fun i σ H' _ hp=>SqT.of (hp.1 _ _ e2)) ?_ ?_
 ·rintro i x T' σ H0 H' hx ⟨s1,v,v',rfl⟩ s2 n2 eT
  obtain⟨hi,rfl⟩:=ZFl hx;refine Jb eT ?_;walk_at "";rw[ZFU];refine JX (fun h1=>?_) (fun h1=>?_)
  ·walk_at ""
   rw[J5];refine⟨s1.trans s2,some (.int (i:Int)),some (.int ((af.getD i 0:Nat):Int)),?_⟩
   have e:orUp (fun k=>if n.testBit k=true then af.getD k 0 else 0) (i+1)=orUp (fun k=>if n.testBit k=true then af.getD k 0 else 0) i ||| af.getD i 0:=by
    show orUp _ i ||| (if n.testBit i=true then af.getD i 0 else 0)=_
    rw[if_pos h1]
   rw[e]
   all_goals rfl
  ·walk_at ""
   refine⟨s1.trans s2,some (.int (i:Int)),some (.int ((af.getD i 0:Nat):Int)),?_⟩;rw[ZA1 (n:=i) (show(if n.testBit i=true then af.getD i 0 else 0)=0 by rw[h1,if_neg Dt])]
   all_goals rfl
 ·rintro σ H' ⟨s1,v,v',rfl⟩
  rw[Tc];walk_at "";exact q H' s1
theorem ZxY (T:Txt K mg t):∀C,isCh t C→MeS P w K mg base 1 C "ahead" ["self","crowd"] (spAt (ZBB t) C):=by
 rintro C rfl;exact ZqE T
noncomputable def ZDv (t:Ad):Sp:=fun vs H Q _=>∃(p:Ab) (m st bd:Nat) (af:List Nat),vs=[.ref p]∧Jz t H p m st bd af∧GoodC m st bd af∧∀l H' k,Same H H'→H l=none→H' l=some (.lst ((nums (layL af st k)).map V.int))→Flood af st k→k≤64→Q (.ref l) H'
theorem ZAU (T:Txt K mg t):FnS P w K mg base 2 "layers" ["chart"] ((ZDv t)):=by
 refine⟨_,_,T.QK.ok Xa (fun vs H Q E h=>?_) (fun cdv A outer s H vs Q E hr h=>?_),T.Zw0,T.QK.kp,T.Zxr⟩
 ·obtain⟨p,m,st,bd,af,rfl,hC,hG,q⟩:=h
  rfl
 obtain⟨p,m,st,bd,af,rfl,hC,hG,q⟩:=h;have D_ahead:=ZxY (P:=P) (w:=w) (base:=base) T;have hp:=S9 hG.m6;obtain⟨C,dx,fs,ei,hi,lk⟩:=hC.ins "ahead" (by decide) (by decide) (by decide) (by decide);obtain⟨dy,tp,c1,c2⟩:=id hC
 refine⟨_,(Ai (ss 1 Xa.nd (Br (Ac (Cj (pv 0) rfl) Af)))
   (Ai (ss 2 Xa.nd (Aj Ks (Cj (pv 0) rfl) (Eb D_ahead hr (pv 0) (Ac (Cj (pv 0) rfl) Af))))
   (Ai (lw Cz (Ay (Ja hr.units) (pv 2) (Bm Bo (pv 1) (JT Lh Ag) (fun _ _=>rfl)) (Bd _))
   (Ai (Dc (CG Ds Eg Em Ea (pv 1) (Ac (pv 2) Af)))
   (Ah (ss 2 Xa.nd (Aj Ks (pv 2) (Eb D_ahead hr (pv 0) (Ac (pv 2) Af)))))))
   (Ah (Av (pv 1)))))),?_⟩
 walk_at "rd0";refine⟨p,_,_,_,_,rfl,c1,T.Jx,T.Nq,Zpg _ _ _ _,?_⟩;walk_at "";refine BR (Dv rfl) fun l H1 s1 n1 e1=>?_;walk_at "";refine⟨p,_,_,_,_,rfl,s1 _ _ c1,T.Jx,T.Nq,Zpg _ _ _ _,?_⟩;walk_at "";refine⟨p,C,dx,fs,rfl,s1 _ _ ei,hi,lk,?_⟩;walk_at "";refine⟨p,_,_,_,_,rfl,s1 _ _ c1,T.Jx,T.Nq,Zpg _ _ _ _,?_⟩;walk_at "";refine⟨s1 _ _ ei,p,_,_,_,af,st,rfl,hC.mono (Ext.of s1),fun H2 s2=>?_⟩;walk_at "";rw[J5];refine⟨fun n σ H'=>∃i,n=64 - i∧Same H H'∧H' l=some (.lst ((nums (layL af st i)).map V.int))∧(∀j,j < i→layN af st (j+1)≠layN af st j)∧σ=[some (.ref p),some (.ref l),some (.int ((layN af st (i+1):Nat):Int))],⟨64,0,rfl,s1.trans s2,s2 _ _ e1,fun j hj=>absurd hj (Wh _),rfl⟩,?_⟩;rintro n σ H' ⟨i,rfl,s3,e3,hj,rfl⟩;have hi64:i≤64:=Ex (ZAx hG.af hG.st hj) hp;walk_at "";refine UL e3 (Zxj af st i) ?_;walk_at "";refine ZJT (fun h1=>?_) (fun h1=>?_)
 ·have hj':∀j,j < i+1→layN af st (j+1)≠layN af st j:=fun j h=>by
   by_cases e:j=i
   ·subst e; exact fun z=>h1 (by rw[z])
   ·exact hj j (by omega)
  have hi65:i+1≤64:=Ex (ZAx hG.af hG.st hj') hp;refine⟨fun σ' H''=>Same H H''∧H'' l=some (.lst ((nums (layL af st (i+1))).map V.int))∧σ'=[some (.ref p),some (.ref l),some (.int ((layN af st (i+1+1):Nat):Int))],fun σ' H'' z=>⟨64 - (i+1),by omega,i+1,rfl,z.1,z.2.1,hj',z.2.2⟩,?_⟩;walk_at "";refine⟨tyL e3,?_⟩;walk_at "";refine Eu e3 (by rw[Tc,Zsa]; omega) fun H4 b4 e4=>?_;have s4:Same H H4:=b4.same n1 s3;walk_at "";refine⟨p,C,dx,fs,rfl,s4 _ _ ei,hi,lk,?_⟩;walk_at "";refine⟨s4 _ _ ei,p,_,_,_,af,_,rfl,hC.mono (Ext.of s4),fun H5 s5=>?_⟩;walk_at "";rw[J5];refine⟨s4.trans s5,s5 _ _ ?_,rfl⟩;rw[e4,ZAw,Zuy]
 ·walk_at ""
  exact q l H' i s3 n1 e3 ⟨hj,by omega⟩ hi64
end
theorem ZGg {f:Nat→Bool} {n:Nat} (h:f n=true):dh ((bits f n:Nat):Int) (1 * 2 ^ (((0:Int)+(n:Int))).toNat)=((bits f (n+1):Nat):Int):=by
 have e:(1:Int) * 2 ^ (((0:Int)+(n:Int))).toNat=((2 ^ n:Nat):Int):=by
  rw[g8]; exact J6 n
 rw[e,J5,Zvv f n h]
section
variable {P:Bp} {w:Bg} {K:Ao} {mg:Str→Option Ae} {base:Aq} {t:Ad} {n:Nat}
noncomputable def Ii (t:Ad) (n:Nat):Sp:=fun vs H Q _=>∃(p:Ab) (m:Nat) (f:Fm),vs=[.ref p,.int (m:Int)]∧m≤6∧FmAt t H n p f∧Q (.int ((f.crowd (2 ^ m):Nat):Int)) H
theorem Zsi (T:Txt K mg t):MeS P w K mg base (n+2) t.CK "crowd" ["self","many"] (spAt (Ii t (n+1)) t.CK):=by
 refine⟨T.Jd,_,_,T.RX.ok Xk (fun vs H Q E h=>?_) (fun cdv A outer s H vs Q E hr h=>?_),T.Zi0,T.Zjb⟩
 ·obtain⟨⟨p,m,f,rfl,_⟩,_⟩:=h
  rfl
 ·obtain⟨⟨p,m,f,rfl,hm,hf,q⟩,a,dx,fs,r,e,ea⟩:=h
  cases e
  have D_holds:=ZW (P:=P) (w:=w) (base:=base) T (n+1);have hp:=S9 hm;have hp0:=dg (2 ^ m)
  refine⟨_,(Ai (ss 2 Xk.nd Ag)
   (Ai (Dd Cz rfl (Hn rfl T.B.range (Ac (Aj JV Ag (pv 1)) Af)) (sg 3 Xk.nd)
   (Ah (Bl (DX (Eb D_holds hr (pv 0) (Ac (pv 3) Af)) (fun _=>rfl))
   (Ah (ss 2 Xk.nd (Aj Ks (pv 2) (Aj JV Ag (pv 3)))))
   Bq)))
   (Ah (Av (pv 2))))),?_⟩
  walk_at "rd0";rw[J6];refine⟨_,rfl,by omega,by omega,?_⟩;rw[JM];refine ZJY (fun i σ H'=>H'=H∧∃v,σ=[some (.ref p),some (.int (m:Int)),some (.int ((f.crowd i:Nat):Int)),v]) ⟨rfl,_,rfl⟩ ?_ ?_
  ·rintro i σ H' hi ⟨rfl,v,rfl⟩
   obtain⟨C,dx',fs',e',hC,hl⟩:=hf.ins "holds" (by decide +kernel) (by decide +kernel) (by decide +kernel) (by decide +kernel);walk_at "";refine⟨p,C,dx',fs',rfl,e',hC,hl,?_⟩;walk_at "";have ei:(0:Int)+(i:Int)=((i:Nat):Int):=g8 _;refine⟨e',p,i,f,by rw[ei],hf,?_⟩;walk_at "";refine JX (fun hb=>?_) (fun hb=>?_)
   ·walk_at ""
    refine⟨rfl,some (.int (0+(i:Int))),?_⟩;have e2:=ZGg (f:=fun s=>f.holds s) (n:=i) hb;unfold Fm.crowd;rw[e2]
    all_goals rfl
   ·walk_at ""
    refine⟨rfl,some (.int (0+(i:Int))),?_⟩;unfold Fm.crowd;rw[Zzz (fun s=>f.holds s) i hb]
    all_goals rfl
  ·rintro σ H' ⟨rfl,v,rfl⟩
   walk_at "";exact q
theorem Zsl (T:Txt K mg t):MeS P w K mg base (n+2) t.CN "crowd" ["self","many"] (spAt (Ii t (n+1)) t.CN):=by
 refine⟨T.HW,_,_,T.R1.ok ZsJ (fun vs H Q E h=>?_) (fun cdv A outer s H vs Q E hr h=>?_),T.Zi4,T.Zjg⟩
 ·obtain⟨⟨p,m,f,rfl,_⟩,_⟩:=h
  rfl
 ·obtain⟨⟨p,m,f,rfl,hm,hf,q⟩,a,dx,fs,r,e,ea⟩:=h
  cases e
  obtain⟨b,rfl,rfl⟩:=hf.sure T ea;have J7:=Td (P:=P) (w:=w) (base:=base) T;rw[Zq3]at q;refine⟨_,(Ah (Av (Lg (DX (Cj (pv 0) rfl) (fun _=>rfl)) (Bj J7 hr (Ac (pv 1) Af)) Ag))),?_⟩;walk_at "rd0";refine⟨p,_,_,_,_,rfl,ea,T.HW,T.Nv,lk1 _ _,?_⟩;walk_at "";refine JX (fun hb=>?_) (fun hb=>?_)
  ·subst hb
   walk_at "";exact⟨m,rfl,hm,q⟩
  ·subst hb
   walk_at "";exact q
theorem ZuB (T:Txt K mg t) (D_crowd:∀C,isFm t C→MeS P w K mg base (n+1) C "crowd" ["self","many"] (spAt (Ii t n) C)):MeS P w K mg base (n+2) t.C_Not "crowd" ["self","many"] (spAt (Ii t (n+1)) t.C_Not):=by
 refine⟨T.c_Not,_,_,T.R5.ok ZuP (fun vs H Q E h=>?_) (fun cdv A outer s H vs Q E hr h=>?_),T.Zk0,T.Zk8⟩
 ·obtain⟨⟨p,m,f,rfl,_⟩,_⟩:=h
  rfl
 ·obtain⟨⟨p,m,f,rfl,hm,hf,q⟩,a,dx,fs,r,e,ea⟩:=h
  cases e
  have J7:=Td (P:=P) (w:=w) (base:=base) T;obtain⟨g,p',rfl,rfl,hg⟩:=hf.neg T ea;obtain⟨C,dx',fs',e',hC,hl⟩:=hg.ins "crowd" (by decide +kernel) (by decide +kernel) (by decide +kernel) (by decide +kernel);refine⟨_,(Ah (Av (Aj ZEH (Bj J7 hr (Ac (pv 1) Af)) (Eb D_crowd hr (Cj (pv 0) rfl) (Ac (pv 1) Af))))),?_⟩;walk_at "rd0";refine⟨m,rfl,hm,?_⟩;walk_at "";refine⟨p,_,_,_,_,rfl,ea,T.c_Not,T.KJ,lk1 _ _,?_⟩;walk_at "";refine⟨p',C,dx',fs',rfl,e',hC,hl,?_⟩;walk_at "";refine⟨e',p',m,g,rfl,hm,hg,?_⟩;walk_at "";rw[ZzM]at q;rw[ZB7];exact q
theorem Zuz (T:Txt K mg t) (D_crowd:∀C,isFm t C→MeS P w K mg base (n+1) C "crowd" ["self","many"] (spAt (Ii t n) C)):MeS P w K mg base (n+2) t.C_And "crowd" ["self","many"] (spAt (Ii t (n+1)) t.C_And):=by
 refine⟨T.c_And,_,_,T.Sg.ok Xl (fun vs H Q E h=>?_) (fun cdv A outer s H vs Q E hr h=>?_),T.ZkY,T.Zk5⟩
 ·obtain⟨⟨p,m,f,rfl,_⟩,_⟩:=h
  rfl
 ·obtain⟨⟨p,m,f,rfl,hm,hf,q⟩,a,dx,fs,r,e,ea⟩:=h
  cases e
  have J7:=Td (P:=P) (w:=w) (base:=base) T;obtain⟨gs,tp,ps,rfl,rfl,htp,hg⟩:=hf.join (w:=.a) T ea
  refine⟨_,(Ai (ss 2 Xl.nd (Bj J7 hr (Ac (pv 1) Af)))
   (Ai (Dd Cz rfl (Et (Cj (pv 0) rfl)) (sg 3 Xl.nd)
   (Ah (ss 2 Xl.nd (Aj Ur (pv 2) (Eb D_crowd hr (pv 3) (Ac (pv 1) Af))))))
   (Ah (Av (pv 2))))),?_⟩
  walk_at "rd0";refine⟨m,rfl,hm,?_⟩;walk_at "";refine⟨p,_,_,_,_,rfl,ea,T.c_And,T.Nx,lk1 _ _,?_⟩;refine seqT (xs:=ps.map V.ref) (fun i σ H'=>H'=H∧∃v,σ=[some (.ref p),some (.int (m:Int)),some (.int (((Fm.join .a (gs.take i)).crowd (2 ^ m):Nat):Int)),v]) ⟨rfl,_,by rw[Ug,p8]; simp only [UG]; rw[ph]; all_goals rfl⟩ (fun i σ H' _ hp=>by obtain⟨rfl,_⟩:=hp; exact SqT.of htp) ?_ ?_
  ·rintro i x σ H' hx ⟨rfl,v,rfl⟩
   obtain⟨p',rfl,hx'⟩:=FQ hx;obtain⟨g,hgi,hf'⟩:=Ib hg hx';obtain⟨C,dx',fs',e',hC,hl⟩:=hf'.ins "crowd" (by decide +kernel) (by decide +kernel) (by decide +kernel) (by decide +kernel);walk_at "";refine⟨p',C,dx',fs',rfl,e',hC,hl,?_⟩;walk_at "";refine⟨e',p',m,g,rfl,hm,hf',?_⟩;walk_at "";refine⟨rfl,some (.ref p'),?_⟩;rw[Vk,Ff hgi,qd]
   all_goals rfl
  ·rintro σ H' ⟨rfl,v,rfl⟩
   walk_at "";rw[Ax,Dj hg,Fw];exact q
theorem Zpv (T:Txt K mg t) (D_crowd:∀C,isFm t C→MeS P w K mg base (n+1) C "crowd" ["self","many"] (spAt (Ii t n) C)):MeS P w K mg base (n+2) t.CV "crowd" ["self","many"] (spAt (Ii t (n+1)) t.CV):=by
 refine⟨T.HX,_,_,T.Su.ok Xn (fun vs H Q E h=>?_) (fun cdv A outer s H vs Q E hr h=>?_),T.Zhd,T.Zhi⟩
 ·obtain⟨⟨p,m,f,rfl,_⟩,_⟩:=h
  rfl
 ·obtain⟨⟨p,m,f,rfl,hm,hf,q⟩,a,dx,fs,r,e,ea⟩:=h
  cases e
  have J7:=Td (P:=P) (w:=w) (base:=base) T;obtain⟨gs,tp,ps,rfl,rfl,htp,hg⟩:=hf.join (w:=.e) T ea
  refine⟨_,(Ai (ss 2 Xn.nd Ag)
   (Ai (Dd Cz rfl (Et (Cj (pv 0) rfl)) (sg 3 Xn.nd)
   (Ah (ss 2 Xn.nd (Aj ZEH (pv 2) (Eb D_crowd hr (pv 3) (Ac (pv 1) Af))))))
   (Ah (Av (pv 2))))),?_⟩
  walk_at "rd0";refine⟨p,_,_,_,_,rfl,ea,T.HX,T.Ny,lk1 _ _,?_⟩;refine seqT (xs:=ps.map V.ref) (fun i σ H'=>H'=H∧∃v,σ=[some (.ref p),some (.int (m:Int)),some (.int (((Fm.join .e (gs.take i)).crowd (2 ^ m):Nat):Int)),v]) ⟨rfl,_,by rw[Ug,p8]; simp only [UG]; rw[pq]; all_goals rfl⟩ (fun i σ H' _ hp=>by obtain⟨rfl,_⟩:=hp; exact SqT.of htp) ?_ ?_
  ·rintro i x σ H' hx ⟨rfl,v,rfl⟩
   obtain⟨p',rfl,hx'⟩:=FQ hx;obtain⟨g,hgi,hf'⟩:=Ib hg hx';obtain⟨C,dx',fs',e',hC,hl⟩:=hf'.ins "crowd" (by decide +kernel) (by decide +kernel) (by decide +kernel) (by decide +kernel);walk_at "";refine⟨p',C,dx',fs',rfl,e',hC,hl,?_⟩;walk_at "";refine⟨e',p',m,g,rfl,hm,hf',?_⟩;walk_at "";refine⟨rfl,some (.ref p'),?_⟩;rw[ZB7,Ff hgi,qd]
   all_goals rfl
  ·rintro σ H' ⟨rfl,v,rfl⟩
   walk_at "";rw[Ax,Dj hg,Fw];exact q
theorem Zwp (T:Txt K mg t) (D_crowd:∀C,isFm t C→MeS P w K mg base (n+1) C "crowd" ["self","many"] (spAt (Ii t n) C)):MeS P w K mg base (n+2) t.C_Or "crowd" ["self","many"] (spAt (Ii t (n+1)) t.C_Or):=by
 refine⟨T.c_Or,_,_,T.Sy.ok Xo (fun vs H Q E h=>?_) (fun cdv A outer s H vs Q E hr h=>?_),T.ZmD,T.ZmP⟩
 ·obtain⟨⟨p,m,f,rfl,_⟩,_⟩:=h
  rfl
 ·obtain⟨⟨p,m,f,rfl,hm,hf,q⟩,a,dx,fs,r,e,ea⟩:=h
  cases e
  have J7:=Td (P:=P) (w:=w) (base:=base) T;obtain⟨gs,tp,ps,rfl,rfl,htp,hg⟩:=hf.join (w:=.o) T ea
  refine⟨_,(Ai (ss 2 Xo.nd Ag)
   (Ai (Dd Cz rfl (Et (Cj (pv 0) rfl)) (sg 3 Xo.nd)
   (Ah (ss 2 Xo.nd (Aj Ks (pv 2) (Eb D_crowd hr (pv 3) (Ac (pv 1) Af))))))
   (Ah (Av (pv 2))))),?_⟩
  walk_at "rd0";refine⟨p,_,_,_,_,rfl,ea,T.c_Or,T.Nz,lk1 _ _,?_⟩;refine seqT (xs:=ps.map V.ref) (fun i σ H'=>H'=H∧∃v,σ=[some (.ref p),some (.int (m:Int)),some (.int (((Fm.join .o (gs.take i)).crowd (2 ^ m):Nat):Int)),v]) ⟨rfl,_,by rw[Ug,p8]; simp only [UG]; rw[pq]; all_goals rfl⟩ (fun i σ H' _ hp=>by obtain⟨rfl,_⟩:=hp; exact SqT.of htp) ?_ ?_
  ·rintro i x σ H' hx ⟨rfl,v,rfl⟩
   obtain⟨p',rfl,hx'⟩:=FQ hx;obtain⟨g,hgi,hf'⟩:=Ib hg hx';obtain⟨C,dx',fs',e',hC,hl⟩:=hf'.ins "crowd" (by decide +kernel) (by decide +kernel) (by decide +kernel) (by decide +kernel);walk_at "";refine⟨p',C,dx',fs',rfl,e',hC,hl,?_⟩;walk_at "";refine⟨e',p',m,g,rfl,hm,hf',?_⟩;walk_at "";refine⟨rfl,some (.ref p'),?_⟩;rw[J5,Ff hgi,qd]
   all_goals rfl
  ·rintro σ H' ⟨rfl,v,rfl⟩
   walk_at "";rw[Ax,Dj hg,Fw];exact q
theorem Zmw (T:Txt K mg t):∀n:Nat,∀C,isFm t C→MeS P w K mg base (n+1) C "crowd" ["self","many"] (spAt (Ii t n) C)
 | 0=>by
  have no:∀C vs H Q E,¬spAt (Ii t 0) C vs H Q E:=fun C vs H Q E h=>by
   obtain⟨⟨p,s,f,_,_,h,_⟩,_⟩:=h;exact h
  rintro C (rfl | rfl | rfl | rfl | rfl | rfl)
  ·exact(Ih (no _) T.Jd T.Zi0 T.Zjb).up (by omega)
  ·exact(Ih (no _) T.HW T.Zi4 T.Zjg).up (by omega)
  ·exact(Ih (no _) T.c_Not T.Zk0 T.Zk8).up (by omega)
  ·exact(Ih (no _) T.c_And T.ZkY T.Zk5).up (by omega)
  ·exact(Ih (no _) T.HX T.Zhd T.Zhi).up (by omega)
  ·exact(Ih (no _) T.c_Or T.ZmD T.ZmP).up (by omega)
 | n+1=>by
  have ih:=Zmw T n;rintro C (rfl | rfl | rfl | rfl | rfl | rfl)
  ·exact Zsi T
  ·exact Zsl T
  ·exact ZuB T ih
  ·exact Zuz T ih
  ·exact Zpv T ih
  ·exact Zwp T ih
end
def Lt (z:Str):Prop:=∀c∈z.cps.toList,97≤c∧c≤122
theorem ZX {z:Str} (h:Lt z) (lo hi:Option Int):Lt (Txt.slice z lo hi):=by
 unfold Txt.slice
 split
 ·exact h
 ·intro c hc
  have hc:c∈(Yds lo hi 1 z.length).filterMap (z.cps[·]?):=by simpa using hc
  obtain⟨i,_,e⟩:=Yap.mp hc;obtain⟨hi,e⟩:=jg.mp e;exact h c (by rw[←e]; simp)
theorem Te {x y:Str} (hx:Lt x) (hy:Lt y):Lt (x++y):=by
 intro c hc;have hc:c∈(x.cps++y.cps).toList:=hc;rw[Oj,Er]at hc;exact hc.elim (hx c) (hy c)
theorem ZZ {k:Nat} (h:k < 26):Lt ⟨#[97+k]⟩:=by
 intro c hc;have hc:c∈[97+k]:=hc;rw[Ck.mp hc];omega
noncomputable def abc:Str:="abcdefghijklmnopqrstuvwxyz"
theorem ZAz:∀k,k < 26→abc.cps.toList[k]?=some (97+k):=by decide +kernel
theorem ZCY:∀k,k < 26→Txt.find abc ⟨#[97+k]⟩=(k:Int):=by decide +kernel
theorem ZvK {z:Str} {k:Nat} (h:k < z.length):∃c,z.cps.toList[k]?=some c:=by
 have h:k < z.cps.toList.length:=by simpa [Cq] using h
 exact⟨_,Dr h⟩
theorem ZBg {α:Type} [DecidableEq α] (f:Nat→α):∀(k:Nat) (L:List α),(∀i,i < k→f i∈L)→(∀i j,i < j→j < k→f i≠f j)→k≤L.length
 | 0,_,_,_=>De _
 | k+1,L,h,d=>by
  have hk:=h k (by omega);have:=ZBg f k (L.erase (f k)) (fun i hi=>(List.mem_erase_of_ne (d i k hi (by omega))).mpr (h i (by omega))) (fun i j hij hj=>d i j hij (by omega));rw[List.length_erase_of_mem hk]at this;have:0 < L.length:=List.length_pos_of_mem hk;omega
noncomputable def rot (u:Str) (c j:Nat):Str:=u++⟨#[97+(c+j) % 26]⟩
theorem ZI0 {u:Str} {c i j:Nat} (h:i < j) (hj:j < 26):rot u c i≠rot u c j:=by
 intro e;have e:(u.cps ++ #[97+(c+i) % 26])=(u.cps ++ #[97+(c+j) % 26]):=congrArg Str.cps e;have e:=congrArg VH e;rw[Oj,Oj]at e;have e:=List.append_cancel_left e;simp at e;omega
theorem ZzN {z:Str} (h:1≤z.length) (hz:Lt z):∃c,c < 26∧z=rot (Txt.slice z none (some (-1))) c 0:=by
 have hl:z.cps.toList.length=z.length:=by simp[Cq]
 obtain⟨c,hc⟩:=ZvK (z:=z) (k:=z.length - 1) (by omega);have hm:=hz c (Dm hc);refine⟨c - 97,by omega,?_⟩
 have e1:Txt.slice z none (some (-1))=⟨(z.cps.toList.take (z.length - 1)).toArray⟩:=by
  rw[Ycw (by decide)];show Ya4 z none (some _)=_;rw[Ycx (by constructor <;> omega)];rw[jh,show((max 0 ((z.length:Int) + -1)) - 0).toNat=z.length - 1 by omega]
 rw[e1];unfold rot
 have e2:z.cps.toList=z.cps.toList.take (z.length - 1)++[c]:=by
  have:=Ff hc;rw[show z.length - 1+1=z.cps.toList.length by omega,Fw]at this;exact this
 have e3:97+(c - 97+0) % 26=c:=by omega
 rw[e3];show z=Str.append _ _;unfold Str.append;obtain⟨a⟩:=z
 congr 1
 apply ju.mp;rw[Oj];exact e2
theorem ZBr (u:Str) (c j:Nat):Txt.slice (rot u c j) none (some (-1))=u:=by
 have hl:(rot u c j).length=u.length+1:=by unfold rot; rw[Ce]; rfl
 rw[Ycw (by decide)];show Ya4 (rot u c j) none (some _)=_
 have hl2:(rot u c j).cps.toList.length=(rot u c j).length:=by simp[Cq]
 rw[Ycx (by constructor <;> omega)];rw[jh,show((max 0 (((rot u c j).length:Int) + -1)) - 0).toNat=u.length by omega];obtain⟨a⟩:=u
 congr 1
 show((a ++ #[97+(c+j) % 26]).toList.take a.size).toArray=a;rw[Oj,show a.size=a.toList.length by simp,Ycy]
theorem ZDq (u:Str) (c j:Nat):atI (rot u c j).cps.toList (-1)=some (97+(c+j) % 26):=by
 have e:(rot u c j).cps.toList=u.cps.toList++[97+(c+j) % 26]:=by
  show(u.cps ++ #[97+(c+j) % 26]).toList=_;rw[Oj]
 rw[e];unfold atI ixN;rw[if_neg (by decide),if_pos (by rw[CZ,Gv]; omega)];show(u.cps.toList++[97+(c+j) % 26])[_]?=_;rw[CZ,Gv,show(-1+((u.cps.toList.length+1:Nat):Int)).toNat=u.cps.toList.length by omega,Yav (Bv _)];simp
theorem Vm (x:Str):∀ns:List Str,inV (.str x) (ns.map V.str)=decide (x∈ns)
 | []=>rfl
 | y::ns=>by
  have ih:=Vm x ns;unfold inV at ih ⊢;rw[Dq,T5,ih];have e:eqV (.str y) (.str x)=decide (y=x):=rfl;rw[e]
  by_cases h:y=x
  ·simp[h]
  ·have h' : ¬x=y:=fun z=>h z.symm
   simp[h,h']
section
variable {P:Bp} {w:Bg} {K:Ao} {mg:Str→Option Ae} {base:Aq} {t:Ad} {n:Nat}
theorem Z1 {p:Ab} {x:Str} {ns:List Str} {H:Hp} {Q:VK} (h:H p=some (.lst (ns.map V.str))∨H p=some (.tup (ns.map V.str))) (k:Q (.bl (decide (x∈ns))) H):rInG K (.str x) (.ref p) H Q:=by
 refine .inr ⟨p,ns.map V.str,rfl,h.imp SqL.of SqT.of,rfl,?_,?_⟩
 ·rw[GK]
  intro v hv;obtain⟨z,_,rfl⟩:=Fx.mp hv;rfl
 ·rw[Vm]
  exact k
theorem ZJQ {x:Int} {H:Hp} {Q:VK} (h:∀e,e < 26→Q (.str ⟨#[97+e]⟩) H):rIx K (.str "abcdefghijklmnopqrstuvwxyz") (.int (x % 26)) H Q:=by
 obtain⟨e,he,he26⟩ : ∃e:Nat,x % 26=(e:Int)∧e < 26:=⟨(x % 26).toNat,by omega,by omega⟩;rw[he];exact Ox (by decide) (Lj (ZAz e he26)) (h e he26)
end
noncomputable def jn (z:List Nat):List (List Nat)→List Nat
 | []=>[]
 | [p]=>p
 | p::q::r=>p++z++jn z (q::r)
theorem list_append (x y:Str):(x++y).cps.toList=x.cps.toList++y.cps.toList:=by
 show(x.cps++y.cps).toList=_;rw[Oj]
theorem Tf (z:Str):∀ps:List Str,(Str.join z ps).cps.toList=jn z.cps.toList (ps.map fun p=>p.cps.toList)
 | []=>rfl
 | [p]=>rfl
 | p::q::r=>by
  show(p++z++Str.join z (q::r)).cps.toList=_;rw[list_append,list_append,Tf z (q::r)];rfl
noncomputable def rp (c:Nat) (z l:List Nat):List Nat:=l.flatMap fun d=>if d=c then z else [d]
theorem Vn (c:Nat) (z a b:List Nat):rp c z (a++b)=rp c z a++rp c z b:=by
 unfold rp; rw[Ycz]
theorem Tg {c:Nat} {z:List Nat}:∀{p:List Nat},c∉p→rp c z p=p
 | [],_=>rfl
 | d::p,h=>by
  have h1 : ¬d=c:=fun e=>h (by rw[e]; exact Dg);have h2:c∉p:=fun e=>h (CW _ e);show(if d=c then z else [d])++rp c z p=d::p;rw[if_neg h1,Tg h2];rfl
theorem ZI3 (c:Nat) (z:List Nat):rp c z [c]=z:=by
 show(if c=c then z else [c])++[]=z;rw[if_pos rfl,Es]
theorem ZI1 (c:Nat) (z:List Nat):∀ps:List (List Nat),(∀p∈ps,c∉p)→rp c z (jn [c] ps)=jn z ps
 | [],_=>rfl
 | [p],h=>Tg (h p Dg)
 | p::q::r,h=>by
  show rp c z (p++[c]++jn [c] (q::r))=p++z++jn z (q::r);rw[Vn,Vn,Tg (h p Dg),ZI3,ZI1 c z (q::r) fun x hx=>h x (CW _ hx)]
theorem Zyk (x:Str) (c:Nat):∀p∈(Txt.split x ⟨#[c]⟩).map fun p=>p.cps.toList,c∉p:=by
 intro p hp;obtain⟨q,hq,rfl⟩:=Fx.mp hp;exact StrLaws.split_free x c q hq
theorem ZDH (x:Str) (c:Nat):jn [c] ((Txt.split x ⟨#[c]⟩).map fun p=>p.cps.toList)=x.cps.toList:=by
 have e:=Tf ⟨#[c]⟩ (Txt.split x ⟨#[c]⟩);rw[StrLaws.join_split]at e;exact e.symm
theorem Vo (x z:Str) (c:Nat):(Txt.replace x ⟨#[c]⟩ z).cps.toList=rp c z.cps.toList x.cps.toList:=by
 rw[StrLaws.replace_one,Tf,←ZI1 c _ _ (Zyk x c),ZDH]
theorem ZEL {c:Nat} {z:List Nat} {n:Nat} (hz:z.length≤n) (h1:1≤n):∀l:List Nat,(rp c z l).length≤l.length * n
 | []=>De _
 | d::l=>by
  have ih:=ZEL (c:=c) hz h1 l;show((if d=c then z else [d])++rp c z l).length≤(l.length+1) * n;rw[CZ,Nat.succ_mul]
  by_cases e:d=c
  ·rw[if_pos e]; omega
  ·rw[if_neg e]; simp only [Gv]; omega
theorem ZI2 {c:Nat} {z l:List Nat} {d:Nat} (h:d∈rp c z l):d∈l∨d∈z:=by
 unfold rp at h;obtain⟨e,he,hd⟩:=List.mem_flatMap.mp h
 by_cases q:e=c
 ·rw[if_pos q]at hd; exact .inr hd
 ·rw[if_neg q]at hd; rw[Ck.mp hd]; exact .inl he
noncomputable def wl:List Nat→List Nat→List (List Nat)
 | [],cur=>if cur=[] then [] else [cur]
 | c::cs,cur=>if c=32 then(if cur=[] then wl cs [] else cur::wl cs []) else wl cs (cur++[c])
open StrLaws Builtin.Str in
def SwIs (x:Str) (cur:Nat) (st:SwSt):Prop:=
 st.fst=none∧(∀p∈st.snd.fst.toList,p.2≤x.length)∧
 match st.snd.snd with
 | some b=>b < cur∧wsum st.snd.fst.toList≤b∧(st.snd.fst.toList.map fun p:Nat×Nat=>(strSub x p.1 p.2).cps.toList)++wl (x.cps.toList.drop cur) ((x.cps.toList.drop b).take (cur - b))=wl x.cps.toList []
 | none=>wsum st.snd.fst.toList≤cur∧(st.snd.fst.toList.map fun p:Nat×Nat=>(strSub x p.1 p.2).cps.toList)++wl (x.cps.toList.drop cur) []=wl x.cps.toList []
theorem ZCt {l:List Nat} {k c:Nat} (h:l[k]?=some c):l.drop k=c::l.drop (k+1):=by
 obtain⟨hk,e⟩:=Ej.mp h;rw[ji hk,e]
theorem ZxR {l:List Nat} {b k c:Nat} (hb:b≤k) (h:l[k]?=some c):(l.drop b).take (k+1 - b)=(l.drop b).take (k - b)++[c]:=by
 have e:k+1 - b=(k - b)+1:=by omega
 rw[e,Ycs,Lb,show b+(k - b)=k by omega,h];rfl
open StrLaws Builtin.Str in
theorem Vp (x:Str) (hsp:∀c∈x.cps.toList,jw c=decide (c=32)):∀(m cur:Nat) (st:SwSt),cur+m≤x.length→SwIs x cur st→SwIs x (cur+m) (forIn (YaZ cur m) st (swBody x (x.length+1))).run
 | 0,cur,st,_,h=>h
 | m+1,cur,(r,words,sta),hm,h=>by
  rw[Ycl,YaK]
  have e:cur+(m+1)=(cur+1)+m:=by omega
  rw[e];obtain⟨h1,h2,h3⟩:=h
  have hcs:cur < x.cps.size:=by show cur < x.length; omega
  have hcl:x.cps.toList[cur]?=some x.cps[cur]:=by rw[V5]; simp[hcs]
  have hc0:x.cps.getD cur 0=x.cps[cur]:=by simp[Array.getD,hcs]
  have hs:jw (x.cps.getD cur 0)=decide (x.cps[cur]=32):=by rw[hc0]; exact hsp _ (Dm hcl)
  have hd:=ZCt hcl
  have hsz : ¬((words.size == x.length+1)=true):=by
   have a:=len_le_wsum words.toList
   have b:words.toList.length=words.size:=by simp
   have c:wsum words.toList≤cur:=by
    cases sta with
    | none=>exact h3.1
    | some b=>exact Ex h3.2.1 (VD h3.1)
   rw[beq_iff_eq]; omega
  unfold swBody;simp only [hsz,if_false];rw[hs]
  cases sta with
  | none=>
   obtain⟨g1,g2⟩:=h3;rw[hd]at g2
   by_cases q:x.cps[cur]=32
   ·rw[decide_eq_true q]
    refine Vp x hsp m (cur+1) _ (by omega) ⟨rfl,h2,Ud g1,?_⟩;rw[show wl (x.cps[cur]::x.cps.toList.drop (cur+1)) []=wl (x.cps.toList.drop (cur+1)) [] by show(if x.cps[cur]=32 then _ else _)=_; rw[if_pos q]; rfl]at g2;exact g2
   ·rw[decide_eq_false q]
    refine Vp x hsp m (cur+1) _ (by omega) ⟨rfl,h2,Oe _,g1,?_⟩;rw[show wl (x.cps[cur]::x.cps.toList.drop (cur+1)) []=wl (x.cps.toList.drop (cur+1)) [x.cps[cur]] by show(if x.cps[cur]=32 then _ else _)=_; rw[if_neg q]; rfl]at g2;rw[ZxR (Bv cur) hcl,Ya5,Ug];exact g2
  | some b=>
   obtain⟨g0,g1,g2⟩:=h3;have g0:b < cur:=g0;have g1:wsum words.toList≤b:=g1;rw[hd]at g2
   have hne:(x.cps.toList.drop b).take (cur - b)≠[]:=by
    intro z;have:=congrArg K7 z;rw[Gu,JN,Hg]at this;simp only [Gw]at this;omega
   by_cases q:x.cps[cur]=32
   ·rw[decide_eq_true q]
    refine Vp x hsp m (cur+1) _ (by omega) ⟨rfl,?_,?_,?_⟩
    ·intro p hp
     rw[jx,Er,Ck]at hp
     rcases hp with hp | rfl
     ·exact h2 p hp
     ·show cur≤x.length; omega
    ·show wsum (words.push (b,cur)).toList≤cur+1
     rw[jx,wsum_snoc];show wsum words.toList+(cur - b+1)≤cur+1;omega
    ·show((words.push (b,cur)).toList.map fun p:Nat×Nat=>(strSub x p.1 p.2).cps.toList)++wl (x.cps.toList.drop (cur+1)) []=_
     rw[show wl (x.cps[cur]::x.cps.toList.drop (cur+1)) ((x.cps.toList.drop b).take (cur - b))=((x.cps.toList.drop b).take (cur - b))::wl (x.cps.toList.drop (cur+1)) [] by show(if x.cps[cur]=32 then(if _=[] then _ else _) else _)=_; rw[if_pos q,if_neg hne]]at g2;rw[jx,Cp,Gp,←g2]
     congr 1
     show [(strSub x b cur).cps.toList]++_=_;rw[strSub_toList];rfl
   ·rw[decide_eq_false q]
    refine Vp x hsp m (cur+1) _ (by omega) ⟨rfl,h2,gq g0,g1,?_⟩;rw[show wl (x.cps[cur]::x.cps.toList.drop (cur+1)) ((x.cps.toList.drop b).take (cur - b))=wl (x.cps.toList.drop (cur+1)) ((x.cps.toList.drop b).take (cur - b)++[x.cps[cur]]) by show(if x.cps[cur]=32 then _ else _)=_; rw[if_neg q]]at g2;rw[ZxR (VD g0) hcl];exact g2
open StrLaws Builtin.Str in
theorem ZwV (x:Str) (hsp:∀c∈x.cps.toList,jw c=decide (c=32)):(Txt.words x).map (fun p=>p.cps.toList)=wl x.cps.toList []:=by
 have key:(wordsOf x).map (fun p=>p.cps.toList)=wl x.cps.toList []:=by
  unfold wordsOf;rw[sw_eq];have k:=Vp x hsp x.length 0 ((none,#[],none):SwSt) (by omega) ⟨rfl,fun p hp=>by simp at hp,Bv 0,rfl⟩;rw[Nat.zero_add]at k;generalize (forIn (YaZ 0 x.length) ((none,#[],none):SwSt) (swBody x (x.length+1))).run=st at k;obtain⟨r,words,sta⟩:=st;obtain⟨h1,h2,h3⟩:=k;have h1':r=none:=h1;subst h1';have hdr:x.cps.toList.drop x.length=[]:=Ycf (by rw[Hg]; exact Bv _);unfold swEnd
  cases sta with
  | none=>
   obtain⟨g1,g2⟩:=h3;rw[hdr]at g2;rw[K9];rw[←g2];show _=_++[];rw[Es];rfl
  | some b=>
   obtain⟨g0,g1,g2⟩:=h3;have g0:b < x.length:=g0;rw[hdr]at g2
   have hne:(x.cps.toList.drop b).take (x.length - b)≠[]:=by
    intro z;have:=congrArg K7 z;rw[Gu,JN,Hg]at this;simp only [Gw]at this;have e:x.cps.size=x.length:=rfl;omega
   show((words.push (b,x.length)).toList.map _).map _=_;rw[jx,Cp,Cp,K9,←g2]
   congr 1
   show [(strSub x b x.length).cps.toList]=if _=[] then [] else _;rw[if_neg hne,strSub_toList]
 unfold Txt.words
 split
 ·rename_i hw
  have e:spaceWords x (x.length+1)=[(0,x.length)]:=V3 hw;unfold wordsOf at key;rw[e]at key;rw[←key];show [x.cps.toList]=[(strSub x 0 x.length).cps.toList];rw[sub_whole]
 ·exact key
theorem Zum:∀{a b:List Str},a.map (fun p=>p.cps.toList)=b.map (fun p=>p.cps.toList)→a=b
 | [],[],_=>rfl
 | [],_::_,h=>by cases h
 | _::_,[],h=>by cases h
 | x::a,y::b,h=>by
  have h1:x.cps.toList=y.cps.toList:=(Ya0 h).1;have h2:=Zum (Ya0 h).2
  have:x=y:=by
   cases x; cases y
   simp only [Str.mk.injEq];exact ju.mp h1
  rw[this,h2]
structure Lv where
 nots:Nat
 ands:List Fm
 eithers:List Fm
 ors:List Fm
 lack:Bool
noncomputable def Lv.new:Lv:=⟨0,[],[],[],true⟩
noncomputable def Lv.size (L:Lv):Nat:=L.nots+L.ands.length+L.eithers.length+L.ors.length
noncomputable def negs:Nat→Fm→Fm
 | 0,f=>f
 | n+1,f=>.neg (negs n f)
noncomputable def Ep (w:W3):List Fm→Fm
 | [f]=>f
 | fs=>.join w fs
theorem Z2 {w:W3} {fs:List Fm} (h:fs.length≠1):Ep w fs=.join w fs:=by
 match fs,h with
 | [],_=>rfl
 | [f],h=>exact absurd rfl h
 | _::_::_,_=>rfl
noncomputable def Lv.part (L:Lv) (f:Fm):Lv:=⟨0,L.ands++[negs L.nots f],L.eithers,L.ors,false⟩
noncomputable def Lv.join (L:Lv):W3→Lv
 | .a=>⟨L.nots,L.ands,L.eithers,L.ors,true⟩
 | .e=>⟨L.nots,[],L.eithers++[Ep .a L.ands],L.ors,true⟩
 | .o=>⟨L.nots,[],[],L.ors++[Ep .e (L.eithers++[Ep .a L.ands])],true⟩
noncomputable def Lv.whole (L:Lv):Fm:=Ep .o (L.join .o).ors
noncomputable def kw3:W3→Str
 | .a=>"and"
 | .e=>"either"
 | .o=>"or"
noncomputable def idxS (z:Str):List Str→Option Nat
 | []=>none
 | n::r=>if n=z then some 0 else(idxS z r).map (· + 1)
theorem Z3 {z:Str}:∀{ns:List Str} {j:Nat},idxS z ns=some j→ns[j]?=some z∧∀m,m < j→ns[m]?≠some z
 | [],_,h=>by cases h
 | n::r,j,h=>by
  unfold idxS at h
  by_cases e:n=z
  ·rw[if_pos e]at h
   cases h
   subst e;exact⟨rfl,fun m hm=>absurd hm (Wh _)⟩
  ·rw[if_neg e]at h
   obtain⟨k,hk,rfl⟩:=Kl.mp h;obtain⟨h1,h2⟩:=Z3 hk;refine⟨by simpa using h1,fun m hm=>?_⟩
   cases m with
   | zero=>simpa using e
   | succ m=>simpa using h2 m (by omega)
theorem ZtR {z:Str}:∀{ns:List Str},idxS z ns=none→z∉ns
 | [],_=>by simp
 | n::r,h=>by
  unfold idxS at h
  by_cases e:n=z
  ·rw[if_pos e]at h; cases h
  ·rw[if_neg e]at h
   have:=ZtR (Option.map_eq_none_iff.mp h);simp only [Bu,not_or];exact⟨fun y=>e y.symm,this⟩
noncomputable def KR (ns:List Str) (z:Str):Option Fm:=if z = "yes" then some (.sure true) else if z = "no" then some (.sure false) else(idxS z ns).map Fm.lamp
noncomputable def Th (z:Str):Option W3:=if z = "and" then some .a else if z = "either" then some .e else if z = "or" then some .o else none
theorem ZCL {z:Str} {w:W3} (h:Th z=some w):z=kw3 w:=by
 unfold Th at h
 by_cases h1:z = "and"
 ·rw[if_pos h1]at h; cases h; exact h1
 ·rw[if_neg h1]at h
  by_cases h2:z = "either"
  ·rw[if_pos h2]at h; cases h; exact h2
  ·rw[if_neg h2]at h
   by_cases h3:z = "or"
   ·rw[if_pos h3]at h; cases h; exact h3
   ·rw[if_neg h3]at h; cases h
noncomputable def Lv.word (ns:List Str) (L:Lv) (z:Str):Option Lv:=
 if L.lack=true then(if z = "not" then some ⟨L.nots+1,L.ands,L.eithers,L.ors,L.lack⟩ else(KR ns z).map L.part) else(Th z).map L.join
noncomputable def Dz (ns:List Str):List Lv→Str→Option (List Lv)
 | [],_=>none
 | L::R,z=>if z = "("∧L.lack=true then some (Lv.new::L::R) else match R with
  | []=>(L.word ns z).map ([·])
  | M::R'=>if z = ")"∧L.lack=false then some (M.part L.whole::R') else(L.word ns z).map (· :: M::R')
noncomputable def runW (ns:List Str):List Lv→List Str→Option (List Lv)
 | S,[]=>some S
 | S,z::r=>(Dz ns S z).bind fun S'=>runW ns S' r
theorem Vq (ns:List Str):∀(a b:List Str) (S:List Lv),runW ns S (a++b)=(runW ns S a).bind fun S'=>runW ns S' b
 | [],b,S=>rfl
 | z::a,b,S=>by
  show(Dz ns S z).bind _=((Dz ns S z).bind _).bind _
  cases Dz ns S z with
  | none=>rfl
  | some S'=>exact Vq ns a b S'
noncomputable def endF:Lv→Option Fm:=fun L=>if L.lack=true then none else some L.whole
noncomputable def Hk (ns:List Str) (ws:List Str):Option Fm:=(runW ns [Lv.new] ws).bind fun S=>S.getLast?.bind endF
theorem ZBU {ns:List Str} {S S':List Lv} {z:Str} {n:Nat} (h:Dz ns S z=some S') (hs:∀L∈S,L.size≤n):∀L∈S',L.size≤n+1:=by
 have hp:∀(L:Lv) (f:Fm),L.size≤n→(L.part f).size≤n+1:=fun L f hl=>by
  unfold Lv.size Lv.part at *;simp only [CZ,Gv]at *;omega
 have hw:∀(L L':Lv),L.size≤n→L.word ns z=some L'→L'.size≤n+1:=fun L L' hl e=>by
  unfold Lv.word at e
  by_cases h1:L.lack=true
  ·rw[if_pos h1]at e
   by_cases h2:z = "not"
   ·rw[if_pos h2]at e
    cases e
    unfold Lv.size at *
    dsimp only at *
    omega
   ·rw[if_neg h2]at e
    obtain⟨f,_,rfl⟩:=Kl.mp e;exact hp L f hl
  ·rw[if_neg h1]at e
   obtain⟨v,_,rfl⟩:=Kl.mp e
   cases v <;> (unfold Lv.size Lv.join at *; simp only [CZ,Gv,Gw]at *; omega)
 cases S with
 | nil=>cases h
 | cons L R=>
  have hL:=hs L Dg;have hR:∀M∈R,M.size≤n+1:=fun M hM=>Ud (hs M (CW _ hM));simp only [Dz]at h
  by_cases h1:z = "("∧L.lack=true
  ·rw[if_pos h1]at h
   cases h
   intro M hM
   rcases Bu.mp hM with rfl | hM
   ·exact De _
   rcases Bu.mp hM with rfl | hM
   ·omega
   ·exact hR M hM
  ·rw[if_neg h1]at h
   cases R with
   | nil=>
    obtain⟨L',e,rfl⟩:=Kl.mp h;intro M hM;rw[Ck.mp hM];exact hw L L' hL e
   | cons N R'=>
    dsimp only at h
    by_cases h2:z = ")"∧L.lack=false
    ·rw[if_pos h2]at h
     cases h
     intro M hM
     rcases Bu.mp hM with rfl | hM
     ·exact hp N _ (hs N (CW _ Dg))
     ·exact hR M (CW _ hM)
    ·rw[if_neg h2]at h
     obtain⟨L',e,rfl⟩:=Kl.mp h;intro M hM
     rcases Bu.mp hM with rfl | hM
     ·exact hw L _ hL e
     ·exact hR M hM
theorem ZGW {ns:List Str} {S S':List Lv} {z:Str} (h:Dz ns S z=some S'):S'≠[]:=by
 cases S with
 | nil=>cases h
 | cons L R=>
  simp only [Dz]at h
  by_cases h1:z = "("∧L.lack=true
  ·rw[if_pos h1]at h; cases h; simp
  ·rw[if_neg h1]at h
   cases R with
   | nil=>obtain⟨L',_,rfl⟩:=Kl.mp h; simp
   | cons N R'=>
    dsimp only at h
    by_cases h2:z = ")"∧L.lack=false
    ·rw[if_pos h2]at h; cases h; simp
    ·rw[if_neg h2]at h
     obtain⟨L',_,rfl⟩:=Kl.mp h; simp
section
variable {X:Cx}
noncomputable def ZBk:V→List V→Hp→VK→Prop:=fun x vs H Q=>∃(l:Ab) (ns:List Str) (z:Str),x=.ref l∧vs=[.str z]∧H l=some (.lst (ns.map V.str))∧Q (.int ((ns.count z:Nat):Int)) H
open PySem.Spec PyProof PyProof.Rows in
theorem ZAL:MtM X "list.count" ZBk:=by
 intro pins s σ H x vs v us Q I rx rv h;obtain⟨l,ns,z,rfl,rfl,hH,q⟩:=h
 cases rx
 obtain⟨u,rfl,ru⟩:=rv.one;obtain⟨tu,rfl⟩:=(show ∃t,u=Ht z t from ru);obtain⟨_,its,n,r,hl,e⟩:=I.lstM hH
 have key:∀(ys:List Str) (vs:List Ae),Vals (ys.map V.str) vs→vs.countP (isTx z)=ys.count z∧∀y∈vs,Yck y (.str z tu) (isTx z y):=by
  intro ys
  induction ys with
  | nil=>
   intro vs hv
   cases hv
   exact⟨rfl,fun y hy=>by cases hy⟩
  | cons y ys ih=>
   intro vs hv
   cases hv with
   | cons h1 h2=>
    obtain⟨ty,rfl⟩:=(show ∃t,_=Ht y t from h1);obtain⟨a,b⟩:=ih _ h2;refine⟨?_,fun v hv=>?_⟩
    ·rw[List.countP_cons,List.count_cons,a]
     rfl
    ·rcases Bu.mp hv with rfl | hv
     ·exact YaY y z ty tu
     ·exact b v hv
 obtain⟨k1,k2⟩:=key ns its r;refine JP YcA ⟨_,e,rfl⟩ F.entry_list_count (F.args_list_count_2 _ _) (MeetsSeq.list_count l its.toArray n (.str z tu) (isTx z) (fun y hy=>k2 y (by simpa using hy))) ⟨e,?_⟩;rw[show its.toArray.toList=its from rfl,k1];exact⟨.int ((ns.count z:Nat):Int),H,I.tok _,⟨_,rfl⟩,q⟩
end
theorem ZCH {H:Hp} {Q:VK} {l:Ab} {ns:List Str} {z:Str} (h:H l=some (.lst (ns.map V.str))) (q:Q (.int ((ns.count z:Nat):Int)) H):ZBk (.ref l) [.str z] H Q:=⟨l,ns,z,rfl,rfl,h,q⟩
section
variable {P:Bp} {w:Bg} {K:Ao} {mg:Str→Option Ae} {base:Aq} {t:Ad}
noncomputable def isL (c:Nat):Bool:=decide (97≤c) && decide (c≤122)
noncomputable def isM (c:Nat):Bool:=c == 40 || c == 41 || c == 44
noncomputable def al (c:Nat):Bool:=isL c || isM c || c == 32
theorem ZHZ:∀c,c < 128→(!(Hv "abcdefghijklmnopqrstuvwxyz" ⟨#[c]⟩ 0 (Cq "abcdefghijklmnopqrstuvwxyz") 1).isEmpty)=isL c:=by decide +kernel
theorem ZH0:∀c,c < 128→(!(Hv "()," ⟨#[c]⟩ 0 (Cq "(),") 1).isEmpty)=isM c:=by decide +kernel
theorem ZJW:∀c,c < 128→decide ((⟨#[c]⟩ : Str) = " ")=(c == 32):=by decide +kernel
theorem ZCk:∀c,c < 128→al c=true→jw c=decide (c=32):=by decide +kernel
theorem ZJM {c:Nat} (h:al c=true):c < 128:=by
 unfold al isL isM at h;simp only [Uh,Fi,decide_eq_true_eq,beq_iff_eq]at h;omega
noncomputable def padC (x:Str) (c:Nat):Str:=Txt.replace x ⟨#[c]⟩ ⟨#[32,c,32]⟩
noncomputable def pad (x:Str):Str:=padC (padC (padC x 40) 41) 44
theorem Ti (x:Str) (c:Nat):(padC x c).length≤x.length * 3:=by
 show(padC x c).cps.size≤x.cps.size * 3;rw[←Hg,←Hg];unfold padC;rw[Vo];exact ZEL (Bv 3) (by decide) _
theorem Zwx {x:Str} {c:Nat} (h:∀d∈x.cps.toList,al d=true) (hc:al c=true):∀d∈(padC x c).cps.toList,al d=true:=by
 intro d hd;unfold padC at hd;rw[Vo]at hd
 rcases ZI2 hd with z | z
 ·exact h d z
 ·have z:d∈[32,c,32]:=z
  simp only [Bu,Fl,or_false]at z
  rcases z with rfl | rfl | rfl
  ·rfl
  ·exact hc
  ·rfl
theorem ZEI {x:Str} (h:∀d∈x.cps.toList,al d=true):∀d∈(pad x).cps.toList,al d=true:=Zwx (Zwx (Zwx h rfl) rfl) rfl
theorem ZGh (x:Str):(pad x).length≤x.length * 27:=by
 have a:=Ti x 40;have b:=Ti (padC x 40) 41;have c:=Ti (padC (padC x 40) 41) 44;unfold pad;omega
noncomputable def padL (l:List Nat):List Nat:=l.flatMap fun c=>if isM c=true then [32,c,32] else [c]
theorem Zxy (a b:List Nat):padL (a++b)=padL a++padL b:=Ycz ..
theorem ZGi (c:Nat):rp 44 [32,44,32] (rp 41 [32,41,32] (rp 40 [32,40,32] [c]))=padL [c]:=by
 by_cases h1:c=40
 ·subst h1; rfl
 by_cases h2:c=41
 ·subst h2; rfl
 by_cases h3:c=44
 ·subst h3; rfl
 have e:isM c=false:=by unfold isM; simp[h1,h2,h3]
 rw[Tg (c:=40) (by simp; omega),Tg (c:=41) (by simp; omega),Tg (c:=44) (by simp; omega)];unfold padL;simp[e]
theorem ZA2:∀l:List Nat,rp 44 [32,44,32] (rp 41 [32,41,32] (rp 40 [32,40,32] l))=padL l
 | []=>rfl
 | c::l=>by
  have e:c::l=[c]++l:=rfl;rw[e,Vn,Vn,Vn,ZGi,ZA2 l,Zxy]
theorem ZxA (x:Str):(pad x).cps.toList=padL x.cps.toList:=by
 unfold pad padC;rw[Vo,Vo,Vo];exact ZA2 _
theorem Zxz:∀l:List Nat,(padL l).length≤3 * l.length
 | []=>Bv _
 | c::l=>by
  have ih:=Zxz l;have e:padL (c::l)=(if isM c=true then [32,c,32] else [c])++padL l:=rfl;rw[e,CZ,CT]
  by_cases h:isM c=true
  ·rw[if_pos h]; simp only [CT,Gw]; omega
  ·rw[if_neg h]; simp only [CT,Gw]; omega
theorem ZDe (x:Str):(pad x).length≤3 * x.length:=by
 have a:=Zxz x.cps.toList;rw[←ZxA]at a
 have e1:(pad x).cps.toList.length=(pad x).length:=by simp[Cq]
 have e2:x.cps.toList.length=x.length:=by simp[Cq]
 omega
theorem ZzY {σ:St} {H:Hp} {Q:VK} {c k:Nat} (e:σ[k]?=some (some (.str ⟨#[c]⟩))) (h:Q (.str ⟨#[32,c,32]⟩) H):tFs (tJc (tC (V.str " ")) (tJc (tFmt (tVar k)) (tJc (tC (V.str " ")) tJn))) σ H Q:=
 ⟨" ",rfl,Ca (Dv rfl),_,e,⟨#[c]⟩,rfl,Ca (Dv rfl),⟨#[c]⟩,rfl,Ca (Dv rfl)," ",rfl,Ca (Dv rfl),Ca (Dv rfl),h⟩
theorem ZB6 (x:Str):(Txt.words x).length≤x.length+1:=by
 have:=StrLaws.words_weight x;omega
noncomputable def okW (z:Str):Bool:=z.cps.toList.all al
noncomputable def ZGT:Sp:=fun vs H Q _=>∃z:Str,vs=[.str z]∧Asc z∧z.length≤16000∧(okW z=false→Q .non H)∧(okW z=true→∀H' p,Same H H'→H p=none→H' p=some (.lst ((Txt.words (pad z)).map V.str))→Q (.ref p) H')
theorem ZDd (T:Txt K mg t):FnS P w K mg base 1 "words" ["text"] (ZGT):=by
 refine⟨_,_,T.QV.ok Xc (fun vs H Q E h=>?_) (fun cdv A outer s H vs Q E hr h=>?_),T.Zzy,T.QV.kp,T.ZAI⟩
 ·obtain⟨z,rfl,ha,hz,q1,q2⟩:=h
  rfl
 obtain⟨z,rfl,ha,hz,q1,q2⟩:=h
 refine⟨_,(Ai (Dd Cz rfl (Et (pv 0)) (sg 1 Xc.nd)
   (Ah (Bl (PW.pt (Gf (Ay Oz (pv 1) (Hr rfl T.g_LETTERS) (by with_unfolding_all rfl)) (Gf (Ay Oz (pv 1) (Hr rfl T.g_MARKS) (by with_unfolding_all rfl)) (GR (Ay (Ja hr.units) (pv 1) (Hr rfl T.g_BLANK) (Bd _))))))
   (Ah (Av Ws))
   Bq)))
   (ZIQ (ssp 2 Xc.nd (pv 0))
   (ZBj (ZGw (i:=2) (j:=3) Cz rfl Xc.nd (Hr rfl T.g_MARKS) (Zy1 (uq Am (uq (ue (pv 3)) (uq Am ZGq)))))
   (Ah (Av (WD HB We PySem.F.type_str_split ZC4 (pv 2))))))),?_⟩
 walk_at "rd0";refine seqX (fun i σ H'=>H'=H∧(∀j c,j < i→z.cps[j]?=some c→al c=true)∧∃v,σ=[some (.str z),v,none,none]) ⟨rfl,fun j c hj=>absurd hj (Wh _),_,rfl⟩ ?_ ?_
 ·rintro i c σ H' hx ⟨rfl,hj,v,rfl⟩
  have hmem:c∈z.cps.toList:=Dm (by rw[V5]; exact hx);have c128:=ha c hmem
  have nx:al c=true→∀j d,j < i+1→z.cps[j]?=some d→al d=true:=fun h j d hj' hd=>by
   by_cases e:j=i
   ·subst e; rw[hx]at hd; cases hd; exact h
   ·exact hj j d (by omega) hd
  walk_at "";refine .inl ⟨_,_,rfl,rfl,?_⟩;rw[ZHZ c c128]
  dsimp only
  walk_at ""
  cases h1:isL c with
  | true=>
   refine Ba rfl ?_;refine Ba rfl ?_;walk_at "";exact⟨rfl,nx (by unfold al; rw[h1]; rfl),_,rfl⟩
  | false=>
   refine Cg rfl ?_;walk_at "";refine .inl ⟨_,_,rfl,rfl,?_⟩;rw[ZH0 c c128]
   dsimp only
   walk_at ""
   cases h2:isM c with
   | true=>
    refine Ba rfl ?_;refine Ba rfl ?_;walk_at "";exact⟨rfl,nx (by unfold al; rw[h2,Wl]; rfl),_,rfl⟩
   | false=>
    refine Cg rfl ?_;walk_at "";rw[ZJW c c128]
    cases h3:c == 32 with
    | true=>
     refine Ba rfl ?_;walk_at "";exact⟨rfl,nx (by unfold al; rw[h3,Wl]),_,rfl⟩
    | false=>
     refine Cg rfl ?_;walk_at "";refine q1 ?_;unfold okW;rw[Ycu];refine⟨c,hmem,?_⟩;unfold al;rw[h1,h2,h3];exact Dt
 ·rintro σ H' ⟨rfl,hj,v,rfl⟩
  have hall:∀d∈z.cps.toList,al d=true:=fun c hc=>by
   obtain⟨j,hj',e⟩:=Yca.mp hc
   have hj2:j < z.cps.size:=by simpa using hj'
   exact hj j c hj2 (by rw[←V5,Dr hj',e])
  have hok:okW z=true:=GK.mpr hall;have n1:=Ti z 40;have n2:=Ti (padC z 40) 41;have n3:=Ti (padC (padC z 40) 41) 44;walk_at "";refine⟨_,rfl,by decide +kernel,?_⟩;show tRep 2 3 _ [40,41,44] _ _ _;refine ur z rfl (ZzY rfl ⟨_,rfl,rfl,?_,?_⟩)
  ·show z.length+(z.length+1) * 3≤_; omega
  refine ur (padC z 40) rfl (ZzY rfl ⟨_,rfl,rfl,?_,?_⟩)
  ·show(padC z 40).length+((padC z 40).length+1) * 3≤_; omega
  refine ur (padC (padC z 40) 41) rfl (ZzY rfl ⟨_,rfl,rfl,?_,?_⟩)
  ·show(padC (padC z 40) 41).length+((padC (padC z 40) 41).length+1) * 3≤_; omega
  refine ZHV ?_;walk_at "";have n4:=ZB6 (pad z);have n5:=ZGh z;have pl3:=ZDe z;refine⟨tyS,pad z,rfl,by omega,.inl ⟨rfl,BR (by rw[Ax]; omega) fun p H1 s1 n1 e1=>?_⟩⟩;exact q2 hok H1 p s1 n1 e1
end
end LW
open PySem L2
namespace LW
open PySem L2 EM
open List (map_drop map_take take_nil)
def FmE (t:Ad) (H:Hp) (p:Ab) (f:Fm):Prop:=∃n,FmAt t H n p f
def FmsE (t:Ad) (H:Hp) (l:Ab) (fs:List Fm):Prop:=∃ps,H l=some (.lst (ps.map V.ref))∧Bs (FmE t H) ps fs
def ExtL (t:Ad) (H H':Hp):Prop:=∀x u,H x=some u→(∀xs,u≠.lst xs)→(∀dx fs,u≠.ins t.Cr dx fs)→H' x=some u
section
variable {K:Ao} {σ:St} {H:Hp}
theorem Hf {p C dx:Ab} {fs:List (Str×V)} {f:Str} {y:V} {R:Hp→Prop} (h:H p=some (.ins C dx fs)) (c:Cls K C) (n:Dn K C f) (z:fs.length < 1000) (k:∀H',But p H H'→H' p=some (.ins C dx (putF f y fs))→R H') :
  ∃a C dx fs,(V.ref p)=.ref a∧H a=some (.ins C dx fs)∧Cls K C∧Dn K C f∧fs.length < 1000∧R (upd H a (.ins C dx (putF f y fs))):=⟨p,C,dx,fs,rfl,h,c,n,z,k _ Ly Cm⟩
end
def Off2 (p l:Ab) (H H':Hp):Prop:=∀b u,b≠p→b≠l→H b=some u→H' b=some u
section
variable {P:Bp} {w:Bg} {K:Ao} {mg:Str→Option Ae} {base:Aq} {t:Ad} {H H' H'':Hp}
theorem ExtL.trans (a:ExtL t H H') (b:ExtL t H' H''):ExtL t H H'':=fun x u e h1 h2=>b x u (a x u e h1 h2) h1 h2
theorem ExtL.of (s:Same H H'):ExtL t H H':=fun x u e _ _=>s x u e
theorem ExtL.lst {l:Ab} {xs:List V} (b:But l H H') (e:H l=some (.lst xs)):ExtL t H H':=fun x u z h1 _=>b x u (fun y=>by rw[y,e]at z; cases z; exact h1 _ rfl) z
theorem ExtL.lev {p dx:Ab} {fs:List (Str×V)} (b:But p H H') (e:H p=some (.ins t.Cr dx fs)):ExtL t H H':=fun x u z _ h2=>b x u (fun y=>by rw[y,e]at z; cases z; exact h2 _ _ rfl) z
theorem ZHp (T:Txt K mg t) (v:W3):cw t v≠t.Cr:=by
 cases v
 ·exact T.Zp1
 ·exact T.ZkQ
 ·exact T.Zru
theorem FmAt.extL (T:Txt K mg t) (s:ExtL t H H'):∀{n:Nat} {p:Ab} {f:Fm},FmAt t H n p f→FmAt t H' n p f
 | 0,_,_,h=>h
 | n+1,p,f,h=>by
  cases f with
  | lamp k=>obtain⟨dx,e⟩:=h; exact⟨dx,s _ _ e (fun _ z=>nomatch z) fun _ _ z=>T.ZnY (HO.ins.inj z).1⟩
  | sure b=>obtain⟨dx,e⟩:=h; exact⟨dx,s _ _ e (fun _ z=>nomatch z) fun _ _ z=>T.ZnZ (HO.ins.inj z).1⟩
  | neg g=>obtain⟨dx,q,e,h⟩:=h; exact⟨dx,q,s _ _ e (fun _ z=>nomatch z) (fun _ _ z=>T.Zp6 (HO.ins.inj z).1),FmAt.extL T s h⟩
  | join w gs=>obtain⟨dx,tp,ps,e,e2,h⟩:=h; exact⟨dx,tp,ps,s _ _ e (fun _ z=>nomatch z) (fun _ _ z=>ZHp T w (HO.ins.inj z).1),s _ _ e2 (fun _ z=>nomatch z) (fun _ _ z=>nomatch z),BV (fun a b h=>FmAt.extL T s h) h⟩
theorem FmE.extL (T:Txt K mg t) (s:ExtL t H H') {p:Ab} {f:Fm} (h:FmE t H p f):FmE t H' p f:=let ⟨n,h⟩:=h; ⟨n,h.extL T s⟩
theorem FmE.same (s:Same H H') {p:Ab} {f:Fm} (h:FmE t H p f):FmE t H' p f:=let ⟨n,h⟩:=h; ⟨n,h.mono (Ext.of s)⟩
theorem FmE.neg {q p dx:Ab} {f:Fm} (e:H q=some (.ins t.C_Not dx [(("part" : Str),.ref p)])) (h:FmE t H p f):FmE t H q (.neg f):=let ⟨n,h⟩:=h; ⟨n+1,dx,p,e,h⟩
theorem ZHv:∀{ps:List Ab} {fs:List Fm},Bs (FmE t H) ps fs→∃n,Bs (FmAt t H n) ps fs:=by
 intro _ _ h;induction h with
 | nil=>exact⟨0,.nil⟩
 | cons h _ ih=>
  obtain⟨n,h⟩:=h;obtain⟨m,r⟩:=ih;exact⟨max n m,.cons (h.le (Nat.le_max_left _ _)) (BV (fun _ _ z=>z.le (Nat.le_max_right _ _)) r)⟩
theorem FmE.join {x dx tp:Ab} {ps:List Ab} {fs:List Fm} {v:W3} (e:H x=some (.ins (cw t v) dx [(("parts" : Str),.ref tp)])) (e2:H tp=some (.tup (ps.map V.ref))) (h:Bs (FmE t H) ps fs):FmE t H x (.join v fs):=
 let ⟨n,h⟩:=ZHv h; ⟨n+1,dx,tp,ps,e,e2,h⟩
theorem FmsE.snoc {l:Ab} {ps:List Ab} {fs:List Fm} {q:Ab} {f:Fm} (e:H l=some (.lst (ps.map V.ref++[.ref q]))) (h:Bs (FmE t H) ps fs) (hq:FmE t H q f):FmsE t H l (fs++[f]):=
 ⟨ps++[q],by rw[Cp]; exact e,Ie h (.cons hq .nil)⟩
noncomputable def Gj (n:Nat) (a e o:Ab) (b:Bool):List (Str×V):=[(("nots" : Str),.int (n:Int)),(("ands" : Str),.ref a),(("eithers" : Str),.ref e),(("ors" : Str),.ref o),(("lacking" : Str),.bl b)]
structure LvAt (t:Ad) (H:Hp) (p dx a e o:Ab) (L:Lv):Prop where
 ob:H p=some (.ins t.Cr dx (Gj L.nots a e o L.lack))
 la:FmsE t H a L.ands
 le:FmsE t H e L.eithers
 lo:FmsE t H o L.ors
 ae:a≠e
 ao:a≠o
 eo:e≠o
theorem FmsE.keep (T:Txt K mg t) (s:ExtL t H H') {l:Ab} {fs:List Fm} (h:FmsE t H l fs) (k:∀xs,H l=some (.lst xs)→H' l=some (.lst xs)):FmsE t H' l fs:=by
 obtain⟨ps,e,p⟩:=h;exact⟨ps,k _ e,BV (fun _ _ z=>FmE.extL T s z) p⟩
theorem LvAt.keep (T:Txt K mg t) {p dx a e o:Ab} {L:Lv} (V:LvAt t H p dx a e o L) (s:ExtL t H H') (k:∀x u,x=p∨x=a∨x=e∨x=o→H x=some u→H' x=some u):LvAt t H' p dx a e o L:=
 ⟨k _ _ (.inl rfl) V.ob,V.la.keep T s fun _ z=>k _ _ (.inr (.inl rfl)) z,V.le.keep T s fun _ z=>k _ _ (.inr (.inr (.inl rfl))) z,V.lo.keep T s fun _ z=>k _ _ (.inr (.inr (.inr rfl))) z,V.ae,V.ao,V.eo⟩
theorem LvAt.same (T:Txt K mg t) {p dx a e o:Ab} {L:Lv} (V:LvAt t H p dx a e o L) (s:Same H H'):LvAt t H' p dx a e o L:=V.keep T (ExtL.of s) fun x u _ z=>s x u z
noncomputable def Z6 (t:Ad) (v:W3):Sp:=fun vs H Q _=>∃(l:Ab) (fs:List Fm),vs=[.ref l]∧FmsE t H l fs∧∀q H',Same H H'→FmE t H' q (Ep v fs)→Q (.ref q) H'
theorem ZAT (T:Txt K mg t):FnS P w K mg base 3 "and_of" ["parts"] ((Z6 t .a)):=by
 refine⟨_,_,T.QW.ok ZBv (fun vs H Q E h=>?_) (fun cdv A outer s H vs Q E hr h=>?_),T.ZwZ,T.QW.kp,T.Zxq⟩
 ·obtain⟨l,fs,rfl,hF,q⟩:=h
  rfl
 obtain⟨l,fs,rfl,hF,q⟩:=h;obtain⟨ps,hl,hp⟩:=hF;have M_And:=ZIt (P:=P) (w:=w) (base:=base) T;have hz:=Dj hp;refine⟨_,(Ah (Av (Lg (Ay (BL hr.units) (Dh Ed rfl T.B.len Ec (Ac (pv 0) Af)) Ag (Bd _)) (Bm Bo (pv 0) Ag (fun _ _=>rfl)) (IK M_And hr (Ac (pv 0) Af))))),?_⟩;walk_at "rd0";rw[Ax,hz];refine Di (fun h=>?_) (fun h=>?_)
 ·match ps,fs,hp,hz with
  | [p0],[f0],.cons h0 .nil,_=>
   walk_at "";refine By (j:=0) (v:=.ref p0) hl rfl ?_;exact q p0 H (Same.refl _) h0
  | [],[],_,_=>exact absurd h (by decide)
  | _::_::_,_::_::_,_,_=>simp only [CT]at h; omega
 ·walk_at ""
  refine ZvW hl fun x dx tp H1 s1 n1 e1 e2=>?_;refine q x H1 s1 ?_;rw[Z2 (by omega)];exact FmE.join (v:=.a) e1 e2 (BV (fun _ _ z=>FmE.same s1 z) hp)
theorem ZuE (T:Txt K mg t):FnS P w K mg base 3 "either_of" ["parts"] ((Z6 t .e)):=by
 refine⟨_,_,T.QX.ok ZuU (fun vs H Q E h=>?_) (fun cdv A outer s H vs Q E hr h=>?_),T.ZoH,T.QX.kp,T.Zpp⟩
 ·obtain⟨l,fs,rfl,hF,q⟩:=h
  rfl
 obtain⟨l,fs,rfl,hF,q⟩:=h;obtain⟨ps,hl,hp⟩:=hF;have ZCd:=ZAS (P:=P) (w:=w) (base:=base) T;have hz:=Dj hp;refine⟨_,(Ah (Av (Lg (Ay (BL hr.units) (Dh Ed rfl T.B.len Ec (Ac (pv 0) Af)) Ag (Bd _)) (Bm Bo (pv 0) Ag (fun _ _=>rfl)) (IK ZCd hr (Ac (pv 0) Af))))),?_⟩;walk_at "rd0";rw[Ax,hz];refine Di (fun h=>?_) (fun h=>?_)
 ·match ps,fs,hp,hz with
  | [p0],[f0],.cons h0 .nil,_=>
   walk_at "";refine By (j:=0) (v:=.ref p0) hl rfl ?_;exact q p0 H (Same.refl _) h0
  | [],[],_,_=>exact absurd h (by decide)
  | _::_::_,_::_::_,_,_=>simp only [CT]at h; omega
 ·walk_at ""
  refine ZvW hl fun x dx tp H1 s1 n1 e1 e2=>?_;refine q x H1 s1 ?_;rw[Z2 (by omega)];exact FmE.join (v:=.e) e1 e2 (BV (fun _ _ z=>FmE.same s1 z) hp)
theorem ZDc (T:Txt K mg t):FnS P w K mg base 3 "or_of" ["parts"] ((Z6 t .o)):=by
 refine⟨_,_,T.QZ.ok ZDt (fun vs H Q E h=>?_) (fun cdv A outer s H vs Q E hr h=>?_),T.Zzx,T.QZ.kp,T.ZAH⟩
 ·obtain⟨l,fs,rfl,hF,q⟩:=h
  rfl
 obtain⟨l,fs,rfl,hF,q⟩:=h;obtain⟨ps,hl,hp⟩:=hF;have M_Or:=ZJ2 (P:=P) (w:=w) (base:=base) T;have hz:=Dj hp;refine⟨_,(Ah (Av (Lg (Ay (BL hr.units) (Dh Ed rfl T.B.len Ec (Ac (pv 0) Af)) Ag (Bd _)) (Bm Bo (pv 0) Ag (fun _ _=>rfl)) (IK M_Or hr (Ac (pv 0) Af))))),?_⟩;walk_at "rd0";rw[Ax,hz];refine Di (fun h=>?_) (fun h=>?_)
 ·cases hp with
  | nil=>exact absurd h (by decide)
  | @cons p0 _ _ _ h0 t=>cases t with
   | nil=>
    walk_at "";refine By (j:=0) (v:=.ref p0) hl rfl ?_;exact q p0 H (Same.refl _) h0
   | cons=>simp only [CT]at h; omega
 ·walk_at ""
  refine ZvW hl fun x dx tp H1 s1 n1 e1 e2=>?_;refine q x H1 s1 ?_;rw[Z2 (by omega)];exact FmE.join (v:=.o) e1 e2 (BV (fun _ _ z=>FmE.same s1 z) hp)
theorem KY {p:Ab} {x:Str} {ns:List Str} {Q:VK} (h:SqT K H p (ns.map V.str)) (k:Q (.bl (decide (x∈ns))) H):rInG K (.str x) (.ref p) H Q:=by
 refine .inr ⟨p,ns.map V.str,rfl,.inr h,rfl,?_,?_⟩
 ·rw[GK]
  intro v hv;obtain⟨z,_,rfl⟩:=Fx.mp hv;rfl
 ·rw[Vm]
  exact k
def JB (z:Str):Prop:=(reprText z).length≤900000
noncomputable def ZDC (t:Ad):Sp:=fun vs H Q E=>∃(z:Str) (nl:Ab) (ns:List Str),vs=[.str z,.ref nl]∧H nl=some (.tup (ns.map V.str))∧ns.length≤1000∧JB z∧(∀f,KR ns z=some f→∀q H',Same H H'→FmE t H' q f→Q (.ref q) H')∧(KR ns z=none→∀H',Same H H'→E (.ref t.Hd) none H')
theorem ZAV (T:Txt K mg t):FnS1 P w K mg base 3 "single" ["word","names"] ((ZDC t)):=by
 refine⟨_,_,T.Q0.ok1 ZBw (fun vs H Q E h=>?_) (fun cdv A outer s H vs Q E hr h=>?_),T.Zw1,T.Q0.kp,T.Zxs⟩
 ·obtain⟨z,nl,ns,rfl,hn,h1000,hpl,q1,q2⟩:=h
  rfl
 obtain⟨z,nl,ns,rfl,hn,h1000,hpl,q1,q2⟩:=h;have ZDQ:=ZF7 (P:=P) (w:=w) (base:=base) T;have ZG7:=ZF5 (P:=P) (w:=w) (base:=base) T;unfold KR at q1 q2
 refine⟨_,(Ai (PS.nox (Bl (Ay (BL hr.units) (pv 0) Am (Bd _))
   (Ah (Av (IK ZDQ hr (Ac Fo Af))))
   Bq))
   (Ai (PS.nox (Bl (Ay (BL hr.units) (pv 0) Am (Bd _))
   (Ah (Av (IK ZDQ hr (Ac Fo Af))))
   Bq))
   (Ai (PS.nox (Bl (Ay Jt (pv 0) (pv 1) (by with_unfolding_all rfl))
   (Ah (Av (IK ZG7 hr (Ac (uw jk Ya6 uv (pv 1) (Ac (pv 0) Af)) Af))))
   Bq))
   (Ah (ul rfl uh T.ZS.own rfl T.ZR (PA.nox (Ac (W4 (J0 (ZA9 (pv 0)) (J0 Am W2))) Af))))))),?_⟩
 walk_at "rd0";refine Di (fun h1=>?_) (fun h1=>?_)
 ·rw[if_pos h1]at q1
  walk_at "";refine WW fun x dx H1 s1 n1 e1=>?_;exact q1 _ rfl x H1 s1 ⟨1,dx,e1⟩
 rw[if_neg h1]at q1 q2;walk_at "";refine Di (fun h2=>?_) (fun h2=>?_)
 ·rw[if_pos h2]at q1
  walk_at "";refine WW fun x dx H1 s1 n1 e1=>?_;exact q1 _ rfl x H1 s1 ⟨1,dx,e1⟩
 rw[if_neg h2]at q1 q2;walk_at "";refine Z1 (.inr hn) ?_;walk_at ""
 cases hi:idxS z ns with
 | some j=>
  rw[hi]at q1;obtain⟨hj,hno⟩:=Z3 hi;have hjl:=(Ej.mp hj).1;refine Cg (decide_eq_true (Dm hj)) ?_;walk_at "";refine⟨⟨_,_,rfl,hn⟩,?_⟩;walk_at "";refine ux hn hj hno ?_;walk_at "";refine WW fun x dx H1 s1 n1 e1=>?_;exact q1 _ rfl x H1 s1 ⟨1,dx,e1⟩
 | none=>
  rw[hi]at q2;refine Ba (decide_eq_false (ZtR hi)) ?_;walk_at ""
  (try dsimp only)
  refine um ?_;walk_at "";have hpl':(reprText z).length≤900000:=hpl;have e0:BK.length=0:=rfl;have e:=Ce BK (reprText z);have e1:=Ce (BK++reprText z) " has no place there";have e2:Cq " has no place there" = 19:=rfl;refine⟨_,rfl,Ca (by omega),_,rfl,Ca (by omega),?_⟩;walk_at "";refine⟨_,rfl,Ca (by omega),Ca (by omega),?_⟩;walk_at "";exact⟨Dv rfl,q2 rfl H (Same.refl _)⟩
noncomputable def ZBH (t:Ad):Sp:=fun vs H Q _=>∃(p dx:Ab),vs=[.ref p]∧H p=some (.ins t.Cr dx [])∧∀a e o H',But p H H'→H a=none→H e=none→H o=none→LvAt t H' p dx a e o Lv.new→Q .non H'
theorem ZC8 (T:Txt K mg t):MkS P w K mg base 2 "Level" t.Cr ["self"] (ZBH t):=by
 refine⟨T.ZAF,_,_,T.ZAm,T.Vh.ok ZsH (fun vs H Q E h=>?_) (fun cdv A outer s H vs Q E hr h=>?_),T.Znn⟩
 ·obtain⟨p,dx,rfl,_⟩:=h
  rfl
 obtain⟨p,dx,rfl,hp0,q⟩:=h
 refine⟨_,(Ai (DY (pv 0) Ag rfl)
   (Ai (DY (pv 0) (Br Af) rfl)
   (Ai (DY (pv 0) (Br Af) rfl)
   (Ai (DY (pv 0) (Br Af) rfl)
   (Ah (DY (pv 0) Fo rfl)))))),?_⟩
 walk_at "rd0";refine Hf hp0 T.DR T.KN (by decide) fun H1 b1 e1=>?_;walk_at "";refine BR (by simp) fun a H2 s2 n2 e2=>?_;walk_at "";refine Hf (s2 _ _ e1) T.DR T.NB (Dv rfl) fun H3 b3 e3=>?_;walk_at "";refine BR (by simp) fun e H4 s4 n4 e4=>?_;walk_at "";refine Hf (s4 _ _ e3) T.DR T.NK (Dv rfl) fun H5 b5 e5=>?_;walk_at "";refine BR (by simp) fun o H6 s6 n6 e6=>?_;walk_at "";refine Hf (s6 _ _ e5) T.DR T.S8 (Dv rfl) fun H7 b7 e7=>?_;walk_at "";refine Hf e7 T.DR T.HY (Dv rfl) fun H8 b8 e8=>?_;have pa:a≠p:=(Bw e1 n2).symm;have pe:e≠p:=(Bw e3 n4).symm;have po:o≠p:=(Bw e5 n6).symm;have a3:=b3 _ _ pa e2;have a5:=b5 _ _ pa (s4 _ _ a3);have ee5:=b5 _ _ pe e4;have k13:∀x u,x≠p→H x=some u→H3 x=some u:=fun x u hx z=>b3 _ _ hx (s2 _ _ (b1 _ _ hx z));have k15:∀x u,x≠p→H x=some u→H5 x=some u:=fun x u hx z=>b5 _ _ hx (s4 _ _ (k13 _ _ hx z));refine q a e o H8 (fun x u hx z=>b8 _ _ hx (b7 _ _ hx (s6 _ _ (k15 _ _ hx z)))) ?_ ?_ ?_ ⟨e8,⟨[],b8 _ _ pa (b7 _ _ pa (s6 _ _ a5)),.nil⟩,⟨[],b8 _ _ pe (b7 _ _ pe (s6 _ _ ee5)),.nil⟩,⟨[],b8 _ _ po (b7 _ _ po e6),.nil⟩,Bw a3 n4,Bw a5 n6,Bw ee5 n6⟩
 ·cases z:H a with
  | none=>rfl
  | some u=>rw[b1 _ _ pa z]at n2; cases n2
 ·cases z:H e with
  | none=>rfl
  | some u=>rw[k13 _ _ pe z]at n4; cases n4
 ·cases z:H o with
  | none=>rfl
  | some u=>rw[k15 _ _ po z]at n6; cases n6
theorem ZAc {Q:VK} (h:∀(p dx a e o:Ab) (H':Hp),Same H H'→H p=none→H a=none→H e=none→H o=none→LvAt t H' p dx a e o Lv.new→Q (.ref p) H'):MkG t.Cr (ZBH t) [] H Q:=by
 intro x dx hx hdx ne;have s2:=Lx hx hdx (.ins t.Cr dx []) (.own x);refine⟨x,dx,rfl,Cm,fun a e o H' b ha he ho V=>⟨rfl,?_⟩⟩;exact h x dx a e o H' (fun y u z=>b y u (Bw z hx) (s2 y u z)) hx (s2.free ha) (s2.free he) (s2.free ho) V
theorem ZxH (n m:Nat) (a e o:Ab) (b:Bool):putF "nots" (.int (m:Int)) (Gj n a e o b)=Gj m a e o b:=rfl
theorem ZDo (n:Nat) (a a' e o:Ab) (b:Bool):putF "ands" (.ref a') (Gj n a e o b)=Gj n a' e o b:=rfl
theorem ZwB (n:Nat) (a e e' o:Ab) (b:Bool):putF "eithers" (.ref e') (Gj n a e o b)=Gj n a e' o b:=rfl
theorem ZpH (n:Nat) (a e o:Ab) (b b':Bool):putF "lacking" (.bl b') (Gj n a e o b)=Gj n a e o b':=rfl
theorem Zxm (n:Nat) (a e o:Ab) (b:Bool):(Gj n a e o b).lookup ("nots" : Str)=some (.int (n:Int)):=rfl
theorem Zxl (n:Nat) (a e o:Ab) (b:Bool):(Gj n a e o b).lookup ("ands" : Str)=some (.ref a):=rfl
theorem Zph (n:Nat) (a e o:Ab) (b:Bool):(Gj n a e o b).lookup ("eithers" : Str)=some (.ref e):=rfl
theorem ZAB (n:Nat) (a e o:Ab) (b:Bool):(Gj n a e o b).lookup ("ors" : Str)=some (.ref o):=rfl
theorem Tj (n:Nat) (a e o:Ab) (b:Bool):(Gj n a e o b).lookup ("lacking" : Str)=some (.bl b):=rfl
theorem Zl9 (n:Nat) (a e o:Ab) (b:Bool):(Gj n a e o b).lookup ("take_part" : Str)=none:=rfl
theorem Zl8 (n:Nat) (a e o:Ab) (b:Bool):(Gj n a e o b).lookup ("take_join" : Str)=none:=rfl
theorem Zsb (n:Nat) (a e o:Ab) (b:Bool):(Gj n a e o b).lookup ("take_word" : Str)=none:=rfl
theorem Zuo (n:Nat) (a e o:Ab) (b:Bool):(Gj n a e o b).lookup ("whole" : Str)=none:=rfl
def isLv (t:Ad) (C:Ab):Prop:=C=t.Cr
noncomputable def ZJn (t:Ad):Sp:=fun vs H Q _=>∃(p dx a e o q:Ab) (L:Lv) (f:Fm),vs=[.ref p,.ref q]∧LvAt t H p dx a e o L∧FmE t H q f∧L.size < 900000∧∀H',Off2 p a H H'→LvAt t H' p dx a e o (L.part f)→Q .non H'
theorem Zku (T:Txt K mg t):∀C,isLv t C→MeS P w K mg base 3 C "take_part" ["self","part"] (spAt (ZJn t) C):=by
 rintro C rfl;refine⟨T.DR,_,_,T.SJ.ok ZeI (fun vs H Q E h=>?_) (fun cdv A outer s H vs Q E hr h=>?_),T.ZhI,T.ZhS⟩
 ·obtain⟨⟨p,dx,a,e,o,q,L,f,rfl,_⟩,_⟩:=h
  rfl
 obtain⟨⟨p,dx,a,e,o,q,L,f,rfl,Y,hf,hz,k⟩,_⟩:=h;have M_Not:=ZIu (P:=P) (w:=w) (base:=base) T
 have hz':L.nots < 900000∧L.ands.length < 900000:=by unfold Lv.size at hz; omega
 refine⟨_,(Ai (Dd Cz rfl (Hn rfl T.B.range (Ac (Cj (pv 0) rfl) Af)) (sg 2 ZeI.nd)
   (Ah (ss 1 ZeI.nd (IK M_Not hr (Ac (pv 1) Af)))))
   (Ai (DY (pv 0) Ag rfl)
   (Ai (Dc (CG Ds Eg Em Ea (Cj (pv 0) rfl) (Ac (pv 1) Af)))
   (Ah (DY (pv 0) Fo rfl))))),?_⟩
 walk_at "rd0";refine⟨p,_,_,_,_,rfl,Y.ob,T.DR,T.KN,Zxm _ _ _ _ _,?_⟩;walk_at "";refine⟨_,rfl,by omega,by omega,?_⟩;rw[JM];refine Kw (n:=L.nots) (fun i σ H'=>Same H H'∧∃q' v2,FmE t H' q' (negs i f)∧σ=[some (.ref p),some (.ref q'),v2]) ⟨Same.refl _,q,_,hf,rfl⟩ ?_ ?_
 ·rintro i σ H1 hi ⟨s1,q',v2,hq,rfl⟩
  walk_at "";refine WW fun x dx' H2 s2 n2 e2=>?_;walk_at "";exact⟨s1.trans s2,x,_,FmE.neg e2 (hq.same s2),rfl⟩
 rintro σ H1 ⟨s1,q',v2,hq,rfl⟩;have V1:=Y.same T s1;obtain⟨ps,ea,pa⟩:=V1.la;have npa:a≠p:=Ci ea V1.ob (by intro z; cases z);have zl:=Dj pa;walk_at "";refine Hf V1.ob T.DR T.KN (Dv rfl) fun H2 b2 e2=>?_;rw[show V.int 0=V.int ((0:Nat):Int) from rfl,ZxH]at e2
 (try dsimp only)
 have ea2:=b2 _ _ npa ea;walk_at "";refine⟨p,_,_,_,_,rfl,e2,T.DR,T.NB,Zxl _ _ _ _ _,?_⟩;walk_at "";refine⟨tyL ea2,?_⟩;walk_at "";refine Eu ea2 (by rw[Ax]; omega) fun H3 b3 e3=>?_;have e23:=b3 _ _ npa.symm e2;walk_at "";refine Hf e23 T.DR T.HY (Dv rfl) fun H4 b4 e4=>?_;rw[ZpH]at e4;have x4:ExtL t H1 H4:=(ExtL.lev b2 V1.ob).trans ((ExtL.lst b3 ea2).trans (ExtL.lev b4 e23));have kp:∀x u,x≠p→x≠a→H1 x=some u→H4 x=some u:=fun x u h1 h2 z=>b4 _ _ h1 (b3 _ _ h2 (b2 _ _ h1 z));refine k H4 (fun x u h1 h2 z=>kp _ _ h1 h2 (s1 _ _ z)) ⟨e4,FmsE.snoc (b4 _ _ npa e3) (BV (fun _ _ z=>FmE.extL T x4 z) pa) (hq.extL T x4),V1.le.keep T x4 fun xs z=>kp _ _ (Ci z V1.ob (by intro y; cases y)) Y.ae.symm z,V1.lo.keep T x4 fun xs z=>kp _ _ (Ci z V1.ob (by intro y; cases y)) Y.ao.symm z,Y.ae,Y.ao,Y.eo⟩
def Off4 (p a e o:Ab) (H H':Hp):Prop:=∀b u,b≠p→b≠a→b≠e→b≠o→H b=some u→H' b=some u
theorem ExtL.off4 {p dx a e o:Ab} {L:Lv} (Y:LvAt t H p dx a e o L) (k:Off4 p a e o H H'):ExtL t H H':=fun x u z h1 h2=>by
 obtain⟨pa,ea,_⟩:=Y.la;obtain⟨pe,ee,_⟩:=Y.le;obtain⟨po,eo,_⟩:=Y.lo;exact k x u (fun y=>by rw[y,Y.ob]at z; cases z; exact h2 _ _ rfl) (fun y=>by rw[y,ea]at z; cases z; exact h1 _ rfl) (fun y=>by rw[y,ee]at z; cases z; exact h1 _ rfl) (fun y=>by rw[y,eo]at z; cases z; exact h1 _ rfl) z
noncomputable def ZGO (t:Ad):Sp:=fun vs H Q _=>∃(p dx a e o:Ab) (L:Lv) (v:W3),vs=[.ref p,.str (kw3 v)]∧LvAt t H p dx a e o L∧L.size < 900000∧∀a' e' H',(a'=a∨H a'=none)→(e'=e∨H e'=none)→Off4 p a e o H H'→LvAt t H' p dx a' e' o (L.join v)→Q .non H'
theorem ZAh (T:Txt K mg t) {p dx a e o:Ab} {M:Lv} {R:Hp→Prop} (Y:LvAt t H p dx a e o M) (kk:∀H'',But p H H''→LvAt t H'' p dx a e o ⟨M.nots,M.ands,M.eithers,M.ors,true⟩ →R H''):∃a C dx fs,(V.ref p)=.ref a∧H a=some (.ins C dx fs)∧Cls K C∧Dn K C "lacking"∧fs.length < 1000∧R (upd H a (.ins C dx (putF "lacking" (.bl true) fs))):=by
 refine Hf Y.ob T.DR T.HY (Dv rfl) fun H'' b e1=>?_;rw[ZpH]at e1;have x:=ExtL.lev b Y.ob;exact kk H'' b ⟨e1,Y.la.keep T x fun _ z=>b _ _ (Ci z Y.ob (by intro y; cases y)) z,Y.le.keep T x fun _ z=>b _ _ (Ci z Y.ob (by intro y; cases y)) z,Y.lo.keep T x fun _ z=>b _ _ (Ci z Y.ob (by intro y; cases y)) z,Y.ae,Y.ao,Y.eo⟩
theorem Zkt (T:Txt K mg t):∀C,isLv t C→MeS P w K mg base 5 C "take_join" ["self","word"] (spAt (ZGO t) C):=by
 rintro C rfl;refine⟨T.DR,_,_,T.SM.ok Zmm (fun vs H Q E h=>?_) (fun cdv A outer s H vs Q E hr h=>?_),T.ZhH,T.ZhR⟩
 ·obtain⟨⟨p,dx,a,e,o,L,v,rfl,_⟩,_⟩:=h
  rfl
 obtain⟨⟨p,dx,a,e,o,L,v,rfl,Y,hz,k⟩,_⟩:=h;have ZB9:=ZAT (P:=P) (w:=w) (base:=base) T;have Zvi:=ZuE (P:=P) (w:=w) (base:=base) T
 have hz':L.ands.length < 900000∧L.eithers.length < 900000∧L.ors.length < 900000:=by unfold Lv.size at hz; omega
 refine⟨_,(Ai (Bl (Ay (Ja hr.units) (pv 1) Am (Bd _))
   (Ai (Dc (CG Ds Eg Em Ea (Cj (pv 0) rfl) (Ac (Bj ZB9 hr (Ac (Cj (pv 0) rfl) Af)) Af)))
   (Ah (DY (pv 0) (Br Af) rfl)))
   Bq)
   (Ai (Bl (Ay (BL hr.units) (pv 1) Am (Bd _))
   (Ai (Dc (CG Ds Eg Em Ea (Cj (pv 0) rfl) (Ac (Bj Zvi hr (Ac (Cj (pv 0) rfl) Af)) Af)))
   (Ah (DY (pv 0) (Br Af) rfl)))
   Bq)
   (Ah (DY (pv 0) Fo rfl)))),?_⟩
 walk_at "rs";refine GF (fun σ H'=>(v=.a→H=H')∧(v≠.a→∃a',H a'=none∧Off2 p e H H'∧LvAt t H' p dx a' e o ⟨L.nots,[],L.eithers++[Ep .a L.ands],L.ors,L.lack⟩)∧σ=[some (.ref p),some (.str (kw3 v))]) ?_ ?_
 rotate_left
 ·intro Kn hK
  have eithers:(v≠.a)→tSeq (lg (tBM K "list" WF (tFld K (tVar 0) "eithers") (HH (tFn (Z6 t .a) (HH (tFld K (tVar 0) "ands") tNil)) tNil))) (sFld K (tVar 0) (tLst tNil) "ands") { nx:=Kn,rt:=Q } [some (.ref p),some (.str (kw3 v))] H:=fun hv=>by
   obtain⟨pe,ee,qe⟩:=id Y.le;have ze:=Dj qe;have npe:e≠p:=Ci ee Y.ob (by intro z; cases z);walk_at "";refine⟨p,_,_,_,_,rfl,Y.ob,T.DR,T.NK,Zph _ _ _ _ _,?_⟩;walk_at "";refine⟨tyL ee,?_⟩;walk_at "";refine⟨p,_,_,_,_,rfl,Y.ob,T.DR,T.NB,Zxl _ _ _ _ _,?_⟩;walk_at "";refine⟨a,_,rfl,Y.la,fun q H1 s1 hq=>?_⟩;have Y1:=Y.same T s1;have ee1:=s1 _ _ ee;walk_at "";refine Eu ee1 (by rw[Ax]; omega) fun H2 b2 e2=>?_;have ob2:=b2 _ _ npe.symm Y1.ob;walk_at "";refine BR (by simp) fun a' H3 s3 n3 e3=>?_;walk_at "";refine Hf (s3 _ _ ob2) T.DR T.NB (Dv rfl) fun H4 b4 e4=>?_;rw[ZDo]at e4;have x24:ExtL t H2 H4:=(ExtL.of s3).trans (ExtL.lev b4 (s3 _ _ ob2));have x14:ExtL t H1 H4:=(ExtL.lst b2 ee1).trans x24;have nap:a'≠p:=(Bw ob2 n3).symm;have kp:∀x u,x≠p→x≠e→H x=some u→H4 x=some u:=fun x u h1 h2 z=>b4 _ _ h1 (s3 _ _ (b2 _ _ h2 (s1 _ _ z)));obtain⟨po,eo,qo⟩:=id Y.lo;have nop:o≠p:=Ci eo Y.ob (by intro z; cases z)
   have na:H a'=none:=by
    cases z:H a' with
    | none=>rfl
    | some u=>
     by_cases y:a'=e
     ·subst y; rw[e2]at n3; cases n3
     ·rw[b2 _ _ y (s1 _ _ z)]at n3; cases n3
   refine hK _ _ ⟨fun z=>absurd z hv,fun _=>⟨a',na,fun x u h1 h3 z=>kp x u h1 h3 z,⟨e4,⟨[],b4 _ _ nap e3,.nil⟩,FmsE.snoc (b4 _ _ npe (s3 _ _ e2)) (BV (fun _ _ z=>FmE.extL T x14 (FmE.same s1 z)) qe) (hq.extL T x14),Y.lo.keep T ((ExtL.of s1).trans x14) fun xs z=>kp _ _ nop Y.eo.symm z,?_,?_,Y.eo⟩⟩,rfl⟩
   ·exact fun y=>by subst y; rw[e2]at n3; cases n3
   ·exact fun y=>by subst y; rw[b2 _ _ Y.eo.symm (s1 _ _ eo)]at n3; cases n3
  walk_at "rs"
  cases v with
  | a=>
   refine Ba rfl ?_;walk_at "rs";exact hK _ _ ⟨fun _=>rfl,fun z=>absurd rfl z,rfl⟩
  | e=>exact Cg (by decide) (eithers (by decide))
  | o=>exact Cg (by decide) (eithers (by decide))
 rintro σ H1 ⟨ha,hn,rfl⟩;walk_at "rs"
 cases v with
 | a=>
  obtain rfl:=ha rfl;refine Hq ?_;walk_at "rs";refine Ba rfl ?_;walk_at "rs";refine ZAh T Y fun H2 b2 Y2=>?_;exact k a e H2 (.inl rfl) (.inl rfl) (fun x u h1 _ _ _ z=>b2 _ _ h1 z) Y2
 | e=>
  obtain⟨a',na,o1,Y1⟩:=hn (by decide);refine Hq ?_;walk_at "rs";refine Ba rfl ?_;walk_at "rs";refine ZAh T Y1 fun H2 b2 Y2=>?_;exact k a' e H2 (.inr na) (.inl rfl) (fun x u h1 h2 h3 h4 z=>b2 _ _ h1 (o1 _ _ h1 h3 z)) Y2
 | o=>
  obtain⟨a',na,o1,Y1⟩:=hn (by decide);refine Hq ?_;walk_at "rs";refine Cg rfl ?_;obtain⟨po,eo,qo⟩:=id Y1.lo;have zo:=Dj qo;have nop:o≠p:=Ci eo Y1.ob (by intro z; cases z);obtain⟨pa1,ea1,_⟩:=id Y1.la;obtain⟨pe1,ee1,_⟩:=id Y1.le;walk_at "";refine⟨p,_,_,_,_,rfl,Y1.ob,T.DR,T.S8,ZAB _ _ _ _ _,?_⟩;walk_at "";refine⟨tyL eo,?_⟩;walk_at "";refine⟨p,_,_,_,_,rfl,Y1.ob,T.DR,T.NK,Zph _ _ _ _ _,?_⟩;walk_at "";refine⟨e,_,rfl,Y1.le,fun q H2 s2 hq=>?_⟩;have Y2:=Y1.same T s2;have eo2:=s2 _ _ eo;walk_at "";refine Eu eo2 (by rw[Ax]; dsimp only at zo; omega) fun H3 b3 e3=>?_;have ob3:=b3 _ _ nop.symm Y2.ob;walk_at "";refine BR (by simp) fun e' H4 s4 n4 e4=>?_;walk_at "rs";refine Hf (s4 _ _ ob3) T.DR T.NK (Dv rfl) fun H5 b5 e5=>?_;rw[ZwB]at e5;have x35:ExtL t H3 H5:=(ExtL.of s4).trans (ExtL.lev b5 (s4 _ _ ob3));have x25:ExtL t H2 H5:=(ExtL.lst b3 eo2).trans x35;have nep:e'≠p:=(Bw ob3 n4).symm;have kp:∀x u,x≠p→x≠o→H1 x=some u→H5 x=some u:=fun x u h1 h2 z=>b5 _ _ h1 (s4 _ _ (b3 _ _ h2 (s2 _ _ z)));have nap:a'≠p:=Ci ea1 Y1.ob (by intro z; cases z)
  have nf:∀x u,x≠o→H1 x=some u→e'≠x:=fun x u h2 z y=>by subst y; rw[b3 _ _ h2 (s2 _ _ z)]at n4; cases n4
  have neo:e'≠o:=fun y=>by subst y; rw[e3]at n4; cases n4
  have ne1:H1 e'=none:=by
   cases z:H1 e' with
   | none=>rfl
   | some u=>exact absurd rfl (nf e' u neo z)
  have ne0:H e'=none:=by
   cases z:H e' with
   | none=>rfl
   | some u=>rw[o1 e' u nep (fun y=>by rw[y,ee1]at ne1; cases ne1) z]at ne1; cases ne1
  have Y5:LvAt t H5 p dx a' e' o ⟨L.nots,[],[],L.ors++[Ep .e (L.eithers++[Ep .a L.ands])],L.lack⟩:=⟨e5,Y1.la.keep T ((ExtL.of s2).trans x25) fun xs z=>kp _ _ nap Y1.ao z,⟨[],b5 _ _ nep e4,.nil⟩,FmsE.snoc (b5 _ _ nop (s4 _ _ e3)) (BV (fun _ _ z=>FmE.extL T x25 (FmE.same s2 z)) qo) (hq.extL T x25),(nf a' _ Y1.ao ea1).symm,Y1.ao,neo⟩;walk_at "rs";refine ZAh T Y5 fun H6 b6 Y6=>?_;exact k a' e' H6 (.inr na) (.inr ne0) (fun x u h1 h2 h3 h4 z=>b6 _ _ h1 (kp _ _ h1 h4 (o1 _ _ h1 h3 z))) Y6
noncomputable def ZDG (t:Ad):Sp:=fun vs H Q _=>∃(p dx a e o:Ab) (L:Lv),vs=[.ref p]∧LvAt t H p dx a e o L∧L.size < 900000∧∀q H',Off4 p a e o H H'→FmE t H' q L.whole→Q (.ref q) H'
theorem Zx0 (T:Txt K mg t):∀C,isLv t C→MeS P w K mg base 6 C "whole" ["self"] (spAt (ZDG t) C):=by
 rintro C rfl;refine⟨T.DR,_,_,T.SQ.ok ZqN (fun vs H Q E h=>?_) (fun cdv A outer s H vs Q E hr h=>?_),T.ZlI,T.ZlY⟩
 ·obtain⟨⟨p,dx,a,e,o,L,rfl,_⟩,_⟩:=h
  rfl
 obtain⟨⟨p,dx,a,e,o,L,rfl,Y,hz,k⟩,_⟩:=h;have ZEU:=ZDc (P:=P) (w:=w) (base:=base) T;have D_take_join:=Zkt (P:=P) (w:=w) (base:=base) T
 refine⟨_,(Ai (Dc (Eb D_take_join hr (pv 0) (Ac Am Af)))
   (Ah (Av (Bj ZEU hr (Ac (Cj (pv 0) rfl) Af))))),?_⟩
 walk_at "rd0";refine⟨p,_,_,_,rfl,Y.ob,rfl,Zl8 _ _ _ _ _,?_⟩;walk_at "";refine⟨Y.ob,p,dx,a,e,o,L,.o,rfl,Y,hz,fun a' e' H1 ha he o1 Y1=>?_⟩;walk_at "";refine⟨p,_,_,_,_,rfl,Y1.ob,T.DR,T.S8,ZAB _ _ _ _ _,?_⟩;walk_at "";refine⟨o,_,rfl,Y1.lo,fun q H2 s2 hq=>?_⟩;exact k q H2 (fun x u h1 h2 h3 h4 z=>s2 _ _ (o1 _ _ h1 h2 h3 h4 z)) hq
noncomputable def ZBR (t:Ad):Sp:=fun vs H Q E=>∃(p dx a e o nl:Ab) (L:Lv) (z:Str) (ns:List Str),vs=[.ref p,.str z,.ref nl]∧LvAt t H p dx a e o L∧L.size < 900000∧H nl=some (.tup (ns.map V.str))∧ns.length≤1000∧JB z∧
 (L.word ns z=none→∀H',Same H H'→E (.ref t.Hd) none H')∧
 (∀L',L.word ns z=some L'→∀a' e' H',(a'=a∨H a'=none)→(e'=e∨H e'=none)→Off4 p a e o H H'→LvAt t H' p dx a' e' o L'→Q .non H')
theorem Zp9 (T:Txt K mg t):∀C,isLv t C→MeS1 P w K mg base 7 C "take_word" ["self","word","names"] (spAt (ZBR t) C):=by
 rintro C rfl;refine⟨T.DR,_,_,T.SN.ok1 Zmn (fun vs H Q E h=>?_) (fun cdv A outer s H vs Q E hr h=>?_),T.ZhJ,T.ZhT⟩
 ·obtain⟨⟨p,dx,a,e,o,nl,L,z,ns,rfl,_⟩,_⟩:=h
  rfl
 obtain⟨⟨p,dx,a,e,o,nl,L,z,ns,rfl,Y,hz,hn,h1000,hpl,k1,k2⟩,_⟩:=h;have ZCb:=ZAV (P:=P) (w:=w) (base:=base) T;have D_take_part:=Zku (P:=P) (w:=w) (base:=base) T;have D_take_join:=Zkt (P:=P) (w:=w) (base:=base) T;unfold Lv.word at k1 k2
 refine⟨_,(Ah (Bl (PT.nox (PW.pt (Gf (DX (Cj (pv 0) rfl) (fun _=>rfl)) (GR (Ay (BL hr.units) (pv 1) Am (Bd _))))))
   (PSs.nox (Ah (DY (pv 0) (Aj BJ (Cj (pv 0) rfl) Ag) rfl)))
   (Ah (Bl (PT.nox (DX (Cj (pv 0) rfl) (fun _=>rfl)))
   (Ah (Dc (Eb D_take_part hr (pv 0) (Ac (ZIH ZIC ZCb hr (Ac (pv 1) (Ac (pv 2) Af))) Af))))
   (Ah (Bl (PT.nox (Ay Jt (pv 1) (Hr rfl T.g_JOINS) (by with_unfolding_all rfl)))
   (PSs.nox (Ah (Dc (Eb D_take_join hr (pv 0) (Ac (pv 1) Af)))))
   (Ah (ul rfl uh T.ZS.own rfl T.ZR (PA.nox (Ac (W4 (J0 (ZA9 (pv 1)) (J0 Am W2))) Af)))))))))),?_⟩
 walk_at "rd0";refine⟨p,_,_,_,_,rfl,Y.ob,T.DR,T.HY,Tj _ _ _ _ _,?_⟩;walk_at ""
 cases hl:L.lack with
 | true=>
  rw[hl,if_pos rfl]at k1 k2;refine Cg rfl ?_;walk_at "";refine Di (fun h1=>?_) (fun h1=>?_)
  ·rw[if_pos h1]at k2
   walk_at "";refine⟨p,_,_,_,_,rfl,Y.ob,T.DR,T.KN,Zxm _ _ _ _ _,?_⟩;walk_at "";refine Hf Y.ob T.DR T.KN (Dv rfl) fun H1 b1 e1=>?_;rw[show(L.nots:Int)+1=((L.nots+1:Nat):Int) by omega,ZxH]at e1;have x:=ExtL.lev b1 Y.ob;rw[hl]at e1;exact k2 _ rfl a e H1 (.inl rfl) (.inl rfl) (fun y u h1 _ _ _ z=>b1 _ _ h1 z) ⟨e1,Y.la.keep T x fun _ z=>b1 _ _ (Ci z Y.ob (by intro y; cases y)) z,Y.le.keep T x fun _ z=>b1 _ _ (Ci z Y.ob (by intro y; cases y)) z,Y.lo.keep T x fun _ z=>b1 _ _ (Ci z Y.ob (by intro y; cases y)) z,Y.ae,Y.ao,Y.eo⟩
  ·rw[if_neg h1]at k1 k2
   walk_at "";refine⟨p,_,_,_,_,rfl,Y.ob,T.DR,T.HY,Tj _ _ _ _ _,?_⟩;walk_at "";rw[hl];refine Cg rfl ?_;walk_at "";refine⟨p,_,_,_,rfl,Y.ob,rfl,Zl9 _ _ _ _ _,?_⟩;walk_at "";refine⟨z,nl,ns,rfl,hn,h1000,hpl,fun f hf q H1 s1 hq=>?_,fun hf H1 s1=>k1 (by rw[hf]; rfl) H1 s1⟩;have Y1:=Y.same T s1;walk_at "";refine⟨Y1.ob,p,dx,a,e,o,q,L,f,rfl,Y1,hq,hz,fun H2 o2 Y2=>?_⟩;walk_at "";exact k2 _ (by rw[hf]; rfl) a e H2 (.inl rfl) (.inl rfl) (fun y u h1 h2 _ _ z=>o2 _ _ h1 h2 (s1 _ _ z)) Y2
 | false=>
  rw[hl,if_neg (by decide)]at k1 k2;refine Ba rfl ?_;refine Ba rfl ?_;walk_at "";refine⟨p,_,_,_,_,rfl,Y.ob,T.DR,T.HY,Tj _ _ _ _ _,?_⟩;walk_at "";rw[hl];refine Ba rfl ?_;walk_at "";refine KY (T.q_JOINS H) ?_;walk_at ""
  cases hj:Th z with
  | some v=>
   have ez:=ZCL hj;subst ez;refine Cg (by cases v <;> decide) ?_;walk_at "";refine⟨p,_,_,_,rfl,Y.ob,rfl,Zl8 _ _ _ _ _,?_⟩;walk_at "";refine⟨Y.ob,p,dx,a,e,o,L,v,rfl,Y,hz,fun a' e' H1 ha he o1 Y1=>?_⟩;walk_at "";exact k2 _ (by rw[hj]; rfl) a' e' H1 ha he o1 Y1
  | none=>
   have nz:z∉(["and","either","or"]:List Str):=fun hm=>by
    unfold Th at hj;simp only [Bu,Fl,or_false]at hm
    rcases hm with rfl | rfl | rfl
    ·rw[if_pos rfl]at hj; cases hj
    ·exact absurd hj (by decide)
    ·exact absurd hj (by decide)
   refine Ba (decide_eq_false nz) ?_
   (try dsimp only)
   refine um ?_;walk_at "";have hpl':(reprText z).length≤900000:=hpl;have e0:BK.length=0:=rfl;have e:=Ce BK (reprText z);have e1:=Ce (BK++reprText z) " stands behind a part";have e2:Cq " stands behind a part" = 21:=rfl;refine⟨_,rfl,Ca (by omega),_,rfl,Ca (by omega),?_⟩;walk_at "";refine⟨_,rfl,Ca (by omega),Ca (by omega),?_⟩;walk_at "";exact⟨Dv rfl,k1 (by rw[hj]; rfl) H (Same.refl _)⟩
end
noncomputable abbrev A5:=Ab×Ab×Ab×Ab×Ab
noncomputable def cells:List A5→List Ab
 | []=>[]
 | x::r=>x.1::x.2.2.1::x.2.2.2.1::x.2.2.2.2::cells r
noncomputable def refs (ads:List A5):List V:=(ads.map (·.1)).reverse.map V.ref
theorem Z7 (x:A5) (r:List A5):refs (x::r)=refs r++[.ref x.1]:=by unfold refs; simp
theorem Zsz (r:List A5):(refs r).length=r.length:=by unfold refs; simp
theorem Zzv {α:Type} (xs:List α) (y:α):atI (xs++[y]) (-1)=some y:=by
 unfold atI ixN;rw[if_neg (by decide),CZ,Gv,if_pos (by omega)]
 have e:((-1:Int)+((xs.length+1:Nat):Int)).toNat=xs.length:=by omega
 show(xs++[y])[((-1:Int)+((xs.length+1:Nat):Int)).toNat]?=some y;rw[e,Yav (Bv _),Ya5];rfl
noncomputable def Ij (t:Ad) (H:Hp):List A5→List Lv→Prop
 | [],[]=>True
 | x::r,L::S=>LvAt t H x.1 x.2.1 x.2.2.1 x.2.2.2.1 x.2.2.2.2 L∧Ij t H r S
 | _,_=>False
section
variable {P:Bp} {w:Bg} {K:Ao} {mg:Str→Option Ae} {base:Aq} {t:Ad} {H H' H'' H0:Hp}
theorem Ij.keep (T:Txt K mg t) (s:ExtL t H H'):∀{ads:List A5} {S:List Lv},Ij t H ads S→(∀x u,x∈cells ads→H x=some u→H' x=some u)→Ij t H' ads S
 | [],[],_,_=>trivial
 | x::r,L::S,h,k=>by
  refine⟨h.1.keep T s fun y u hy z=>k y u ?_ z,h.2.keep T s fun y u hy z=>k y u ?_ z⟩
  ·unfold cells
   rcases hy with rfl | rfl | rfl | rfl <;> simp
  ·unfold cells
   simp[hy]
 | [],_::_,h,_=>h.elim
 | _::_,[],h,_=>h.elim
theorem Ij.len:∀{ads:List A5} {S:List Lv},Ij t H ads S→ads.length=S.length
 | [],[],_=>rfl
 | _::_,_::_,h=>congrArg (· + 1) h.2.len
 | [],_::_,h=>h.elim
 | _::_,[],h=>h.elim
theorem Ij.there:∀{ads:List A5} {S:List Lv},Ij t H ads S→∀x∈cells ads,∃u,H x=some u
 | [],[],_,x,hx=>by cases hx
 | y::r,L::S,h,x,hx=>by
  obtain⟨pa,ea,_⟩:=h.1.la;obtain⟨pe,ee,_⟩:=h.1.le;obtain⟨po,eo,_⟩:=h.1.lo;unfold cells at hx;simp only [Bu]at hx
  rcases hx with rfl | rfl | rfl | rfl | hx
  ·exact⟨_,h.1.ob⟩
  ·exact⟨_,ea⟩
  ·exact⟨_,ee⟩
  ·exact⟨_,eo⟩
  ·exact h.2.there x hx
 | [],_::_,h,_,_=>h.elim
 | _::_,[],h,_,_=>h.elim
theorem Ij.bottom:∀{ads:List A5} {S:List Lv},Ij t H ads S→ads≠[]→∃(b:A5) (L0:Lv),(refs ads)[0]?=some (.ref b.1)∧S.getLast?=some L0∧LvAt t H b.1 b.2.1 b.2.2.1 b.2.2.2.1 b.2.2.2.2 L0∧∀x∈[b.1,b.2.2.1,b.2.2.2.1,b.2.2.2.2],x∈cells ads
 | [],_,_,n=>absurd rfl n
 | [y],[L],h,_=>⟨y,L,rfl,rfl,h.1,fun x hx=>by simpa [cells] using hx⟩
 | y::z::r,L::M::S,h,_=>by
  obtain⟨b,L0,h1,h2,h3,h4⟩:=Ij.bottom h.2 (by simp);refine⟨b,L0,?_,?_,h3,fun x hx=>?_⟩
  ·rw[Z7,Yaw (by rw[Zsz]; simp)]
   exact h1
  ·rw[List.getLast?_cons_cons]
   exact h2
  ·have:=h4 x hx
   unfold cells;simp[this]
 | [_],[],h,_=>h.elim
 | [_],_::_::_,h,_=>h.2.elim
 | _::_::_,[],h,_=>h.elim
 | _::_::_,[_],h,_=>h.2.elim
structure SK (t:Ad) (H0 H:Hp) (lv:Ab) (ads:List A5) (S:List Lv):Prop where
 ls:H lv=some (.lst (refs ads))
 st:Ij t H ads S
 nd:(lv::cells ads).Nodup
 fr:∀x∈lv::cells ads,H0 x=none
 sm:Same H0 H
theorem SK.kp {lv:Ab} {ads:List A5} {S:List Lv} (Z:SK t H0 H lv ads S) {x:Ab} (hx:x∈lv::cells ads) {y:Ab} {u:HO} (e:H0 y=some u):y≠x:=Bw e (Z.fr x hx)
theorem SK.top (T:Txt K mg t) {lv p dx a e o a' e':Ab} {r:List A5} {L L':Lv} {S:List Lv} (Z:SK t H0 H lv ((p,dx,a,e,o)::r) (L::S)) (ha:a'=a∨H a'=none) (he:e'=e∨H e'=none) (k:Off4 p a e o H H') (Y:LvAt t H' p dx a' e' o L'):SK t H0 H' lv ((p,dx,a',e',o)::r) (L'::S):=by
 have hY:LvAt t H p dx a e o L:=Z.st.1;have nd:=Z.nd;have fr:=Z.fr;unfold cells at nd fr;simp only [EY,Bu,not_or]at nd;obtain⟨⟨n1,n2,n3,n4,n5⟩,⟨m1,m2,m3,m4⟩,⟨l1,l2,l3⟩,⟨k1,k2⟩,j1,jr⟩:=nd;have hr:∀x u,x∈cells r→H x=some u→H' x=some u:=fun x u hx z=>k x u (fun y=>m4 (y ▸ hx)) (fun y=>l3 (y ▸ hx)) (fun y=>k2 (y ▸ hx)) (fun y=>j1 (y ▸ hx)) z;have thr:=Z.st.there
 have nw:∀x,(x=a∨H x=none)∨(x=e∨H x=none)→x≠lv∧x∉cells r:=fun x hx=>by
  have free:H x=none→x≠lv∧x∉cells r:=fun z=>⟨(Bw Z.ls z).symm,fun hm=>by
   obtain⟨u,hu⟩:=thr x (by unfold cells; simp[hm]);rw[z]at hu
   cases hu⟩
  rcases hx with(rfl | z) | (rfl | z)
  ·exact⟨fun y=>n2 y.symm,l3⟩
  ·exact free z
  ·exact⟨fun y=>n3 y.symm,k2⟩
  ·exact free z
 obtain⟨pa,ea,_⟩:=Y.la;obtain⟨pe,ee,_⟩:=Y.le;obtain⟨po,eo,_⟩:=Y.lo;have qa:=nw a' (.inl ha);have qe:=nw e' (.inr he);have npa:p≠a':=Ci Y.ob ea (by intro z; cases z);have npe:p≠e':=Ci Y.ob ee (by intro z; cases z);refine⟨k _ _ n1 n2 n3 n4 Z.ls,⟨Y,Z.st.2.keep T (ExtL.off4 hY k) hr⟩,?_,fun x hx=>?_,fun x u z=>?_⟩
 ·unfold cells
  simp only [EY,Bu,not_or];exact⟨⟨n1,qa.1.symm,qe.1.symm,n4,n5⟩,⟨npa,npe,m3,m4⟩,⟨Y.ae,Y.ao,qa.2⟩,⟨Y.eo,qe.2⟩,j1,jr⟩
 ·have old:∀y,y∈lv::cells ((p,dx,a,e,o)::r)→H0 y=none:=Z.fr
  have mem:∀y,(y=p∨y=a∨y=e∨y=o)→y∈lv::cells ((p,dx,a,e,o)::r):=fun y hy=>by unfold cells; simp; exact .inr (by rcases hy with h | h | h | h <;> simp[h])
  unfold cells at hx;simp only [Bu]at hx
  rcases hx with rfl | rfl | rfl | rfl | rfl | hx
  ·exact old _ Dg
  ·exact old _ (mem _ (.inl rfl))
  ·rcases ha with rfl | z
   ·exact old _ (mem _ (.inr (.inl rfl)))
   ·exact Z.sm.free z
  ·rcases he with rfl | z
   ·exact old _ (mem _ (.inr (.inr (.inl rfl))))
   ·exact Z.sm.free z
  ·exact old _ (mem _ (.inr (.inr (.inr rfl))))
  ·exact old _ (by unfold cells; simp[hx])
 ·have mem:∀y,(y=p∨y=a∨y=e∨y=o)→y∈lv::cells ((p,dx,a,e,o)::r):=fun y hy=>by unfold cells; simp; exact .inr (by rcases hy with h | h | h | h <;> simp[h])
  exact k x u (Z.kp (mem _ (.inl rfl)) z) (Z.kp (mem _ (.inr (.inl rfl))) z) (Z.kp (mem _ (.inr (.inr (.inl rfl)))) z) (Z.kp (mem _ (.inr (.inr (.inr rfl)))) z) (Z.sm x u z)
theorem SK.push (T:Txt K mg t) {lv p dx a e o:Ab} {ads:List A5} {S:List Lv} (Z:SK t H0 H lv ads S) (s:Same H H') (np:H p=none) (na:H a=none) (ne:H e=none) (no:H o=none) (Y:LvAt t H' p dx a e o Lv.new) (b:But lv H' H'') (el:H'' lv=some (.lst (refs ads++[.ref p]))):SK t H0 H'' lv ((p,dx,a,e,o)::ads) (Lv.new::S):=by
 have hl':=s _ _ Z.ls;have thr:=Z.st.there
 have fre:∀x,H x=none→x≠lv∧x∉cells ads:=fun x z=>⟨(Bw Z.ls z).symm,fun hm=>by
  obtain⟨u,hu⟩:=thr x hm;rw[z]at hu
  cases hu⟩
 have nlv:∀x,x∈cells ads→x≠lv:=fun x hx y=>by
  have:=(EY.mp Z.nd).1;rw[y]at hx;exact this hx
 have ex:ExtL t H H'':=(ExtL.of s).trans (ExtL.lst b hl');obtain⟨pa,ea,_⟩:=id Y.la;obtain⟨pe,ee,_⟩:=id Y.le;obtain⟨po,eo,_⟩:=id Y.lo
 have Y2:LvAt t H'' p dx a e o Lv.new:=Y.keep T (ExtL.lst b hl') fun x u hx z=>b x u (by
  rcases hx with rfl | rfl | rfl | rfl
  ·exact(fre _ np).1
  ·exact(fre _ na).1
  ·exact(fre _ ne).1
  ·exact(fre _ no).1) z
 refine⟨by rw[Z7]; exact el,⟨Y2,Z.st.keep T ex fun x u hx z=>b x u (nlv x hx) (s _ _ z)⟩,?_,fun x hx=>?_,fun x u z=>b x u (Z.kp Dg z) (s _ _ (Z.sm x u z))⟩
 ·have nd:=EY.mp Z.nd
  unfold cells;simp only [EY,Bu,not_or];exact⟨⟨(fre _ np).1.symm,(fre _ na).1.symm,(fre _ ne).1.symm,(fre _ no).1.symm,nd.1⟩,⟨Ci Y.ob ea (by intro z; cases z),Ci Y.ob ee (by intro z; cases z),Ci Y.ob eo (by intro z; cases z),(fre _ np).2⟩,⟨Y.ae,Y.ao,(fre _ na).2⟩,⟨Y.eo,(fre _ ne).2⟩,(fre _ no).2,nd.2⟩
 ·unfold cells at hx
  simp only [Bu]at hx
  rcases hx with rfl | rfl | rfl | rfl | rfl | hx
  ·exact Z.fr _ Dg
  ·exact Z.sm.free np
  ·exact Z.sm.free na
  ·exact Z.sm.free ne
  ·exact Z.sm.free no
  ·exact Z.fr _ (CW _ hx)
theorem SK.pop (T:Txt K mg t) {lv p dx a e o:Ab} {r:List A5} {L:Lv} {S:List Lv} (Z:SK t H0 H lv ((p,dx,a,e,o)::r) (L::S)) (b:But lv H H') (el:H' lv=some (.lst (refs r))):SK t H0 H' lv r S∧LvAt t H' p dx a e o L:=by
 have ex:ExtL t H H':=ExtL.lst b Z.ls;have nd:=EY.mp Z.nd;have nlv:∀x,x∈cells ((p,dx,a,e,o)::r)→x≠lv:=fun x hx y=>nd.1 (y ▸ hx)
 have sub:∀x,x∈cells r→x∈cells ((p,dx,a,e,o)::r):=fun x hx=>by unfold cells; simp[hx]
 have nd2:=nd.2;unfold cells at nd2;simp only [EY]at nd2;refine⟨⟨el,Z.st.2.keep T ex fun x u hx z=>b x u (nlv x (sub x hx)) z,EY.mpr ⟨fun z=>nd.1 (sub _ z),nd2.2.2.2.2⟩,fun x hx=>?_,fun x u z=>b x u (Z.kp Dg z) (Z.sm x u z)⟩,?_⟩
 ·rcases Bu.mp hx with rfl | hx
  ·exact Z.fr _ Dg
  ·exact Z.fr _ (CW _ (sub x hx))
 ·exact(show LvAt t H p dx a e o L from Z.st.1).keep T ex fun x u hx z=>b x u (nlv x (by unfold cells; rcases hx with rfl | rfl | rfl | rfl <;> simp)) z
theorem SK.off (T:Txt K mg t) {lv p dx a e o:Ab} {r:List A5} {L:Lv} {S:List Lv} (Z:SK t H0 H lv r S) (Y:LvAt t H p dx a e o L) (hx:∀x∈[p,a,e,o],x∉lv::cells r∧H0 x=none) (k:Off4 p a e o H H'):SK t H0 H' lv r S:=by
 have st:∀x u,x∈lv::cells r→H x=some u→H' x=some u:=fun x u hm z=>k x u (fun y=>(hx p (by simp)).1 (y ▸ hm)) (fun y=>(hx a (by simp)).1 (y ▸ hm)) (fun y=>(hx e (by simp)).1 (y ▸ hm)) (fun y=>(hx o (by simp)).1 (y ▸ hm)) z;exact⟨st _ _ Dg Z.ls,Z.st.keep T (ExtL.off4 Y k) fun x u hm z=>st x u (CW _ hm) z,Z.nd,Z.fr,fun x u z=>k x u (Bw z (hx p (by simp)).2) (Bw z (hx a (by simp)).2) (Bw z (hx e (by simp)).2) (Bw z (hx o (by simp)).2) (Z.sm x u z)⟩
theorem SK.out {lv p dx a e o:Ab} {r:List A5} {L:Lv} {S:List Lv} (Z:SK t H0 H lv ((p,dx,a,e,o)::r) (L::S)):∀x∈[p,a,e,o],x∉lv::cells r∧H0 x=none:=fun x hx=>by
 have nd:=Z.nd;unfold cells at nd;simp only [EY,Bu,not_or]at nd;obtain⟨⟨n1,n2,n3,n4,n5⟩,⟨m1,m2,m3,m4⟩,⟨l1,l2,l3⟩,⟨k1,k2⟩,j1,jr⟩:=nd;have f:∀y,y∈[p,a,e,o]→H0 y=none:=fun y hy=>Z.fr y (by unfold cells; simp only [Bu,Fl,or_false]at hy; simp; exact .inr (by rcases hy with h | h | h | h <;> simp[h]));refine⟨?_,f x hx⟩;simp only [Bu,Fl,or_false]at hx;simp only [Bu,not_or]
 rcases hx with rfl | rfl | rfl | rfl
 ·exact⟨fun y=>n1 y.symm,m4⟩
 ·exact⟨fun y=>n2 y.symm,l3⟩
 ·exact⟨fun y=>n3 y.symm,k2⟩
 ·exact⟨fun y=>n4 y.symm,j1⟩
theorem Zy9 {ns:List Str} {L:Lv} {R:List Lv} {z:Str} (h1 : ¬(z = "("∧L.lack=true)) (h2 : ¬(z = ")"∧L.lack=false∧R≠[])):Dz ns (L::R) z=(L.word ns z).map (· :: R):=by
 cases R with
 | nil=>simp only [Dz]; rw[if_neg h1]
 | cons M R'=>
  simp only [Dz];rw[if_neg h1,if_neg fun y=>h2 ⟨y.1,y.2,by simp⟩]
noncomputable def ZJj (t:Ad):Sp:=fun vs H Q E=>∃(fo nl:Ab) (ws ns:List Str),vs=[.ref fo,.ref nl]∧H fo=some (.lst (ws.map V.str))∧H nl=some (.tup (ns.map V.str))∧ns.length≤1000∧ws.length≤800000∧(∀z∈ws,JB z)∧
 (Hk ns ws=none→∀H',Same H H'→E (.ref t.Hd) none H')∧(∀f,Hk ns ws=some f→∀q H',Same H H'→FmE t H' q f→Q (.ref q) H')
theorem Zip (T:Txt K mg t):FnS1 P w K mg base 8 "formula_in" ["found","names"] ((ZJj t)):=by
 refine⟨_,_,T.Q3.ok1 Xd (fun vs H Q E h=>?_) (fun cdv A outer s H vs Q E hr h=>?_),T.Znz,T.Q3.kp,T.ZnO⟩
 ·obtain⟨fo,nl,ws,ns,rfl,hf,hn,h1000,hz,hpl,k1,k2⟩:=h
  rfl
 obtain⟨fo,nl,ws,ns,rfl,hf,hn,h1000,hz,hpl,k1,k2⟩:=h;have Zzm:=ZC8 (P:=P) (w:=w) (base:=base) T;have D_take_part:=Zku (P:=P) (w:=w) (base:=base) T;have D_take_word:=Zp9 (P:=P) (w:=w) (base:=base) T;have D_whole:=Zx0 (P:=P) (w:=w) (base:=base) T
 refine⟨_,(Ai (PS.nox (ss 2 Xd.nd (Br (Ac (WP Zzm hr) Af))))
   (Ai (Dd Yan.leaving rfl (Et (pv 0)) (sg 3 Xd.nd)
   (Ai (PS.nox (ss 4 Xd.nd (Bm Bo (pv 2) (JT Lh Ag) (fun _ _=>rfl))))
   (Ah (Bl (PT.nox (PW.pt (Gf (Ay (BL hr.units) (pv 3) Am (Bd _)) (GR (DX (Cj (pv 4) rfl) (fun _=>rfl))))))
   (PSs.nox (Ah (Dc (CG Ds Eg Em Ea (pv 2) (Ac (WP Zzm hr) Af)))))
   (Ah (Bl (PT.nox (PW.pt (Gf (Ay (BL hr.units) (pv 3) Am (Bd _)) (Gf (HF (DX (Cj (pv 4) rfl) (fun _=>rfl))) (GR (Ay Iw (Dh Ed rfl T.B.len Ec (Ac (pv 2) Af)) Ag (Bd _)))))))
   (PSs.nox (Ai (Dc (WD Ds T8 jy o7 (pv 2)))
   (Ah (Dc (Eb D_take_part hr (Bm Bo (pv 2) (JT Lh Ag) (fun _ _=>rfl)) (Ac (Ou D_whole hr (pv 4)) Af))))))
   (Ah (Dc (ZIG ZIC D_take_word hr (pv 4) (Ac (pv 3) (Ac (pv 1) Af)))))))))))
   (Ai (Bl (PT.nox (DX (Cj (Bm Bo (pv 2) Ag (fun _ _=>rfl)) rfl) (fun _=>rfl)))
   (Ah (ul rfl uh T.ZS.own rfl T.ZR (PA.nox (Ac Am Af))))
   (PSs.nox Bq))
   (PSs.nox (Ah (Av (Ou D_whole hr (Bm Bo (pv 2) Ag (fun _ _=>rfl))))))))),?_⟩
 walk_at "rd0";refine ZAc fun p dx a e o H1 s1 np na ne no Y1=>?_;walk_at "";refine BR (Dv rfl) fun lv H2 s2 n2 e2=>?_
 have Z0:SK t H H2 lv [(p,dx,a,e,o)] [Lv.new]:=by
  obtain⟨pa,ea,_⟩:=id Y1.la;obtain⟨pe,ee,_⟩:=id Y1.le;obtain⟨po,eo,_⟩:=id Y1.lo;refine⟨e2,⟨Y1.same T s2,trivial⟩,?_,fun x hx=>?_,s1.trans s2⟩
  ·simp only [cells,EY,Bu,Fl,or_false,not_or,not_false_eq_true,Wm,and_true]
   exact⟨⟨(Bw Y1.ob n2).symm,(Bw ea n2).symm,(Bw ee n2).symm,(Bw eo n2).symm⟩,⟨Ci Y1.ob ea (by intro z; cases z),Ci Y1.ob ee (by intro z; cases z),Ci Y1.ob eo (by intro z; cases z)⟩,⟨Y1.ae,Y1.ao⟩,Y1.eo⟩
  ·simp only [cells,Bu,Fl,or_false]at hx
   rcases hx with rfl | rfl | rfl | rfl | rfl
   ·exact s1.free n2
   ·exact np
   ·exact na
   ·exact ne
   ·exact no
 clear Y1 s1 s2 n2 e2 np na ne no;walk_at "";refine seqL (xs:=ws.map V.str) (fun i σ H'=>∃ads S v3 v4,SK t H H' lv ads S∧runW ns [Lv.new] (ws.take i)=some S∧(∀L∈S,L.size≤i)∧S≠[]∧ads.length≤i+1∧σ=[some (.ref fo),some (.ref nl),some (.ref lv),v3,v4]) ⟨_,_,_,_,Z0,rfl,(fun L hL=>by rw[Ck.mp hL]; exact Bv 0),by simp,Bv _,rfl⟩ (fun i σ H' _ hp=>by obtain⟨ads,S,v3,v4,Z,_⟩:=hp; exact SqL.of (Z.sm _ _ hf)) ?_ ?_
 ·rintro i x σ H3 hx ⟨ads,S,v3,v4,Z,hrun,hsz,hne,hal,rfl⟩
  rw[El]at hx;obtain⟨z,hzi,rfl⟩:=Kl.mp hx;have hil:=(Ej.mp hzi).1
  have rn:runW ns [Lv.new] (ws.take (i+1))=(Dz ns S z):=by
   rw[Ff hzi,Vq,hrun];show runW ns S [z]=_;unfold runW
   cases Dz ns S z <;> rfl
  have rno:Dz ns S z=none→Hk ns ws=none:=fun h=>by
   unfold Hk
   have:runW ns [Lv.new] ws=none:=by
    rw[←List.take_append_drop (i+1) ws,Vq,rn,h];rfl
   rw[this];rfl
  have zpl:=hpl z (Dm hzi)
  match ads,S,Z,hne with
  | [],[],_,hne=>exact absurd rfl hne
  | [],_::_,Z,_=>exact Z.st.elim
  | _::_,[],Z,_=>exact Z.st.elim
  | (p,dx,a,e,o)::r,L::R,Z,_=>
   have Y:LvAt t H3 p dx a e o L:=Z.st.1;have hls:=Z.ls;rw[Z7]at hls;have rl:=Z.st.2.len;have hL:=hsz L Dg;have fin:∀(H':Hp) (v3 v4:Option V) (ads':List A5) (S':List Lv),SK t H H' lv ads' S'→Dz ns (L::R) z=some S'→ads'.length≤i+2→∃ads S w3 w4,SK t H H' lv ads S∧runW ns [Lv.new] (ws.take (i+1))=some S∧(∀L∈S,L.size≤i+1)∧S≠[]∧ads.length≤i+1+1∧[some (.ref fo),some (.ref nl),some (.ref lv),v3,v4]=[some (.ref fo),some (.ref nl),some (.ref lv),w3,w4]:=fun H' v3 v4 ads' S' Z' h hl'=>⟨ads',S',v3,v4,Z',by rw[rn,h],ZBU h hsz,ZGW h,hl',rfl⟩
   have wrd:∀(Q':VK),(∀L' a' e' H',L.word ns z=some L'→SK t H H' lv ((p,dx,a',e',o)::r) (L'::R)→Q' .non H')→(L.word ns z=none→Dz ns (L::R) z=none)→ZBR t [.ref p,.str z,.ref nl] H3 Q' E:=fun Q' h1 h2=>
    ⟨p,dx,a,e,o,nl,L,z,ns,rfl,Y,by omega,Z.sm _ _ hn,h1000,zpl,fun hw H' s'=>k1 (rno (h2 hw)) H' (Z.sm.trans s'),fun L' hw a' e' H' ha he k Y'=>h1 L' a' e' H' hw (Z.top T ha he k Y')⟩
   walk_at "";refine UL hls (Zzv _ _) ?_;walk_at "";have lp:((p,dx,a,e,o)::r:List A5).length≤i+1:=hal;rw[CT]at lp;refine(fun(key : ¬(z = "("∧L.lack=true)→?G)=>?main) ?key
   case main=>
    refine Di (fun h1=>?_) (fun h1=>?_)
    ·walk_at ""
     refine⟨p,_,_,_,_,rfl,Y.ob,T.DR,T.HY,Tj _ _ _ _ _,?_⟩;walk_at ""
     cases hl:L.lack with
     | true=>
      refine Cg rfl ?_;walk_at "";refine⟨tyL Z.ls,?_⟩;walk_at "";refine ZAc fun p' dx' a' e' o' H4 s4 np na ne no Y4=>?_;walk_at "";refine Eu (s4 _ _ Z.ls) (by rw[Zsz]; simp only [CT]; omega) fun H5 b5 e5=>?_;walk_at "";exact fin H5 _ _ _ _ (Z.push T s4 np na ne no Y4 b5 e5) (by simp only [Dz]; rw[if_pos ⟨h1,hl⟩]) (by simp only [CT]; omega)
     | false=>
      refine Ba rfl ?_
      exact key fun y=>by rw[hl]at y; exact absurd y.2 (by decide)
    ·refine Ba rfl ?_
     exact key fun y=>h1 y.1
   intro hno;refine(fun(key : ¬(z = ")"∧L.lack=false∧R≠[])→?W)=>?main2) ?key2
   case main2=>
    walk_at "";refine Di (fun h2=>?_) (fun h2=>?_)
    ·walk_at ""
     refine⟨p,_,_,_,_,rfl,Y.ob,T.DR,T.HY,Tj _ _ _ _ _,?_⟩;walk_at ""
     cases hl:L.lack with
     | true=>
      refine Ba rfl ?_;refine Ba rfl ?_
      exact key fun y=>by rw[hl]at y; exact absurd y.2.1 (by decide)
     | false=>
      refine Cg rfl ?_;walk_at "";rw[CZ,Zsz,Gv];refine Di (fun h3=>?_) (fun h3=>?_)
      ·obtain _|⟨⟨p2,dx2,a2,e2,o2⟩,r'⟩:=r
       ·exact absurd h3 (by decide)
       obtain _|⟨M,R'⟩:=R
       ·cases rl
       walk_at "";refine⟨tyL hls,?_⟩;walk_at "";refine UV hls fun H4 b4 e4=>?_;obtain⟨Z4,Y4⟩:=Z.pop T b4 e4;have ls4:=Z4.ls;rw[Z7]at ls4;have Y2:LvAt t H4 p2 dx2 a2 e2 o2 M:=Z4.st.1;have hM:=hsz M (CW _ Dg);walk_at "";refine UL ls4 (Zzv _ _) ?_;walk_at "";refine⟨p2,_,_,_,rfl,Y2.ob,rfl,Zl9 _ _ _ _ _,?_⟩;walk_at "";refine⟨p,_,_,_,rfl,Y4.ob,rfl,Zuo _ _ _ _ _,?_⟩;walk_at "";refine⟨Y4.ob,p,dx,a,e,o,L,rfl,Y4,by omega,fun q H5 k5 hq=>?_⟩;have Z5:=Z4.off T Y4 Z.out k5;have Y25:LvAt t H5 p2 dx2 a2 e2 o2 M:=Z5.st.1;walk_at "";refine⟨Y25.ob,p2,dx2,a2,e2,o2,q,M,L.whole,rfl,Y25,hq,by omega,fun H6 o6 Y6=>?_⟩;walk_at "";refine fin H6 _ _ _ _ (Z5.top T (.inl rfl) (.inl rfl) (fun x u h1 h2 _ _ zz=>o6 _ _ h1 h2 zz) Y6) ?_ (by simp only [CT]at lp ⊢; omega);simp only [Dz];rw[if_neg hno,if_pos ⟨h2,hl⟩]
      ·exact key fun y=>by
        cases r with
        | nil=>exact y.2.2 (Ol.mp rl.symm)
        | cons x r'=>simp only [CT]at h3; omega
    ·refine Ba rfl ?_
     exact key fun y=>h2 y.1
   intro hn2;have sw:=Zy9 (ns:=ns) hno hn2;walk_at "";refine⟨p,_,_,_,rfl,Y.ob,rfl,Zsb _ _ _ _ _,?_⟩;walk_at "";refine⟨Y.ob,wrd _ (fun L' a' e' H' hw Z'=>?_) fun hw=>by rw[sw,hw]; rfl⟩;walk_at "";exact fin H' _ _ _ _ Z' (by rw[sw,hw]; rfl) (by simp only [CT]; omega)
 ·rintro σ H3 ⟨ads,S,v3,v4,Z,hrun,hsz,hne,hal,rfl⟩
  rw[Ax,Fw]at hrun;rw[Ax]at hsz
  have hane:ads≠[]:=fun z=>by
   have:=Z.st.len;rw[z]at this;exact hne (Ol.mp this.symm)
  obtain⟨b,L0,hb,hS,Y0,hmem⟩:=Z.st.bottom hane;have hls:=Z.ls
  have rd:Hk ns ws=endF L0:=by
   unfold Hk;rw[hrun];show S.getLast?.bind endF=_;rw[hS];rfl
  have hL0:=hsz L0 (YcB hS);rw[rd]at k1 k2;unfold endF at k1 k2;walk_at "";refine By (j:=0) hls hb ?_;walk_at "";refine⟨b.1,_,_,_,_,rfl,Y0.ob,T.DR,T.HY,Tj _ _ _ _ _,?_⟩;walk_at ""
  cases hl:L0.lack with
  | true=>
   rw[hl,if_pos rfl]at k1;refine Cg rfl ?_
   (try dsimp only)
   refine um ?_;walk_at "";exact⟨Dv rfl,k1 rfl H3 Z.sm⟩
  | false=>
   rw[hl,if_neg (by decide)]at k2;refine Ba rfl ?_;walk_at "";refine By (j:=0) hls hb ?_;walk_at "";refine⟨b.1,_,_,_,rfl,Y0.ob,rfl,Zuo _ _ _ _ _,?_⟩;walk_at "";refine⟨Y0.ob,b.1,_,_,_,_,L0,rfl,Y0,by omega,fun q H4 k4 hq=>?_⟩;have kp:∀y,y∈[b.1,b.2.2.1,b.2.2.2.1,b.2.2.2.2]→∀{x u},H x=some u→x≠y:=fun y hy {x u} zz=>Z.kp (CW _ (hmem y hy)) zz;exact k2 _ rfl q H4 (fun x u zz=>k4 x u (kp _ (by simp) zz) (kp _ (by simp) zz) (kp _ (by simp) zz) (kp _ (by simp) zz) (Z.sm x u zz)) hq
end
noncomputable def rp2 (c d:Nat) (z:List Nat):List Nat→List Nat
 | []=>[]
 | [a]=>[a]
 | a::b::r=>if a=c∧b=d then z++rp2 c d z r else a::rp2 c d z (b::r)
theorem ZwE {c d:Nat} {z:List Nat}:∀(n:Nat) (l:List Nat),n≤l.length→(∀k,k < n→¬(l[k]?=some c∧l[k+1]?=some d))→rp2 c d z l=l.take n++rp2 c d z (l.drop n)
 | 0,l,_,_=>rfl
 | n+1,[],h,_=>by simp at h
 | n+1,[a],h,hn=>by
  have:n=0:=by simp at h; omega
  subst this;rfl
 | n+1,a::b::r,h,hn=>by
  have h0 : ¬(a=c∧b=d):=fun y=>hn 0 (by omega) ⟨by simp[y.1],by simp[y.2]⟩;show(if a=c∧b=d then z++rp2 c d z r else a::rp2 c d z (b::r))=_;rw[if_neg h0,ZwE n (b::r) (by simpa using h) fun k hk y=>hn (k+1) (by omega) (by simpa using y)];rfl
theorem ZGz {c d:Nat} {z l:List Nat} (h:l[0]?=some c) (k:l[1]?=some d):rp2 c d z l=z++rp2 c d z (l.drop 2):=by
 match l,h,k with
 | a::b::r,h,k=>
  simp at h k;show(if a=c∧b=d then z++rp2 c d z r else a::rp2 c d z (b::r))=_;rw[if_pos ⟨h,k⟩];rfl
theorem at2 {x:Str} {c d k:Nat}:Ya7 x ⟨#[c,d]⟩ x.length k ↔ x.cps.toList[k]?=some c∧x.cps.toList[k+1]?=some d:=by
 have ln:x.length=x.cps.toList.length:=by rw[Hg]; rfl
 unfold Ya7 YcC
 constructor
 ·rintro⟨h1,h2⟩
  have h1':k+2≤x.length:=h1;have e:=V3 h2;have e':=congrArg VH e
  have ex:(x.cps.extract k (k+2)).toList=(x.cps.toList.drop k).take 2:=by simp
  have e2:(x.cps.toList.drop k).take 2=[c,d]:=ex.symm.trans e'
  have g0:((x.cps.toList.drop k).take 2)[0]?=some c:=by rw[e2]; rfl
  have g1:((x.cps.toList.drop k).take 2)[1]?=some d:=by rw[e2]; rfl
  rw[Ybz (by decide),Lb]at g0 g1;exact⟨by simpa using g0,g1⟩
 ·rintro⟨h1,h2⟩
  have hl:k+1 < x.cps.toList.length:=(Ej.mp h2).1;refine⟨by show k+2≤_; omega,?_⟩
  have ex:(x.cps.extract k (k+2)).toList=(x.cps.toList.drop k).take 2:=by simp
  have e2:(x.cps.toList.drop k).take 2=[c,d]:=by
   rw[ji (by omega),ji hl];rw[Dr (by omega)]at h1;rw[Dr hl]at h2;rw[Dl h1,Dl h2];rfl
  have:x.cps.extract k (k+2) = #[c,d]:=ju.mp (ex.trans e2);exact beq_iff_eq.mpr this
noncomputable def segs (l:List Nat):Nat→List Nat→List (List Nat)
 | a,[]=>[l.drop a]
 | a,c::r=>(l.drop a).take (c - a)::segs l (c+2) r
theorem ZGE (l:List Nat) (a:Nat) (cs:List Nat):segs l a cs≠[]:=by cases cs <;> simp[segs]
theorem ZFH {z p:List Nat} {r:List (List Nat)} (h:r≠[]):jn z (p::r)=p++z++jn z r:=by
 cases r with
 | nil=>exact absurd rfl h
 | cons q r=>rfl
theorem ZxK {x:Str} {c d:Nat} {z:List Nat}:∀(cs:List Nat) (a f:Nat),StrLaws.ChainG x ⟨#[c,d]⟩ x.length a cs f→(∀k,f≤k→¬Ya7 x ⟨#[c,d]⟩ x.length k)→a≤x.length→rp2 c d z (x.cps.toList.drop a)=jn z (segs x.cps.toList a cs)
 | [],a,f,h,hn,ha=>by
  have e:f=a:=h;subst e;have:=ZwE (c:=c) (d:=d) (z:=z) (x.cps.toList.drop f).length (x.cps.toList.drop f) (Bv _) fun k _ y=>hn (f+k) (by omega) (at2.mpr (by rw[Lb,Lb]at y; exact y));rw[this,Fw,List.drop_length];show _++[]=_;rw[Es];rfl
 | c1::r,a,f,h,hn,ha=>by
  obtain⟨h1,h2,h3,h4⟩:=h;have hle:c1+2≤x.length:=h2.1
  have ln:x.length=x.cps.toList.length:=by rw[Hg]; rfl
  have g:=ZwE (c:=c) (d:=d) (z:=z) (c1 - a) (x.cps.toList.drop a) (by rw[JN]; omega) fun k hk y=>h3 (a+k) (by omega) (by omega) (at2.mpr (by rw[Lb,Lb]at y; exact y))
  have e:(x.cps.toList.drop a).drop (c1 - a)=x.cps.toList.drop c1:=by rw[YcD]; congr 1; omega
  obtain⟨m1,m2⟩:=at2.mp h2;rw[g,e,ZGz (by rw[Lb]; exact m1) (by rw[Lb]; exact m2),YcD,ZxK r (c1+2) f h4 hn hle];show _=jn z ((x.cps.toList.drop a).take (c1 - a)::segs x.cps.toList (c1+2) r);rw[ZFH (ZGE _ _ _),Gp]
theorem Zrk (x:Str):∀(cs:List Nat) (a:Nat),(((a::cs.map (· + 2)).zip (cs++[x.length])).map fun p=>(Ya8 x p.1 p.2).cps.toList)=segs x.cps.toList a cs
 | [],a=>by
  have ln:x.length=x.cps.toList.length:=by rw[Hg]; rfl
  show [(Ya8 x a x.length).cps.toList]=[x.cps.toList.drop a];rw[YcE,Ub (by rw[JN]; omega)]
 | c::r,a=>by
  show(Ya8 x a c).cps.toList::_=(x.cps.toList.drop a).take (c - a)::segs x.cps.toList (c+2) r;rw[YcE];exact congrArg _ (Zrk x r (c+2))
theorem Ziw (x z:Str) (c d:Nat):(Txt.replace x ⟨#[c,d]⟩ z).cps.toList=rp2 c d z.cps.toList x.cps.toList:=by
 obtain⟨f,h1,h2⟩:=StrLaws.occ_tight x ⟨#[c,d]⟩ (by show 1≤2; decide);have key:=ZxK (z:=z.cps.toList) _ 0 f h1 h2 (De _);rw[jh]at key;have h10:((⟨#[c,d]⟩ : Str).length == 0)=false:=rfl;unfold Txt.replace;rw[h10,Yao,T4]
 cases he:(Hv x ⟨#[c,d]⟩ 0 x.length (x.length+1)).isEmpty
 ·rw[if_neg Dt,Ui,Tf,key]
  congr 1
  unfold Wf;rw[K9];exact Zrk x _ 0
 ·rw[if_pos rfl,key,List.isEmpty_iff.mp he]
  rfl
def Wd (p:List Nat):Prop:=p=[40]∨p=[41]∨(p≠[]∧∀c∈p,97≤c∧c≤122)
noncomputable def glue:List (List Nat)→List Nat
 | []=>[]
 | [p]=>p
 | p::q::r=>p++(if p=[40]∨q=[41] then [] else [32])++glue (q::r)
noncomputable def gl1:List (List Nat)→List Nat
 | []=>[]
 | [p]=>p
 | p::q::r=>p++(if p=[40] then [] else [32])++gl1 (q::r)
theorem Tn {c d:Nat} {z:List Nat}:∀{p r:List Nat},c∉p→rp2 c d z (p++r)=p++rp2 c d z r
 | [],r,_=>rfl
 | [a],[],_=>by
  show rp2 c d z [a]=[a]++rp2 c d z [];rfl
 | [a],b::r,h=>by
  have h0 : ¬(a=c∧b=d):=fun y=>h (by rw[y.1]; simp);show(if a=c∧b=d then z++rp2 c d z r else a::rp2 c d z (b::r))=_;rw[if_neg h0];rfl
 | a::b::p,r,h=>by
  have h0 : ¬(a=c∧b=d):=fun y=>h (by rw[y.1]; simp);have ih:=Tn (d:=d) (z:=z) (p:=b::p) (r:=r) fun y=>h (CW _ y);show(if a=c∧b=d then z++rp2 c d z (p++r) else a::rp2 c d z (b::p++r))=_;rw[if_neg h0,ih];rfl
theorem ZBs:∀ws:List (List Nat),(∀p∈ws,Wd p)→rp2 40 32 [40] (jn [32] ws)=gl1 ws
 | [],_=>rfl
 | [p],h=>by
  show rp2 40 32 [40] p=p
  rcases h p (by simp) with rfl | rfl | hp
  ·rfl
  ·rfl
  ·have:(40:Nat)∉p:=fun y=>by have:=hp.2 40 y; omega
   have:=Tn (d:=32) (z:=[40]) (r:=[]) this;rw[Es]at this;rw[this];exact Es _
 | p::q::r,h=>by
  have ih:=ZBs (q::r) fun y hy=>h y (CW _ hy);show rp2 40 32 [40] (p++[32]++jn [32] (q::r))=p++(if p=[40] then [] else [32])++gl1 (q::r)
  by_cases e:p=[40]
  ·subst e
   rw[if_pos rfl,Es,←ih];show(if (40:Nat)=40∧(32:Nat)=32 then [40]++rp2 40 32 [40] (jn [32] (q::r)) else _)=_;rw[if_pos ⟨rfl,rfl⟩]
  ·have hn:(40:Nat)∉p++[32]:=fun y=>by
    rcases Er.mp y with y | y
    ·rcases h p (by simp) with rfl | rfl | hp
     ·exact e rfl
     ·simp at y
     ·have:=hp.2 40 y; omega
    ·simp at y
   rw[if_neg e,Tn hn,ih]
theorem Zw8 {p:List Nat} {r:List (List Nat)} (hp:Wd p):∃l,gl1 (p::r)=p++l:=by
 cases r with
 | nil=>exact⟨[],(Es _).symm⟩
 | cons q r=>exact⟨_,Gp _ _ _⟩
theorem ZBt:∀ws:List (List Nat),(∀p∈ws,Wd p)→rp2 32 41 [41] (gl1 ws)=glue ws
 | [],_=>rfl
 | [p],h=>by
  show rp2 32 41 [41] p=p
  have:(32:Nat)∉p:=fun y=>by
   rcases h p (by simp) with rfl | rfl | hp
   ·simp at y
   ·simp at y
   ·have:=hp.2 32 y; omega
  have:=Tn (d:=41) (z:=[41]) (r:=[]) this;rw[Es]at this;rw[this];exact Es _
 | p::q::r,h=>by
  have ih:=ZBt (q::r) fun y hy=>h y (CW _ hy);have hq:=h q (by simp)
  have hp32:(32:Nat)∉p:=fun y=>by
   rcases h p (by simp) with rfl | rfl | hp
   ·simp at y
   ·simp at y
   ·have:=hp.2 32 y; omega
  show rp2 32 41 [41] (p++(if p=[40] then [] else [32])++gl1 (q::r))=p++(if p=[40]∨q=[41] then [] else [32])++glue (q::r);rw[Gp,Tn hp32,Gp]
  congr 1
  by_cases e:p=[40]
  ·rw[if_pos e,if_pos (.inl e),←ih]
   rfl
  ·rw[if_neg e]
   by_cases e2:q=[41]
   ·rw[if_pos (.inr e2)]
    subst e2;obtain⟨l,hl⟩:=Zw8 (r:=r) hq;rw[hl]at ih ⊢;show rp2 32 41 [41] (32::41::l)=_;rw[show rp2 32 41 [41] (32::41::l)=[41]++rp2 32 41 [41] l from by show(if (32:Nat)=32∧(41:Nat)=41 then _ else _)=_; rw[if_pos ⟨rfl,rfl⟩],←ih,Tn (p:=[41]) (by decide)];rfl
   ·rw[if_neg (by rintro(h' | h') <;> contradiction),←ih]
    obtain⟨l,hl⟩:=Zw8 (r:=r) hq;rw[hl]
    have hd:∃b q',q=b::q'∧b≠41:=by
     rcases hq with rfl | rfl | hq
     ·exact⟨40,[],rfl,by decide⟩
     ·exact absurd rfl e2
     ·cases q with
      | nil=>exact absurd rfl hq.1
      | cons b q'=>exact⟨b,q',rfl,fun y=>by have:=hq.2 b (by simp); omega⟩
    obtain⟨b,q',rfl,hb⟩:=hd;show(if (32:Nat)=32∧b=41 then _ else 32::rp2 32 41 [41] (b::(q'++l)))=_;rw[if_neg fun y=>hb y.2];rfl
theorem ZvL (x:Str) (ws:List (List Nat)) (hx:x.cps.toList=jn [32] ws) (h:∀p∈ws,Wd p):(Txt.replace (Txt.replace x ⟨#[40,32]⟩ ⟨#[40]⟩) ⟨#[32,41]⟩ ⟨#[41]⟩).cps.toList=glue ws:=by
 rw[Ziw,Ziw,hx];show rp2 32 41 [41] (rp2 40 32 [40] (jn [32] ws))=_;rw[ZBs ws h,ZBt ws h]
noncomputable def Je:W3→Str
 | .a=>" and "
 | .e=>" either "
 | .o=>" or "
noncomputable def DW:W3→Nat
 | .a=>1
 | .e=>2
 | .o=>3
noncomputable def J8:Fm→Nat
 | .join w _=>DW w
 | _=>0
noncomputable def brk (b:Bool) (z:Str):Str:=if b=true then BK++"("++z++")" else z
mutual
noncomputable def Dk (ns:List Str):Fm→Str
 | .lamp k=>ns.getD k BK
 | .sure b=>if b=true then "yes" else "no"
 | .neg f=>BK++"not "++brk (decide (1≤(J8 f))) (Dk ns f)
 | .join w fs=>Txt.join (Je w) (Ft ns (DW w) fs)
noncomputable def Ft (ns:List Str) (r:Nat):List Fm→List Str
 | []=>[]
 | f::fs=>brk (decide (r≤(J8 f))) (Dk ns f)::Ft ns r fs
end
noncomputable def JC (ns:List Str) (r:Nat) (f:Fm):Str:=brk (decide (r≤(J8 f))) (Dk ns f)
theorem Z8 (ns:List Str) (r:Nat):∀fs:List Fm,Ft ns r fs=fs.map (JC ns r)
 | []=>by simp[Ft]
 | f::fs=>by simp[Ft,Z8 ns r fs,JC]
theorem Zro (ns:List Str) (w:W3) (fs:List Fm):Dk ns (Fm.join w fs)=Txt.join (Je w) (fs.map (JC ns (DW w))):=by
 simp[Dk,Z8]
mutual
noncomputable def fWt:Fm→Nat
 | .lamp _=>1
 | .sure _=>1
 | .neg f=>1+fWt f
 | .join _ fs=>1+fWtL fs
noncomputable def fWtL:List Fm→Nat
 | []=>0
 | f::fs=>1+fWt f+fWtL fs
end
theorem ZJF {fs:List Fm} {f:Fm} (h:f∈fs):fWt f < fWtL fs:=by
 induction fs with
 | nil=>cases h
 | cons g gs ih=>
  rw[fWtL]
  rcases Bu.mp h with rfl | h
  ·omega
  ·have:=ih h
   omega
theorem ZES:∀fs:List Fm,fs.length≤fWtL fs
 | []=>De _
 | f::fs=>by rw[CT,fWtL]; have:=ZES fs; omega
theorem Zvx (b:Bool) (z:Str):(brk b z).length≤z.length+2:=by
 unfold brk
 split
 ·rw[Ce,Ce,Ce]
  have:Cq BK=0:=rfl
  have:Cq "(" = 1:=by decide +kernel
  have:Cq ")" = 1:=by decide +kernel
  omega
 ·omega
theorem Zu7 (w:W3):(Je w).length≤8:=by cases w <;> decide +kernel
theorem ZCx {ns:List Str} {B:Nat} (h:∀z∈ns,z.length≤B) (k:Nat):(ns.getD k BK).length≤B:=by
 rw[Gd]
 cases e:ns[k]? with
 | none=>exact De _
 | some z=>exact h z (Dm e)
mutual
theorem Vr {ns:List Str} (h:∀z∈ns,z.length≤20):∀f:Fm,(Dk ns f).length≤20 * fWt f
 | .lamp k=>by simp only [Dk,fWt]; exact ZCx h k
 | .sure b=>by cases b <;> simp only [Dk,fWt] <;> decide +kernel
 | .neg f=>by
  have a:=Vr h f;have b:=Zvx (decide (1≤(J8 f))) (Dk ns f)
  have c:Cq "not " = 4:=by decide +kernel
  have d:Cq BK=0:=rfl;simp only [Dk,fWt];rw[Ce,Ce];omega
 | .join w fs=>by
  have a:=Zng h (DW w) fs;have b:=Zu7 w;simp only [Dk,fWt]
  have c:(Txt.join (Je w) (Ft ns (DW w) fs)).length≤((Ft ns (DW w) fs).map (·.length)).sum+(Ft ns (DW w) fs).length * (Je w).length:=by
   show(Wn _ _).length≤_;rw[Ui];exact Ya9 _ _
  have d:(Ft ns (DW w) fs).length * (Je w).length≤(Ft ns (DW w) fs).length * 8:=Wo _ b;omega
theorem Zng {ns:List Str} (h:∀z∈ns,z.length≤20) (r:Nat):∀fs:List Fm,((Ft ns r fs).map (·.length)).sum+(Ft ns r fs).length * 8≤20 * fWtL fs
 | []=>by simp[Ft]
 | f::fs=>by
  have a:=Vr h f;have b:=Zvx (decide (r≤(J8 f))) (Dk ns f);have c:=Zng h r fs;simp only [Ft,fWtL,Dq,jz,CT];omega
end
theorem ZtW {ns:List Str} (h:∀z∈ns,z.length≤20) (w:W3) (fs:List Fm) (hw:fWtL fs≤1000):Kp (Je w) (fs.map (JC ns (DW w)))=true:=by
 rw[←Z8];unfold Kp j0;rw[j4];have a:=Zng h (DW w) fs;have b:=Zu7 w;have d:(Ft ns (DW w) fs).length * (Je w).length≤(Ft ns (DW w) fs).length * 8:=Wo _ b;rw[decide_eq_false (j5.mpr (Ca (by omega)))];rfl
section
variable {P:Bp} {w:Bg} {K:Ao} {mg:Str→Option Ae} {base:Aq} {t:Ad} {n:Nat}
noncomputable def ZGP (t:Ad):Sp:=fun vs H Q _=>∃(p:Ab) (f:Fm) (n:Nat),vs=[.ref p]∧FmAt t H (n+1) p f∧Q (.int (J8 f:Int)) H
theorem Zks (T:Txt K mg t):∀C,isFm t C→MeS P w K mg base 1 C "looseness" ["self"] (spAt (ZGP t) C):=by
 rintro C (rfl | rfl | rfl | rfl | rfl | rfl)
 ·refine⟨T.Jd,_,_,T.Jw.ok Zdn (fun vs H Q E h=>?_) (fun cdv A outer s H vs Q E hr h=>?_),T.ZL,T.ZiS⟩
  ·obtain⟨⟨p,f,n,rfl,_⟩,_⟩:=h
   rfl
  ·obtain⟨⟨p,f,n,rfl,hf,q⟩,a,dx,fs,r,e,ea⟩:=h
   cases e
   obtain⟨k,rfl,rfl⟩:=hf.lamp T ea;refine⟨_,(Ah (Av Ag)),?_⟩;walk_at "rd0";exact q
 ·refine⟨T.HW,_,_,T.Jw.ok Zdn (fun vs H Q E h=>?_) (fun cdv A outer s H vs Q E hr h=>?_),T.ZL,T.ZiT⟩
  ·obtain⟨⟨p,f,n,rfl,_⟩,_⟩:=h
   rfl
  ·obtain⟨⟨p,f,n,rfl,hf,q⟩,a,dx,fs,r,e,ea⟩:=h
   cases e
   obtain⟨b,rfl,rfl⟩:=hf.sure T ea;refine⟨_,(Ah (Av Ag)),?_⟩;walk_at "rd0";exact q
 ·refine⟨T.c_Not,_,_,T.Jw.ok Zdn (fun vs H Q E h=>?_) (fun cdv A outer s H vs Q E hr h=>?_),T.ZL,T.Zjf⟩
  ·obtain⟨⟨p,f,n,rfl,_⟩,_⟩:=h
   rfl
  ·obtain⟨⟨p,f,n,rfl,hf,q⟩,a,dx,fs,r,e,ea⟩:=h
   cases e
   obtain⟨g,p2,rfl,rfl,hg⟩:=hf.neg T ea;refine⟨_,(Ah (Av Ag)),?_⟩;walk_at "rd0";exact q
 ·refine⟨T.c_And,_,_,T.R7.ok Zn7 (fun vs H Q E h=>?_) (fun cdv A outer s H vs Q E hr h=>?_),T.ZiZ,T.Zja⟩
  ·obtain⟨⟨p,f,n,rfl,_⟩,_⟩:=h
   rfl
  ·obtain⟨⟨p,f,n,rfl,hf,q⟩,a,dx,fs,r,e,ea⟩:=h
   cases e
   obtain⟨gs,tp,ps,rfl,rfl,htp,hg⟩:=hf.join (w:=.a) T ea;refine⟨_,(Ah (Av Ag)),?_⟩;walk_at "rd0";exact q
 ·refine⟨T.HX,_,_,T.Sh.ok Zly (fun vs H Q E h=>?_) (fun cdv A outer s H vs Q E hr h=>?_),T.ZgC,T.Zg1⟩
  ·obtain⟨⟨p,f,n,rfl,_⟩,_⟩:=h
   rfl
  ·obtain⟨⟨p,f,n,rfl,hf,q⟩,a,dx,fs,r,e,ea⟩:=h
   cases e
   obtain⟨gs,tp,ps,rfl,rfl,htp,hg⟩:=hf.join (w:=.e) T ea;refine⟨_,(Ah (Av Ag)),?_⟩;walk_at "rd0";exact q
 ·refine⟨T.c_Or,_,_,T.Sv.ok ZpR (fun vs H Q E h=>?_) (fun cdv A outer s H vs Q E hr h=>?_),T.ZkA,T.ZkH⟩
  ·obtain⟨⟨p,f,n,rfl,_⟩,_⟩:=h
   rfl
  ·obtain⟨⟨p,f,n,rfl,hf,q⟩,a,dx,fs,r,e,ea⟩:=h
   cases e
   obtain⟨gs,tp,ps,rfl,rfl,htp,hg⟩:=hf.join (w:=.o) T ea;refine⟨_,(Ah (Av Ag)),?_⟩;walk_at "rd0";exact q
def isJn (t:Ad) (C:Ab):Prop:=∃w,C=cw t w
noncomputable def ZBD (t:Ad):Sp:=fun vs H Q _=>∃(p dx:Ab) (fs:List (Str×V)) (w:W3),vs=[.ref p]∧H p=some (.ins (cw t w) dx fs)∧Q (.str (Je w)) H
theorem ZsX (T:Txt K mg t):∀C,isJn t C→MeS P w K mg base 1 C "between" ["self"] (spAt (ZBD t) C):=by
 rintro C ⟨v,rfl⟩
 cases v
 ·refine⟨T.c_And,_,_,T.R8.ok ZqL (fun vs H Q E h=>?_) (fun cdv A outer s H vs Q E hr h=>?_),T.ZlG,T.ZlW⟩
  ·obtain⟨⟨p,dx,fs,w,rfl,_⟩,_⟩:=h
   rfl
  ·obtain⟨⟨p,dx,fs,w,rfl,hp,q⟩,a,dx',fs',r,e,ea⟩:=h
   cases e
   rw[ea]at hp;have e1:cw t .a=cw t w:=(HO.ins.inj (Dl hp)).1;obtain rfl:=ZV T e1;refine⟨_,(Ah (Av Am)),?_⟩;walk_at "rd0";exact q
 ·refine⟨T.HX,_,_,T.Sq.ok Znf (fun vs H Q E h=>?_) (fun cdv A outer s H vs Q E hr h=>?_),T.ZiO,T.ZiR⟩
  ·obtain⟨⟨p,dx,fs,w,rfl,_⟩,_⟩:=h
   rfl
  ·obtain⟨⟨p,dx,fs,w,rfl,hp,q⟩,a,dx',fs',r,e,ea⟩:=h
   cases e
   rw[ea]at hp;have e1:cw t .e=cw t w:=(HO.ins.inj (Dl hp)).1;obtain rfl:=ZV T e1;refine⟨_,(Ah (Av Am)),?_⟩;walk_at "rd0";exact q
 ·refine⟨T.c_Or,_,_,T.Sw.ok ZsI (fun vs H Q E h=>?_) (fun cdv A outer s H vs Q E hr h=>?_),T.Zno,T.ZnA⟩
  ·obtain⟨⟨p,dx,fs,w,rfl,_⟩,_⟩:=h
   rfl
  ·obtain⟨⟨p,dx,fs,w,rfl,hp,q⟩,a,dx',fs',r,e,ea⟩:=h
   cases e
   rw[ea]at hp;have e1:cw t .o=cw t w:=(HO.ins.inj (Dl hp)).1;obtain rfl:=ZV T e1;refine⟨_,(Ah (Av Am)),?_⟩;walk_at "rd0";exact q
noncomputable def ZKa (t:Ad):Sp:=fun vs H Q _=>∃(p:Ab) (f:Fm) (n r:Nat) (z:Str),vs=[.ref p,.str z,.int (r:Int)]∧FmAt t H (n+1) p f∧z.length≤900000∧Q (.str (brk (decide (r≤J8 f)) z)) H
theorem ZnP (T:Txt K mg t):FnS P w K mg base 2 "bracketed" ["part","text","bound"] ((ZKa t)):=by
 refine⟨_,_,T.QT.ok ZuT (fun vs H Q E h=>?_) (fun cdv A outer s H vs Q E hr h=>?_),T.ZoG,T.QT.kp,T.Zpo⟩
 ·obtain⟨p,f,n,r,z,rfl,hf,hz,q⟩:=h
  rfl
 obtain⟨p,f,n,r,z,rfl,hf,hz,q⟩:=h;have D_looseness:=Zks (P:=P) (w:=w) (base:=base) T;obtain⟨C,dx',fs',e',hC,hl⟩:=hf.ins "looseness" (by decide +kernel) (by decide +kernel) (by decide +kernel) (by decide +kernel);have l0:Cq BK=0:=rfl
 have l1:Cq "(" = 1:=by decide +kernel
 have l2:Cq ")" = 1:=by decide +kernel
 refine⟨_,(Ah (Av (Lg (Ay Us (Ou D_looseness hr (pv 0)) (pv 2) (Bd _)) (W4 (J0 Am (J0 (ue (pv 1)) (J0 Am W2)))) (pv 1)))),?_⟩;walk_at "rd0";refine⟨p,C,dx',fs',rfl,e',hC,hl,?_⟩;walk_at "";refine⟨e',p,f,n,rfl,hf,?_⟩;walk_at "";refine Di (fun h=>?_) (fun h=>?_)
 ·rw[decide_eq_true (by omega)]at q
  walk_at "";refine⟨_,rfl,Ca (by rw[Ce]; omega),?_⟩;walk_at "";refine⟨_,rfl,Ca (by omega),_,rfl,Ca (by rw[Ce,Ce]; omega),?_⟩;walk_at "";refine⟨_,rfl,Ca (by rw[Ce,Ce,Ce]; omega),?_⟩;refine i_jn (by rw[Ce,Ce,Ce]; omega) ?_;exact q
 ·rw[decide_eq_false (by omega)]at q
  walk_at "";exact q
noncomputable def KZ (t:Ad) (n:Nat):Sp:=fun vs H Q _=>∃(p nl:Ab) (f:Fm) (ns:List Str),vs=[.ref p,.ref nl]∧FmAt t H n p f∧H nl=some (.lst (ns.map V.str))∧(∀z∈ns,z.length≤20)∧f.low ns.length=true∧fWt f≤1000∧∀H',Same H H'→Q (.str (Dk ns f)) H'
theorem Zsk (T:Txt K mg t):MeS P w K mg base (n+3) t.CK "shown" ["self","names"] (spAt (KZ t (n+1)) t.CK):=by
 refine⟨T.Jd,_,_,T.RZ.ok ZsG (fun vs H Q E h=>?_) (fun cdv A outer s H vs Q E hr h=>?_),T.Zi2,T.Zjd⟩
 ·obtain⟨⟨p,nl,f,ns,rfl,_⟩,_⟩:=h
  rfl
 ·obtain⟨⟨p,nl,f,ns,rfl,hf,hn,h20,hlow,hwt,q⟩,a,dx,fs,r,e,ea⟩:=h
  cases e
  obtain⟨k,rfl,rfl⟩:=hf.lamp T ea;simp only [Fm.low,decide_eq_true_iff]at hlow;refine⟨_,(Ah (Av (Bm Bo (pv 1) (Cj (pv 0) rfl) (fun _ _=>rfl)))),?_⟩;walk_at "rd0";refine⟨p,_,_,_,_,rfl,ea,T.Jd,T.S7,lk1 _ _,?_⟩;walk_at "";refine By (v:=.str (ns.getD k BK)) hn (by rw[El,Gd,Dr hlow]; rfl) ?_;have:=q H (Same.refl _)
  simpa only [Dk] using this
theorem Zsn (T:Txt K mg t):MeS P w K mg base (n+3) t.CN "shown" ["self","names"] (spAt (KZ t (n+1)) t.CN):=by
 refine⟨T.HW,_,_,T.R3.ok ZsL (fun vs H Q E h=>?_) (fun cdv A outer s H vs Q E hr h=>?_),T.Zi6,T.Zji⟩
 ·obtain⟨⟨p,nl,f,ns,rfl,_⟩,_⟩:=h
  rfl
 ·obtain⟨⟨p,nl,f,ns,rfl,hf,hn,h20,hlow,hwt,q⟩,a,dx,fs,r,e,ea⟩:=h
  cases e
  obtain⟨b,rfl,rfl⟩:=hf.sure T ea;have q':=q H (Same.refl _);simp only [Dk]at q';refine⟨_,(Ah (Av (Lg (DX (Cj (pv 0) rfl) (fun _=>rfl)) Am Am))),?_⟩;walk_at "rd0";refine⟨p,_,_,_,_,rfl,ea,T.HW,T.Nv,lk1 _ _,?_⟩;walk_at "";refine JX (fun h=>?_) (fun h=>?_)
  ·rw[if_pos h]at q'
   walk_at "";exact q'
  ·rw[if_neg (by rw[h]; decide)]at q'
   walk_at "";exact q'
theorem ZuD (T:Txt K mg t) (D_shown:∀C,isFm t C→MeS P w K mg base (n+2) C "shown" ["self","names"] (spAt (KZ t n) C)):MeS P w K mg base (n+3) t.C_Not "shown" ["self","names"] (spAt (KZ t (n+1)) t.C_Not):=by
 refine⟨T.c_Not,_,_,T.R6.ok ZnV (fun vs H Q E h=>?_) (fun cdv A outer s H vs Q E hr h=>?_),T.Zk2,T.Zla⟩
 ·obtain⟨⟨p,nl,f,ns,rfl,_⟩,_⟩:=h
  rfl
 ·obtain⟨⟨p,nl,f,ns,rfl,hf,hn,h20,hlow,hwt,q⟩,a,dx,fs,r,e,ea⟩:=h
  cases e
  obtain⟨g,p',rfl,rfl,hg⟩:=hf.neg T ea;simp only [Fm.low]at hlow;simp only [fWt]at hwt;have ZkT:=ZnP (P:=P) (w:=w) (base:=base) T;obtain⟨C,dx',fs',e',hC,hl⟩:=hg.ins "shown" (by decide +kernel) (by decide +kernel) (by decide +kernel) (by decide +kernel);have hsl:=Vr h20 g;have hbl:=Zvx (decide (1≤J8 g)) (Dk ns g);have l0:Cq BK=0:=rfl
  have l1:Cq "not " = 4:=by decide +kernel
  refine⟨_,(Ai (ss 2 ZnV.nd (Bj ZkT hr (Ac (Cj (pv 0) rfl) (Ac (Eb D_shown hr (Cj (pv 0) rfl) (Ac (pv 1) Af)) (Ac Ag Af)))))
   (Ah (Av (W4 (J0 Am (J0 (ue (pv 2)) W2)))))),?_⟩
  walk_at "rd0";refine⟨p,_,_,_,_,rfl,ea,T.c_Not,T.KJ,lk1 _ _,?_⟩;walk_at "";refine⟨p,_,_,_,_,rfl,ea,T.c_Not,T.KJ,lk1 _ _,?_⟩;walk_at "";refine⟨p',C,dx',fs',rfl,e',hC,hl,?_⟩;walk_at "";refine⟨e',p',nl,g,ns,rfl,hg,hn,h20,hlow,by omega,fun H1 s1=>?_⟩;walk_at ""
  cases n with
  | zero=>exact hg.elim
  | succ n=>
   refine⟨p',g,n,1,_,rfl,FmAt.mono (Ext.of s1) hg,by omega,?_⟩;walk_at "";refine⟨_,rfl,Ca (by rw[Ce]; omega),?_⟩;walk_at "";refine⟨_,rfl,Ca (by omega),_,rfl,Ca (by rw[Ce,Ce]; omega),?_⟩;refine i_jn (by rw[Ce,Ce]; omega) ?_;have:=q H1 s1
   simpa only [Dk] using this
theorem Zgt {v:W3} (T:Txt K mg t) (cl:Cls K (cw t v)) (na:Dn K (cw t v) "parts") (me:Meth K (cw t v) "shown" t.HS) (D_shown:∀C,isFm t C→MeS P w K mg base (n+2) C "shown" ["self","names"] (spAt (KZ t n) C)):MeS P w K mg base (n+3) (cw t v) "shown" ["self","names"] (spAt (KZ t (n+1)) (cw t v)):=by
 refine⟨cl,_,_,T.KH.ok Zgz (fun vs H Q E h=>?_) (fun cdv A outer s H vs Q E hr h=>?_),T.Vg,me⟩
 ·obtain⟨⟨p,nl,f,ns,rfl,_⟩,_⟩:=h
  rfl
 ·obtain⟨⟨p,nl,f,ns,rfl,hf,hn,h20,hlow,hwt,q⟩,a,dx,fs,r,e,ea⟩:=h
  cases e
  obtain⟨gs,tp,ps,rfl,rfl,htp,hg⟩:=hf.join T ea;rw[Zxn,GK]at hlow;simp only [fWt]at hwt;have ZkT:=ZnP (P:=P) (w:=w) (base:=base) T;have D_looseness:=Zks (P:=P) (w:=w) (base:=base) T;have D_between:=ZsX (P:=P) (w:=w) (base:=base) T;obtain⟨C0,dx0,fs0,e0,hC0,hl0⟩:=hf.ins "looseness" (by decide +kernel) (by decide +kernel) (by decide +kernel) (by decide +kernel)
  refine⟨_,(Ai (ss 2 Zgz.nd (Br Af))
   (Ai (Dd Cz rfl (Et (Cj (pv 0) rfl)) (sg 3 Zgz.nd)
   (Ah (Dc (CG Ds Eg Em Ea (pv 2) (Ac (Bj ZkT hr (Ac (pv 3) (Ac (Eb D_shown hr (pv 3) (Ac (pv 1) Af)) (Ac (Ou D_looseness hr (pv 0)) Af)))) Af)))))
   (Ah (Av (CG HB Ld Le KC (Ou D_between hr (pv 0)) (Ac (pv 2) Af)))))),?_⟩
  walk_at "rd0";refine BR (by simp) fun tl H1 s1 n1 e1=>?_;walk_at "";refine⟨p,_,_,_,_,rfl,s1 _ _ ea,cl,na,lk1 _ _,?_⟩;refine seqT (xs:=ps.map V.ref) (fun i σ H'=>Same H H'∧H' tl=some (.lst (((gs.take i).map (JC ns (DW v))).map V.str))∧∃v3,σ=[some (.ref p),some (.ref nl),some (.ref tl),v3]) ⟨s1,e1,_,rfl⟩ (fun i σ H' _ hp=>by obtain⟨s2,_⟩:=hp; exact SqT.of (s2 _ _ htp)) ?_ ?_
  ·rintro i x σ H2 hx ⟨s2,e2,v3,rfl⟩
   obtain⟨p',rfl,hx'⟩:=FQ hx;obtain⟨g,hgi,hf'⟩:=Ib hg hx';have hgm:=Dm hgi;have hgw:=ZJF hgm;have hsl:=Vr h20 g;have hf2:=FmAt.mono (Ext.of s2) hf';obtain⟨C,dx',fs',e',hC,hl⟩:=hf2.ins "shown" (by decide +kernel) (by decide +kernel) (by decide +kernel) (by decide +kernel);walk_at "";refine⟨tyL e2,?_⟩;walk_at "";refine⟨p',C,dx',fs',rfl,e',hC,hl,?_⟩;walk_at "";refine⟨e',p',nl,g,ns,rfl,hf2,s2 _ _ hn,h20,hlow g hgm,by omega,fun H3 s3=>?_⟩;walk_at "";refine⟨p,C0,dx0,fs0,rfl,s3 _ _ (s2 _ _ e0),hC0,hl0,?_⟩;walk_at "";have hfj:=FmAt.mono (Ext.of (s2.trans s3)) hf;refine⟨s3 _ _ (s2 _ _ e0),p,_,n,rfl,hfj,?_⟩;walk_at ""
   cases n with
   | zero=>exact hf'.elim
   | succ n=>
    refine⟨p',g,n,DW v,_,rfl,FmAt.mono (Ext.of s3) hf2,by omega,?_⟩;walk_at "";refine Eu (s3 _ _ e2) (by rw[Ax,Ax,Gu]; have:=ZES gs; omega) fun H4 b4 e4=>?_;walk_at "";refine⟨b4.same n1 (s2.trans s3),?_,_,rfl⟩;rw[Ff hgi,Cp,Cp];exact e4
  ·rintro σ H2 ⟨s2,e2,v3,rfl⟩
   rw[Ax,Dj hg,Fw]at e2;walk_at "";refine⟨p,_,dx,_,rfl,s2 _ _ ea,⟨v,rfl⟩,lk0 _ (by decide +kernel),?_⟩;walk_at "";refine⟨s2 _ _ ea,p,dx,_,v,rfl,s2 _ _ ea,?_⟩;walk_at "";refine⟨tyS,?_⟩;walk_at "";refine⟨_,tl,_,rfl,rfl,SqL.of e2,ZtW h20 v gs (by omega),?_⟩;have:=q H2 s2;rw[Zro]at this;exact this
theorem Tp {k:Nat} {C f:Ab} {fd:Bc} {m:Str} {ps:List Str} {sp:Sp} (no:∀vs H Q E,¬sp vs H Q E) (c:Cls K C) (b:Be K fd ps []) (h:Meth K C m f):MeS P w K mg base k C m ps sp:=
 ⟨c,f,fd,⟨fun vs H Q E h=>absurd h (no vs H Q E),fun A outer s H args us vs Q E _ _ _ _ h=>absurd h (no vs H Q E)⟩,b,h⟩
theorem Zmx (T:Txt K mg t):∀n:Nat,∀C,isFm t C→MeS P w K mg base (n+2) C "shown" ["self","names"] (spAt (KZ t n) C)
 | 0=>by
  have no:∀C vs H Q E,¬spAt (KZ t 0) C vs H Q E:=fun C vs H Q E h=>by
   obtain⟨⟨p,nl,f,ns,_,h,_⟩,_⟩:=h;exact h
  rintro C (rfl | rfl | rfl | rfl | rfl | rfl)
  ·exact Tp (no _) T.Jd T.Zi2 T.Zjd
  ·exact Tp (no _) T.HW T.Zi6 T.Zji
  ·exact Tp (no _) T.c_Not T.Zk2 T.Zla
  ·exact Tp (no _) T.c_And T.Vg T.Zk7
  ·exact Tp (no _) T.HX T.Vg T.Zhk
  ·exact Tp (no _) T.c_Or T.Vg T.ZmR
 | n+1=>by
  have ih:=Zmx T n;rintro C (rfl | rfl | rfl | rfl | rfl | rfl)
  ·exact Zsk T
  ·exact Zsn T
  ·exact ZuD T ih
  ·exact Zgt (v:=.a) T T.c_And T.Nx T.Zk7 ih
  ·exact Zgt (v:=.e) T T.HX T.Ny T.Zhk ih
  ·exact Zgt (v:=.o) T T.c_Or T.Nz T.ZmR ih
end
inductive Tr where
 | lamp (k:Nat)
 | sure (b:Bool)
 | neg (t:Tr)
 | wrap (t:Tr)
 | join (w:W3) (ts:List Tr)
mutual
noncomputable def fmT (π:Nat→Nat):Tr→Fm
 | .lamp k=>.lamp (π k)
 | .sure b=>.sure b
 | .neg t=>.neg (fmT π t)
 | .wrap t=>fmT π t
 | .join w ts=>.join w (fmTL π ts)
noncomputable def fmTL (π:Nat→Nat):List Tr→List Fm
 | []=>[]
 | t::ts=>fmT π t::fmTL π ts
end
noncomputable def rkG (b:Bool):Tr→Nat
 | .wrap t=>if b=true then 0 else rkG b t
 | .join w _=>DW w
 | _=>0
noncomputable def brW (b:Bool) (ws:List Str):List Str:=if b=true then "("::(ws++([")"]:List Str)) else ws
noncomputable def jnW (k:Str):List (List Str)→List Str
 | []=>[]
 | [p]=>p
 | p::q::r=>p++k::jnW k (q::r)
mutual
noncomputable def wdG (b:Bool) (ns:List Str):Tr→List Str
 | .lamp k=>[ns.getD k BK]
 | .sure c=>[if c=true then "yes" else "no"]
 | .neg t=>"not"::brW (decide (1≤rkG b t)) (wdG b ns t)
 | .wrap t=>brW b (wdG b ns t)
 | .join w ts=>jnW (kw3 w) (wdGL b ns (DW w) ts)
noncomputable def wdGL (b:Bool) (ns:List Str) (r:Nat):List Tr→List (List Str)
 | []=>[]
 | t::ts=>brW (decide (r≤rkG b t)) (wdG b ns t)::wdGL b ns r ts
end
mutual
noncomputable def okT (m:Nat):Tr→Bool
 | .lamp k=>decide (k < m)
 | .sure _=>true
 | .neg t=>okT m t
 | .wrap t=>okT m t
 | .join _ ts=>decide (2≤ts.length) && okTL m ts
noncomputable def okTL (m:Nat):List Tr→Bool
 | []=>true
 | t::ts=>okT m t && okTL m ts
end
theorem Zw6 (π:Nat→Nat):∀ts:List Tr,(fmTL π ts).length=ts.length
 | []=>rfl
 | _::ts=>congrArg (· + 1) (Zw6 π ts)
def ZHn (v:W3) (L:Lv):Prop:=L.nots=0∧L.lack=true∧(v≠.a→L.ands=[])∧(v=.o→L.eithers=[])
noncomputable def cl0:W3→Lv→List Fm
 | .a,L=>L.ands
 | .e,L=>L.eithers
 | .o,L=>L.ors
noncomputable def cl:W3→Lv→List Fm
 | .a,L=>L.ands
 | .e,L=>L.eithers++[Ep .a L.ands]
 | .o,L=>L.ors++[Ep .e (L.eithers++[Ep .a L.ands])]
def up3 (v:W3) (L L':Lv):Prop:=(v=.a→L'.eithers=L.eithers)∧(v≠.o→L'.ors=L.ors)
def D0 (ns:List Str) (ws:List Str) (f:Fm):Prop:=∀(L:Lv) (R:List Lv),L.lack=true→runW ns (L::R) ws=some (L.part f::R)
def Pw (ns:List Str) (v:W3) (ws:List Str) (fs:List Fm):Prop:=∀(L:Lv) (R:List Lv),ZHn v L→∃L',runW ns (L::R) ws=some (L'::R)∧L'.lack=false∧L'.nots=0∧cl v L'=cl0 v L++fs∧up3 v L L'
def Ww (ns:List Str) (ws:List Str) (f:Fm):Prop:=∀R:List Lv,∃L',runW ns (Lv.new::R) ws=some (L'::R)∧L'.lack=false∧L'.whole=f
theorem D0.a {ns ws:List Str} {f:Fm} (h:D0 ns ws f):Pw ns .a ws [f]:=fun L R c=>⟨L.part f,h L R c.2.1,rfl,rfl,by show L.ands++[negs L.nots f]=_; rw[c.1]; rfl,fun _=>rfl,fun _=>rfl⟩
theorem Pw.ae {ns ws:List Str} {fs:List Fm} {f:Fm} (h:Pw ns .a ws fs) (e:Ep .a fs=f):Pw ns .e ws [f]:=fun L R c=>by
 obtain⟨L',h1,h2,h3,h4,h5⟩:=h L R ⟨c.1,c.2.1,fun z=>absurd rfl z,fun z=>nomatch z⟩
 have ha:L'.ands=fs:=by
  have:L'.ands=L.ands++fs:=h4;rw[this,c.2.2.1 (by decide)];rfl
 refine⟨L',h1,h2,h3,?_,(fun z=>nomatch z),fun z=>h5.2 (by decide)⟩;show L'.eithers++[Ep .a L'.ands]=L.eithers++[f];rw[h5.1 rfl,ha,e]
theorem Pw.eo {ns ws:List Str} {fs:List Fm} {f:Fm} (h:Pw ns .e ws fs) (e:Ep .e fs=f):Pw ns .o ws [f]:=fun L R c=>by
 obtain⟨L',h1,h2,h3,h4,h5⟩:=h L R ⟨c.1,c.2.1,fun _=>c.2.2.1 (by decide),fun z=>nomatch z⟩
 have he:L'.eithers++[Ep .a L'.ands]=fs:=by
  have:L'.eithers++[Ep .a L'.ands]=L.eithers++fs:=h4;rw[this,c.2.2.2 rfl];rfl
 refine⟨L',h1,h2,h3,?_,(fun z=>nomatch z),fun z=>absurd rfl z⟩;show L'.ors++[Ep .e (L'.eithers++[Ep .a L'.ands])]=L.ors++[f];rw[h5.2 (by decide),he,e]
theorem Pw.w {ns ws:List Str} {fs:List Fm} {f:Fm} (h:Pw ns .o ws fs) (e:Ep .o fs=f):Ww ns ws f:=fun R=>by
 obtain⟨L',h1,h2,h3,h4,h5⟩:=h Lv.new R ⟨rfl,rfl,fun _=>rfl,fun _=>rfl⟩;refine⟨L',h1,h2,?_⟩;have:L'.ors++[Ep .e (L'.eithers++[Ep .a L'.ands])]=fs:=h4;show Ep .o (L'.ors++[Ep .e (L'.eithers++[Ep .a L'.ands])])=f;rw[this,e]
theorem ZFN (v:W3):Th (kw3 v)=some v:=by cases v <;> decide
theorem ZIc (v:W3):kw3 v≠"("∧kw3 v≠")":=by cases v <;> decide
theorem ZBT {ns:List Str} {L:Lv} {R:List Lv} (v:W3) (h:L.lack=false):Dz ns (L::R) (kw3 v)=some (L.join v::R):=by
 have hw:L.word ns (kw3 v)=some (L.join v):=by
  unfold Lv.word;rw[if_neg (by rw[h]; decide),ZFN];rfl
 have h1 : ¬(kw3 v = "("∧L.lack=true):=fun y=>(ZIc v).1 y.1
 cases R with
 | nil=>simp only [Dz]; rw[if_neg h1,hw]; rfl
 | cons M R=>simp only [Dz]; rw[if_neg h1,if_neg fun y=>(ZIc v).2 y.1,hw]; rfl
theorem Vs {ns:List Str} {S S':List Lv} {z:Str} {r:List Str} (h:Dz ns S z=some S'):runW ns S (z::r)=runW ns S' r:=by
 show(Dz ns S z).bind _=_;rw[h];rfl
theorem Pw.join {ns:List Str} {v:W3}:∀{txs:List (List Str)} {fs:List Fm},txs≠[]→Bs (fun tx f=>Pw ns v tx [f]) txs fs→Pw ns v (jnW (kw3 v) txs) fs:=by
 intro txs fs n h;induction h with
 | nil=>exact absurd rfl n
 | @cons tx f r fs h t ih=>
  cases r with
  | nil=>cases t; exact h
  | cons ty r=>
  intro L R c;obtain⟨L1,a1,a2,a3,a4,a5⟩:=h L R c;have ih:=ih (by simp)
  have c1:ZHn v (L1.join v):=by
   refine⟨?_,?_,fun hv=>?_,fun hv=>?_⟩
   ·cases v <;> exact a3
   ·cases v <;> rfl
   ·cases v
    ·exact absurd rfl hv
    ·rfl
    ·rfl
   ·subst hv; rfl
  have e0:cl0 v (L1.join v)=cl v L1:=by cases v <;> rfl
  obtain⟨L2,b1,b2,b3,b4,b5⟩:=ih (L1.join v) R c1;refine⟨L2,?_,b2,b3,?_,?_,?_⟩
  ·show runW ns (L::R) (tx++kw3 v::jnW (kw3 v) (ty::r))=_
   rw[Vq,a1];show runW ns (L1::R) (kw3 v::jnW (kw3 v) (ty::r))=_;rw[Vs (ZBT v a2)];exact b1
  ·rw[b4,e0,a4,Gp]
   rfl
  ·intro hv
   subst hv;exact(b5.1 rfl).trans (a5.1 rfl)
  ·intro hv
   refine(b5.2 hv).trans ?_
   have:(L1.join v).ors=L1.ors:=by
    cases v
    ·rfl
    ·rfl
    ·exact absurd rfl hv
   rw[this];exact a5.2 hv
theorem D0.br {ns ws:List Str} {f:Fm} (h:Ww ns ws f):D0 ns ("("::(ws++([")"]:List Str))) f:=fun L R hl=>by
 obtain⟨L',h1,h2,h3⟩:=h (L::R)
 have s1:Dz ns (L::R) "(" = some (Lv.new::L::R):=by simp only [Dz]; rw[if_pos ⟨trivial,hl⟩]
 rw[Vs s1,Vq,h1];show runW ns (L'::L::R) [")"]=_
 have s2:Dz ns (L'::L::R) ")" = some (L.part L'.whole::R):=by
  simp only [Dz];rw[if_neg (by rintro⟨y,_⟩; exact absurd y (by decide)),if_pos ⟨trivial,h2⟩]
 rw[Vs s2,h3];rfl
theorem D0.one {ns:List Str} {z:Str} {f:Fm} (h:KR ns z=some f) (h1:z≠"(") (h2:z≠")") (h3:z≠"not"):D0 ns [z] f:=fun L R hl=>by
 have hw:L.word ns z=some (L.part f):=by
  unfold Lv.word;rw[if_pos hl,if_neg h3,h];rfl
 have s1:Dz ns (L::R) z=some (L.part f::R):=by
  cases R with
  | nil=>simp only [Dz]; rw[if_neg fun y=>h1 y.1,hw]; rfl
  | cons M R=>simp only [Dz]; rw[if_neg fun y=>h1 y.1,if_neg fun y=>h2 y.1,hw]; rfl
 rw[Vs s1];rfl
theorem ZAO (n:Nat) (f:Fm):negs n (.neg f)=negs (n+1) f:=by
 induction n with
 | zero=>rfl
 | succ n ih=>show Fm.neg (negs n (.neg f))=_; rw[ih]; rfl
theorem D0.not {ns ws:List Str} {f:Fm} (h:D0 ns ws f):D0 ns ("not"::ws) (.neg f):=fun L R hl=>by
 have hw:L.word ns "not" = some ⟨L.nots+1,L.ands,L.eithers,L.ors,L.lack⟩:=by
  unfold Lv.word;rw[if_pos hl,if_pos rfl]
 have s1:Dz ns (L::R) "not" = some (⟨L.nots+1,L.ands,L.eithers,L.ors,L.lack⟩::R):=by
  cases R with
  | nil=>simp only [Dz]; rw[if_neg (by rintro⟨y,_⟩; exact absurd y (by decide)),hw]; rfl
  | cons M R=>simp only [Dz]; rw[if_neg (by rintro⟨y,_⟩; exact absurd y (by decide)),if_neg (by rintro⟨y,_⟩; exact absurd y (by decide)),hw]; rfl
 rw[Vs s1,h ⟨L.nots+1,L.ands,L.eithers,L.ors,L.lack⟩ R hl];unfold Lv.part;rw[ZAO]
structure GoodT (ns' ns:List Str) (π:Nat→Nat) (t:Tr):Prop where
 z:rkG true t=0→D0 ns' (wdG true ns t) (fmT π t)
 e:rkG true t≤1→Pw ns' .e (wdG true ns t) [fmT π t]
 o:rkG true t≤2→Pw ns' .o (wdG true ns t) [fmT π t]
 w:Ww ns' (wdG true ns t) (fmT π t)
theorem GoodT.of0 {ns' ns:List Str} {π:Nat→Nat} {t:Tr} (h:D0 ns' (wdG true ns t) (fmT π t)):GoodT ns' ns π t:=⟨fun _=>h,fun _=>h.a.ae rfl,fun _=>(h.a.ae rfl).eo rfl,((h.a.ae rfl).eo rfl).w rfl⟩
theorem GoodT.br0 {ns' ns:List Str} {π:Nat→Nat} {t:Tr} (g:GoodT ns' ns π t) {r:Nat} (h:r≤1):D0 ns' (brW (decide (r≤rkG true t)) (wdG true ns t)) (fmT π t):=by
 by_cases e:r≤rkG true t
 ·rw[decide_eq_true e]; exact D0.br g.w
 ·rw[decide_eq_false e]; exact g.z (by omega)
theorem GoodT.br1 {ns' ns:List Str} {π:Nat→Nat} {t:Tr} (g:GoodT ns' ns π t):Pw ns' .e (brW (decide (2≤rkG true t)) (wdG true ns t)) [fmT π t]:=by
 by_cases e:2≤rkG true t
 ·rw[decide_eq_true e]; exact(D0.br g.w).a.ae rfl
 ·rw[decide_eq_false e]; exact g.e (by omega)
theorem GoodT.br2 {ns' ns:List Str} {π:Nat→Nat} {t:Tr} (g:GoodT ns' ns π t):Pw ns' .o (brW (decide (3≤rkG true t)) (wdG true ns t)) [fmT π t]:=by
 by_cases e:3≤rkG true t
 ·rw[decide_eq_true e]; exact((D0.br g.w).a.ae rfl).eo rfl
 ·rw[decide_eq_false e]; exact g.o (by omega)
structure NmsOk (ns' ns:List Str) (π:Nat→Nat) (m:Nat):Prop where
 at':∀k,k < m→idxS (ns.getD k BK) ns'=some (π k)
 no:∀k,k < m→ns.getD k BK∉(["yes","no","not","(",")"]:List Str)
mutual
theorem Z9 {ns' ns:List Str} {π:Nat→Nat} {m:Nat} (N:NmsOk ns' ns π m):∀t:Tr,okT m t=true→GoodT ns' ns π t
 | .lamp k,h=>by
  have hk:k < m:=by simpa [okT] using h
  have no:=N.no k hk;simp only [Bu,Fl,or_false,not_or]at no;refine .of0 ?_;show D0 ns' [ns.getD k BK] (.lamp (π k));refine D0.one ?_ no.2.2.2.1 no.2.2.2.2 no.2.2.1;unfold KR;rw[if_neg no.1,if_neg no.2.1,N.at' k hk];rfl
 | .sure b,_=>by
  refine .of0 ?_
  cases b
  ·exact D0.one (z:="no") (by unfold KR; rw[if_neg (by decide),if_pos rfl]; rfl) (by decide) (by decide) (by decide)
  ·exact D0.one (z:="yes") (by unfold KR; rw[if_pos rfl]; rfl) (by decide) (by decide) (by decide)
 | .neg t,h=>.of0 (D0.not ((Z9 N t (by simpa [okT] using h)).br0 (Bv 1)))
 | .wrap t,h=>.of0 (D0.br (Z9 N t (by simpa [okT] using h)).w)
 | .join v ts,h=>by
  simp only [okT,Fi,decide_eq_true_iff]at h;have gl:=ZtD N ts h.2
  have ne:∀r,wdGL true ns r ts≠[]:=fun r=>by
   cases ts with
   | nil=>simp at h
   | cons _ _=>simp[wdGL]
  have jl:∀v,Ep v (fmTL π ts)=.join v (fmTL π ts):=fun v=>Z2 (by rw[Zw6]; omega)
  cases v with
  | a=>
   have p:=Pw.join (v:=.a) (ne 1) (gl.1);exact⟨(fun z:(1:Nat)=0=>nomatch z),fun _=>p.ae (jl .a),fun _=>(p.ae (jl .a)).eo rfl,((p.ae (jl .a)).eo rfl).w rfl⟩
  | e=>
   have p:=Pw.join (v:=.e) (ne 2) (gl.2.1);exact⟨(fun z:(2:Nat)=0=>nomatch z),(fun z:(2:Nat)≤1=>absurd z (by decide)),fun _=>p.eo (jl .e),(p.eo (jl .e)).w rfl⟩
  | o=>
   have p:=Pw.join (v:=.o) (ne 3) (gl.2.2);exact⟨(fun z:(3:Nat)=0=>nomatch z),(fun z:(3:Nat)≤1=>absurd z (by decide)),(fun z:(3:Nat)≤2=>absurd z (by decide)),p.w (jl .o)⟩
theorem ZtD {ns' ns:List Str} {π:Nat→Nat} {m:Nat} (N:NmsOk ns' ns π m):∀ts:List Tr,okTL m ts=true→Bs (fun tx f=>Pw ns' .a tx [f]) (wdGL true ns 1 ts) (fmTL π ts)∧Bs (fun tx f=>Pw ns' .e tx [f]) (wdGL true ns 2 ts) (fmTL π ts)∧Bs (fun tx f=>Pw ns' .o tx [f]) (wdGL true ns 3 ts) (fmTL π ts)
 | [],_=>⟨.nil,.nil,.nil⟩
 | t::ts,h=>by
  simp only [okTL,Fi]at h;have g:=Z9 N t h.1;have r:=ZtD N ts h.2;exact⟨.cons (g.br0 (Bv 1)).a r.1,.cons g.br1 r.2.1,.cons g.br2 r.2.2⟩
end
theorem ZBq {ns' ns:List Str} {π:Nat→Nat} {m:Nat} (N:NmsOk ns' ns π m) {t:Tr} (h:okT m t=true):Hk ns' (wdG true ns t)=some (fmT π t):=by
 obtain⟨L',h1,h2,h3⟩:=(Z9 N t h).w [];unfold Hk;rw[h1];show(some L').bind endF=_;show endF L'=_;unfold endF;rw[if_neg (by rw[h2]; decide),h3]
noncomputable def K1:Tr→Str
 | .lamp _=>"lamp"
 | .sure _=>"sure"
 | .neg _=>"not"
 | .wrap _=>"wrap"
 | .join v _=>kw3 v
noncomputable def anyA:Ab→Prop:=fun _=>True
noncomputable def TwAt (S:Ab→Prop) (H:Hp):Nat→Ab→Tr→Prop
 | 0,_,_=>False
 | n+1,p,t=>match t with
  | .lamp k=>H p=some (.tup [.str "lamp",.int (k:Int)])
  | .sure b=>H p=some (.tup [.str "sure",.bl b])
  | .neg g=>∃l q,H p=some (.tup [.str "not",.ref l])∧S l∧H l=some (.lst [.ref q])∧TwAt S H n q g
  | .wrap g=>∃l q,H p=some (.tup [.str "wrap",.ref l])∧S l∧H l=some (.lst [.ref q])∧TwAt S H n q g
  | .join v gs=>∃l ps,H p=some (.tup [.str (kw3 v),.ref l])∧S l∧H l=some (.lst (ps.map V.ref))∧Bs (TwAt S H n) ps gs
theorem TwAt.imp {S S':Ab→Prop} {H H':Hp} (ht:∀p xs,H p=some (.tup xs)→H' p=some (.tup xs)) (hl:∀l xs,S l→H l=some (.lst xs)→S' l∧H' l=some (.lst xs)):∀{n:Nat} {p:Ab} {f:Tr},TwAt S H n p f→TwAt S' H' n p f
 | 0,_,_,h=>h
 | n+1,p,f,h=>by
  cases f with
  | lamp k=>exact ht _ _ h
  | sure b=>exact ht _ _ h
  | neg g=>obtain⟨l,q,e,sl,e2,h⟩:=h; exact⟨l,q,ht _ _ e,(hl _ _ sl e2).1,(hl _ _ sl e2).2,TwAt.imp ht hl h⟩
  | wrap g=>obtain⟨l,q,e,sl,e2,h⟩:=h; exact⟨l,q,ht _ _ e,(hl _ _ sl e2).1,(hl _ _ sl e2).2,TwAt.imp ht hl h⟩
  | join w gs=>obtain⟨l,ps,e,sl,e2,h⟩:=h; exact⟨l,ps,ht _ _ e,(hl _ _ sl e2).1,(hl _ _ sl e2).2,BV (fun a b h=>TwAt.imp ht hl h) h⟩
theorem TwAt.same {S:Ab→Prop} {H H':Hp} (s:Same H H') {n:Nat} {p:Ab} {f:Tr} (h:TwAt S H n p f):TwAt S H' n p f:=h.imp (fun _ _ e=>s _ _ e) fun _ _ z e=>⟨z,s _ _ e⟩
theorem TwAt.any {S:Ab→Prop} {H:Hp} {n:Nat} {p:Ab} {f:Tr} (h:TwAt S H n p f):TwAt anyA H n p f:=h.imp (fun _ _ e=>e) fun _ _ _ e=>⟨trivial,e⟩
theorem TwAt.kind {S:Ab→Prop} {H:Hp} {n:Nat} {p:Ab} {f:Tr} (h:TwAt S H n p f):∃v,H p=some (.tup [.str (K1 f),v]):=by
 cases n with
 | zero=>exact h.elim
 | succ n=>
  cases f with
  | lamp k=>exact⟨_,h⟩
  | sure b=>exact⟨_,h⟩
  | neg g=>obtain⟨l,q,e,_⟩:=h; exact⟨_,e⟩
  | wrap g=>obtain⟨l,q,e,_⟩:=h; exact⟨_,e⟩
  | join w gs=>obtain⟨l,ps,e,_⟩:=h; exact⟨_,e⟩
mutual
noncomputable def nT:Tr→Nat
 | .lamp _=>1
 | .sure _=>1
 | .neg t=>1+nT t
 | .wrap t=>1+nT t
 | .join _ ts=>1+nTL ts
noncomputable def nTL:List Tr→Nat
 | []=>0
 | t::ts=>nT t+nTL ts
end
theorem Zm0:∀a b:List Tr,nTL (a++b)=nTL a+nTL b
 | [],b=>by simp[nTL]
 | t::a,b=>by
  show nT t+nTL (a++b)=nT t+nTL a+nTL b;rw[Zm0 a b];omega
theorem aj (t:Tr):nTL [t]=nT t:=by simp[nTL]
theorem ak (m:Nat):∀ts:List Tr,okTL m ts=ts.all (okT m)
 | []=>rfl
 | t::ts=>by
  show(okT m t && okTL m ts)=(okT m t && ts.all (okT m));rw[ak m ts]
noncomputable def rkK:Tr→Nat
 | .join v _=>DW v
 | _=>0
theorem Tq {α:Type} {l:List α} (h:l≠[]):∃a x,l=a++[x]:=⟨l.dropLast,l.getLast h,(List.dropLast_concat_getLast h).symm⟩
noncomputable def w3of (i:Nat):W3:=if i=0 then .a else if i=1 then .e else .o
theorem ZJC {i:Nat} (h:i < 3):([.str "and",.str "either",.str "or"]:List V)[i]?=some (.str (kw3 (w3of i))):=by
 rcases(show i=0∨i=1∨i=2 by omega) with rfl | rfl | rfl <;> rfl
theorem aq (b:Bool) (ws:List Str):(brW b ws).length≤ws.length+2:=by
 unfold brW
 by_cases h:b=true
 ·rw[if_pos h,CT,CZ]; exact Bv _
 ·rw[if_neg h]; omega
theorem ZAk (k:Str):∀txs:List (List Str),(jnW k txs).length≤(txs.map (·.length)).sum+(txs.length - 1)
 | []=>Bv _
 | [p]=>by simp[jnW]
 | p::q::r=>by
  have:=ZAk k (q::r);show(p++k::jnW k (q::r)).length≤_;simp only [CZ,CT,Dq,jz]at *;omega
mutual
theorem K3 (b:Bool) (ns:List Str):∀t:Tr,(wdG b ns t).length+3≤4 * nT t
 | .lamp k=>Bv _
 | .sure c=>Bv _
 | .neg t=>by
  have:=K3 b ns t;have h2:=aq (decide (1≤rkG b t)) (wdG b ns t);show(brW _ _).length+1+3≤4 * (1+nT t);omega
 | .wrap t=>by
  have:=K3 b ns t;have h2:=aq b (wdG b ns t);show(brW _ _).length+3≤4 * (1+nT t);omega
 | .join v ts=>by
  have h1:=ZAk (kw3 v) (wdGL b ns (DW v) ts);have h2:=ZB2 b ns (DW v) ts;show(jnW _ _).length+3≤4 * (1+nTL ts);omega
theorem ZB2 (b:Bool) (ns:List Str) (r:Nat):∀ts:List Tr,((wdGL b ns r ts).map (·.length)).sum+((wdGL b ns r ts).length - 1)≤4 * nTL ts∧((wdGL b ns r ts).map (·.length)).sum+(wdGL b ns r ts).length≤4 * nTL ts
 | []=>⟨De _,De _⟩
 | t::ts=>by
  have h0:=K3 b ns t;have h1:=(ZB2 b ns r ts).2;have h2:=aq (decide (r≤rkG b t)) (wdG b ns t)
  have e:((wdGL b ns r (t::ts)).map (·.length)).sum=(brW (decide (r≤rkG b t)) (wdG b ns t)).length+((wdGL b ns r ts).map (·.length)).sum:=by simp[wdGL]
  have e2:(wdGL b ns r (t::ts)).length=(wdGL b ns r ts).length+1:=by simp[wdGL]
  have e3:nTL (t::ts)=nT t+nTL ts:=by simp[nTL]
  rw[e,e2,e3];omega
end
mutual
theorem ZJD (b:Bool) (ns:List Str) (m:Nat):∀t:Tr,okT m t=true→wdG b ns t≠[]
 | .lamp k,_=>by simp[wdG]
 | .sure c,_=>by simp[wdG]
 | .neg t,_=>by simp[wdG]
 | .wrap t,h=>by
  have:=ZJD b ns m t (by simpa [okT] using h);show brW b (wdG b ns t)≠[];unfold brW
  by_cases hb:b=true
  ·rw[if_pos hb]; simp
  ·rw[if_neg hb]; exact this
 | .join v ts,h=>by
  simp only [okT,Fi,decide_eq_true_iff]at h;show jnW (kw3 v) (wdGL b ns (DW v) ts)≠[]
  match ts,h with
  | t::u::r,h=>
   show brW _ _++_::_≠[];simp
end
noncomputable def Fg (z:Str) (F inner:List Str):List Str:=(if 0 < F.length∧z≠"not" then F++[z] else F)++inner
noncomputable def Gk (b:Bool) (ns:List Str) (z:Str) (bd:Nat) (g:Tr):List Str:=brW (decide (z = "wrap"∧b=true) || decide (bd≤rkG b g)) (wdG b ns g)
theorem ZtB (z:Str) (hz:z≠"not"):∀(txs:List (List Str)) (F:List Str),(∀p∈txs,p≠[])→F≠[]→txs.foldl (Fg z) F=txs.foldl (fun F p=>F++z::p) F
 | [],F,_,_=>rfl
 | p::r,F,h,hF=>by
  have e:Fg z F p=F++z::p:=by
   unfold Fg;rw[if_pos ⟨List.length_pos_iff.mpr hF,hz⟩,Gp];rfl
  show r.foldl (Fg z) (Fg z F p)=r.foldl _ (F++z::p);rw[e];exact ZtB z hz r _ (fun q hq=>h q (CW _ hq)) (by simp)
theorem ZzW (z:Str):∀(txs:List (List Str)) (p:List Str),txs.foldl (fun F p=>F++z::p) p=jnW z (p::txs)
 | [],p=>rfl
 | q::r,p=>by
  have ih:=ZzW z r;show r.foldl _ (p++z::q)=p++z::jnW z (q::r);rw[ih (p++z::q)]
  cases r with
  | nil=>rfl
  | cons x r=>show(p++z::q)++z::jnW z (x::r)=p++z::(q++z::jnW z (x::r)); simp
theorem ZCv (z:Str) (hz:z≠"not") {txs:List (List Str)} (h:∀p∈txs,p≠[]):txs.foldl (Fg z) []=jnW z txs:=by
 cases txs with
 | nil=>rfl
 | cons p r=>
  have e:Fg z [] p=p:=by unfold Fg; rw[if_neg (by simp)]; rfl
  show r.foldl (Fg z) (Fg z [] p)=_;rw[e,ZtB z hz r p (fun q hq=>h q (CW _ hq)) (h p Dg),ZzW]
theorem ZxW (b:Bool) (ns:List Str) (r:Nat):∀ts:List Tr,wdGL b ns r ts=ts.map fun t=>brW (decide (r≤rkG b t)) (wdG b ns t)
 | []=>by simp[wdGL]
 | t::ts=>by simp[wdGL,ZxW b ns r ts]
theorem ZIZ (b:Bool):∀t:Tr,rkG b t≤3
 | .lamp _=>De _
 | .sure _=>De _
 | .neg _=>De _
 | .wrap t=>by
  show(if b=true then 0 else rkG b t)≤3;have:=ZIZ b t
  by_cases h:b=true
  ·rw[if_pos h]; omega
  ·rw[if_neg h]; exact this
 | .join v _=>by show DW v≤3; cases v <;> decide
theorem ZAy:∀ts:List Tr,ts.length≤nTL ts
 | []=>De _
 | t::ts=>by
  have:=ZAy ts
  have h2:1≤nT t:=by cases t <;> simp only [nT] <;> omega
  show ts.length+1≤nT t+nTL ts;omega
noncomputable def cl1 (z:Str):List Nat:=z.cps.toList
def Nc (ws:List (List Nat)):Prop:=ws≠[]∧ws.head?≠some [41]∧ws.getLast?≠some [40]
theorem Tt:∀{a b:List (List Nat)},a≠[]→b≠[]→glue (a++b)=glue a++(if a.getLast?=some [40]∨b.head?=some [41] then [] else [32])++glue b
 | [],b,ha,_=>absurd rfl ha
 | [p],[],_,hb=>absurd rfl hb
 | [p],q::r,_,_=>by
  show p++(if p=[40]∨q=[41] then [] else [32])++glue (q::r)=p++_++glue (q::r);simp
 | p::q::r,b,_,hb=>by
  have ih:=Tt (a:=q::r) (b:=b) (by simp) hb
  have e:(p::q::r).getLast?=(q::r).getLast?:=by simp[List.getLast?_cons]
  show p++(if p=[40]∨q=[41] then [] else [32])++glue (q::r++b)=(p++(if p=[40]∨q=[41] then [] else [32])++glue (q::r))++_++glue b;rw[ih,e];simp only [Gp]
theorem ZFm {ws:List (List Nat)} (h:Nc ws):glue ([40]::(ws++[[41]]))=[40]++glue ws++[41]:=by
 have a:glue (ws++[[41]])=glue ws++[41]:=by
  rw[Tt h.1 (by simp),if_pos (.inr rfl),Es];rfl
 have b:=Tt (a:=[[40]]) (b:=ws++[[41]]) (by simp) (by simp);rw[if_pos (.inl rfl),Es,a]at b;exact b.trans (Gp ..).symm
theorem ZCz {a b:List (List Nat)} {k:List Nat} (ha:Nc a) (hb:Nc b) (k1:k≠[40]) (k2:k≠[41]):glue (a++k::b)=glue a++([32]++k++[32])++glue b:=by
 have e2:=Tt (a:=[k]) (b:=b) (by simp) hb.1;rw[if_neg (by rintro(h | h); exact k1 (by simpa using h); exact hb.2.1 h)]at e2;rw[Tt ha.1 (by simp),if_neg (by rintro(h | h); exact ha.2.2 h; exact k2 (by simpa using h))];have:glue (k::b)=k++[32]++glue b:=e2;rw[this];simp only [Gp]
theorem ZCA {b:List (List Nat)} {k:List Nat} (hb:Nc b) (k1:k≠[40]):glue (k::b)=k++[32]++glue b:=by
 have e2:=Tt (a:=[k]) (b:=b) (by simp) hb.1;rw[if_neg (by rintro(h | h); exact k1 (by simpa using h); exact hb.2.1 h)]at e2;exact e2
theorem ZCE:∀{a b:List (List Nat)},a≠[]→(a++b).head?=a.head?
 | [],_,h=>absurd rfl h
 | _::_,_,_=>rfl
theorem Zr9:∀{a b:List (List Nat)},b≠[]→(a++b).getLast?=b.getLast?
 | [],_,_=>rfl
 | x::a,b,h=>by
  have:=Zr9 (a:=a) h;rw[jm,j6 (by simp[h]),this]
theorem Nc.mid {a b:List (List Nat)} {k:List Nat} (ha:Nc a) (hb:Nc b):Nc (a++k::b):=by
 refine⟨by simp,?_,?_⟩
 ·rw[ZCE ha.1]; exact ha.2.1
 ·rw[Zr9 (by simp),j6 hb.1]; exact hb.2.2
theorem Nc.pre {b:List (List Nat)} {k:List Nat} (hb:Nc b) (k2:k≠[41]):Nc (k::b):=by
 refine⟨by simp,?_,?_⟩
 ·simpa using k2
 ·rw[j6 hb.1]; exact hb.2.2
theorem Nc.one {k:List Nat} (k1:k≠[40]) (k2:k≠[41]):Nc [k]:=⟨by simp,by simpa using k2,by simpa using k1⟩
theorem Nc.br (ws:List (List Nat)):Nc ([40]::(ws++[[41]])):=by
 refine⟨by simp,by simp,?_⟩;rw[j6 (by simp),Zr9 (by simp)];simp
theorem ZxJ (π:Nat→Nat):∀t:Tr,J8 (fmT π t)=rkG false t
 | .lamp _=>rfl
 | .sure _=>rfl
 | .neg _=>rfl
 | .wrap t=>ZxJ π t
 | .join _ _=>rfl
theorem ZCn (b:Bool) (ws:List Str):(brW b ws).map cl1=if b=true then [40]::(ws.map cl1++[[41]]) else ws.map cl1:=by
 unfold brW
 by_cases h:b=true
 ·rw[if_pos h,if_pos h,Dq,Cp]; rfl
 ·rw[if_neg h,if_neg h]
theorem ZCo (b:Bool) (z:Str):cl1 (brk b z)=if b=true then [40]++cl1 z++[41] else cl1 z:=by
 unfold brk
 by_cases h:b=true
 ·rw[if_pos h,if_pos h]
  show((BK++"(")++z++")" : Str).cps.toList=_;rw[list_append,list_append,list_append];rfl
 ·rw[if_neg h,if_neg h]
theorem Zxf (v:W3):∀txs:List (List Str),txs≠[]→(∀p∈txs,Nc (p.map cl1))→Nc ((jnW (kw3 v) txs).map cl1)∧glue ((jnW (kw3 v) txs).map cl1)=jn (cl1 (Je v)) (txs.map fun p=>glue (p.map cl1))
 | [],h,_=>absurd rfl h
 | [p],_,h=>⟨h p Dg,rfl⟩
 | p::q::r,_,h=>by
  obtain⟨n1,e1⟩:=Zxf v (q::r) (by simp) fun x hx=>h x (CW _ hx);have n0:=h p Dg
  have em:(jnW (kw3 v) (p::q::r)).map cl1=p.map cl1++cl1 (kw3 v)::(jnW (kw3 v) (q::r)).map cl1:=by
   show(p++kw3 v::jnW (kw3 v) (q::r)).map cl1=_;rw[Cp,Dq]
  rw[em];refine⟨n0.mid n1,?_⟩;rw[ZCz n0 n1 (by cases v <;> decide) (by cases v <;> decide),e1]
  have ew:cl1 (Je v)=[32]++cl1 (kw3 v)++[32]:=by cases v <;> decide
  rw[←ew];rfl
def NmL (z:Str):Prop:=z.cps.toList≠[]∧∀c∈z.cps.toList,97≤c∧c≤122
theorem NmL.no {z:Str} (h:NmL z):cl1 z≠[40]∧cl1 z≠[41]:=⟨fun e=>by have:=h.2 40 (by show 40∈cl1 z; rw[e]; simp); omega,fun e=>by have:=h.2 41 (by show 41∈cl1 z; rw[e]; simp); omega⟩
theorem ZzA {ns' ns:List Str} {π:Nat→Nat} {t:Tr} (r:Nat) (g:Nc ((wdG false ns t).map cl1)∧cl1 (Dk ns' (fmT π t))=glue ((wdG false ns t).map cl1)):Nc ((brW (decide (r≤rkG false t)) (wdG false ns t)).map cl1)∧cl1 (JC ns' r (fmT π t))=glue ((brW (decide (r≤rkG false t)) (wdG false ns t)).map cl1):=by
 unfold JC;rw[ZCn,ZCo,ZxJ]
 by_cases h:decide (r≤rkG false t)=true
 ·rw[if_pos h,if_pos h,g.2]
  exact⟨Nc.br _,(ZFm g.1).symm⟩
 ·rw[if_neg h,if_neg h]
  exact g
mutual
theorem au {ns' ns:List Str} {π:Nat→Nat} {m:Nat} (hπ:∀k,k < m→ns'.getD (π k) BK=ns.getD k BK) (hN:∀k,k < m→NmL (ns.getD k BK)):∀t:Tr,okT m t=true→Nc ((wdG false ns t).map cl1)∧cl1 (Dk ns' (fmT π t))=glue ((wdG false ns t).map cl1)
 | .lamp k,h=>by
  have hk:k < m:=by simpa [okT] using h
  refine⟨Nc.one (hN k hk).no.1 (hN k hk).no.2,?_⟩;show cl1 (ns'.getD (π k) BK)=cl1 (ns.getD k BK);rw[hπ k hk]
 | .sure c,_=>by
  refine⟨?_,rfl⟩
  cases c
  ·exact Nc.one (by decide) (by decide)
  ·exact Nc.one (by decide) (by decide)
 | .neg t,h=>by
  have g:=ZzA 1 (au hπ hN t (by simpa [okT] using h));have e:(wdG false ns (.neg t)).map cl1=cl1 "not"::(brW (decide (1≤rkG false t)) (wdG false ns t)).map cl1:=rfl;rw[e];refine⟨g.1.pre (by decide),?_⟩;rw[ZCA g.1 (by decide),←g.2];show((BK++"not "++JC ns' 1 (fmT π t)):Str).cps.toList=_;rw[list_append,list_append];rfl
 | .wrap t,h=>by
  have g:=au hπ hN t (by simpa [okT] using h);exact g
 | .join v ts,h=>by
  simp only [okT,Fi,decide_eq_true_iff]at h;obtain⟨a,b⟩:=ZpT hπ hN (DW v) ts h.2
  have ne:wdGL false ns (DW v) ts≠[]:=by
   cases ts with
   | nil=>exact absurd h.1 (by decide)
   | cons x r=>simp[wdGL]
  obtain⟨n,e⟩:=Zxf v (wdGL false ns (DW v) ts) ne a;refine⟨n,?_⟩;show cl1 (Dk ns' (.join v (fmTL π ts)))=glue ((jnW (kw3 v) (wdGL false ns (DW v) ts)).map cl1);rw[e,Zro,←Z8];show(Wn _ _).cps.toList=_;rw[Ui,Tf];exact congrArg _ b
theorem ZpT {ns' ns:List Str} {π:Nat→Nat} {m:Nat} (hπ:∀k,k < m→ns'.getD (π k) BK=ns.getD k BK) (hN:∀k,k < m→NmL (ns.getD k BK)) (r:Nat):∀ts:List Tr,okTL m ts=true→(∀p∈wdGL false ns r ts,Nc (p.map cl1))∧(Ft ns' r (fmTL π ts)).map (fun p=>p.cps.toList)=(wdGL false ns r ts).map fun p=>glue (p.map cl1)
 | [],_=>⟨fun p hp=>(by simp[wdGL]at hp),by simp[Ft,fmTL,wdGL]⟩
 | t::ts,h=>by
  simp only [okTL,Fi]at h;have g:=ZzA r (au hπ hN t h.1);obtain⟨a,b⟩:=ZpT hπ hN r ts h.2
  have e:wdGL false ns r (t::ts)=brW (decide (r≤rkG false t)) (wdG false ns t)::wdGL false ns r ts:=by simp[wdGL]
  have e2:Ft ns' r (fmTL π (t::ts))=JC ns' r (fmT π t)::Ft ns' r (fmTL π ts):=by simp[Ft,fmTL,JC]
  rw[e,e2];refine⟨fun p hp=>?_,?_⟩
  ·rcases Bu.mp hp with rfl | hp
   ·exact g.1
   ·exact a p hp
  ·rw[Dq,Dq,b,←g.2]
   rfl
end
theorem az {x y:Str} (h:cl1 x=cl1 y):x=y:=by
 cases x; cases y
 exact congrArg Str.mk (ju.mp h)
noncomputable def kwsX:List Str:=["yes","no","not","(",")","and","either","or"]
theorem Zvw {Pz:Str→Prop} (hk:∀z∈kwsX,Pz z) {b:Bool} {ws:List Str} (h:∀z∈ws,Pz z):∀z∈brW b ws,Pz z:=by
 intro z hz;unfold brW at hz
 by_cases e:b=true
 ·rw[if_pos e]at hz
  rcases Bu.mp hz with rfl | hz
  ·exact hk _ (by decide)
  ·rcases Er.mp hz with hz | hz
   ·exact h z hz
   ·rw[Ck.mp hz]; exact hk _ (by decide)
 ·rw[if_neg e]at hz; exact h z hz
theorem ZAj {Pz:Str→Prop} {k:Str} (hk:Pz k):∀{txs:List (List Str)},(∀p∈txs,∀z∈p,Pz z)→∀z∈jnW k txs,Pz z
 | [],_,z,hz=>absurd hz (by simp[jnW])
 | [p],h,z,hz=>h p Dg z hz
 | p::q::r,h,z,hz=>by
  have hz:z∈p++k::jnW k (q::r):=hz
  rcases Er.mp hz with hz | hz
  ·exact h p Dg z hz
  ·rcases Bu.mp hz with rfl | hz
   ·exact hk
   ·exact ZAj hk (txs:=q::r) (fun x hx=>h x (CW _ hx)) z hz
mutual
theorem Tu {Pz:Str→Prop} (hk:∀z∈kwsX,Pz z) {b:Bool} {ns:List Str} {m:Nat} (hn:∀k,k < m→Pz (ns.getD k BK)):∀t:Tr,okT m t=true→∀z∈wdG b ns t,Pz z
 | .lamp k,h,z,hz=>by
  have hz:z∈[ns.getD k BK]:=hz;rw[Ck.mp hz];exact hn k (by simpa [okT] using h)
 | .sure c,h,z,hz=>by
  have hz:z∈[(if c=true then "yes" else "no" : Str)]:=hz;rw[Ck.mp hz]
  cases c
  ·exact hk "no" (by decide)
  ·exact hk "yes" (by decide)
 | .neg t,h,z,hz=>by
  have hz:z∈("not" : Str)::brW (decide (1≤rkG b t)) (wdG b ns t):=hz
  rcases Bu.mp hz with rfl | hz
  ·exact hk _ (by decide)
  ·exact Zvw hk (Tu hk hn t (by simpa [okT] using h)) z hz
 | .wrap t,h,z,hz=>Zvw hk (Tu hk hn t (by simpa [okT] using h)) z hz
 | .join v ts,h,z,hz=>by
  simp only [okT,Fi,decide_eq_true_iff]at h;exact ZAj (hk _ (by cases v <;> decide)) (ZB1 hk hn (DW v) ts h.2) z hz
theorem ZB1 {Pz:Str→Prop} (hk:∀z∈kwsX,Pz z) {b:Bool} {ns:List Str} {m:Nat} (hn:∀k,k < m→Pz (ns.getD k BK)) (r:Nat):∀ts:List Tr,okTL m ts=true→∀p∈wdGL b ns r ts,∀z∈p,Pz z
 | [],_,p,hp=>absurd hp (by simp[wdGL])
 | t::ts,h,p,hp=>by
  simp only [okTL,Fi]at h
  have e:wdGL b ns r (t::ts)=brW (decide (r≤rkG b t)) (wdG b ns t)::wdGL b ns r ts:=by simp[wdGL]
  rw[e]at hp
  rcases Bu.mp hp with rfl | hp
  ·exact Zvw hk (Tu hk hn t h.1)
  ·exact ZB1 hk hn r ts h.2 p hp
end
def WdS (z:Str):Prop:=Wd (cl1 z)∧z.length≤8
theorem Wd.let {z:Str} (h:NmL z):Wd (cl1 z):=.inr (.inr h)
theorem Vt:∀z∈kwsX,WdS z:=by
 intro z hz;unfold kwsX at hz;simp only [Bu,Fl,or_false]at hz
 rcases hz with rfl | rfl | rfl | rfl | rfl | rfl | rfl | rfl
 ·exact⟨.inr (.inr ⟨by decide,by decide⟩),by decide⟩
 ·exact⟨.inr (.inr ⟨by decide,by decide⟩),by decide⟩
 ·exact⟨.inr (.inr ⟨by decide,by decide⟩),by decide⟩
 ·exact⟨.inl rfl,by decide⟩
 ·exact⟨.inr (.inl rfl),by decide⟩
 ·exact⟨.inr (.inr ⟨by decide,by decide⟩),by decide⟩
 ·exact⟨.inr (.inr ⟨by decide,by decide⟩),by decide⟩
 ·exact⟨.inr (.inr ⟨by decide,by decide⟩),by decide⟩
theorem ZwF {c d:Nat} {z:List Nat} (hz:z.length≤2):∀l:List Nat,(rp2 c d z l).length≤l.length
 | []=>Bv _
 | [a]=>Bv _
 | a::b::r=>by
  have i1:=ZwF (c:=c) (d:=d) hz r;have i2:=ZwF (c:=c) (d:=d) hz (b::r);show(if a=c∧b=d then z++rp2 c d z r else a::rp2 c d z (b::r)).length≤_
  by_cases h:a=c∧b=d
  ·rw[if_pos h,CZ]; simp only [CT]; omega
  ·rw[if_neg h]; simp only [CT]at *; omega
theorem ZEM {B:Nat}:∀{zs:List Str},(∀z∈zs,z.length≤B)→(zs.map (·.length)).sum≤B * zs.length
 | [],_=>De _
 | z::zs,h=>by
  have a:=h z Dg;have b:=ZEM (zs:=zs) fun x hx=>h x (CW _ hx);rw[Dq,jz,CT,Yba];omega
noncomputable def Ww1 (l:List Nat):List (List Nat):=wl (padL l) []
theorem ZDN {x:Str} (h:∀d∈x.cps.toList,al d=true):(Txt.words (pad x)).map cl1=Ww1 x.cps.toList:=by
 have:=ZwV (pad x) fun c hc=>ZCk c (ZJM (ZEI h c hc)) (ZEI h c hc);rw[ZxA]at this;exact this
theorem ZCe (r:List Nat):Ww1 (32::r)=Ww1 r:=rfl
theorem Zop:∀(g:Nat) (r:List Nat),Ww1 (JL g 32++r)=Ww1 r
 | 0,r=>rfl
 | g+1,r=>by
  rw[Ya2,jm,ZCe];exact Zop g r
theorem Zvj {c:Nat} (h:isM c=true) (r:List Nat):Ww1 (c::r)=[c]::Ww1 r:=by
 have hc:c≠32:=fun e=>by subst e; exact absurd h (by decide)
 unfold Ww1
 have e:padL (c::r)=32::c::32::padL r:=by
  show(if isM c=true then [32,c,32] else [c])++padL r=_;rw[if_pos h]; rfl
 rw[e];show(if c=32 then _ else wl (32::padL r) ([]++[c]))=_;rw[if_neg hc];rfl
theorem ZB5:∀(p rest cur:List Nat),32∉p→wl (p++rest) cur=wl rest (cur++p)
 | [],rest,cur,_=>by rw[Es]; rfl
 | d::p,rest,cur,h=>by
  have h1 : ¬d=32:=fun e=>h (by rw[e]; exact Dg);have h2:32∉p:=fun e=>h (CW _ e);show(if d=32 then _ else wl (p++rest) (cur++[d]))=_;rw[if_neg h1,ZB5 p rest _ h2,Gp];rfl
def opn (r:List Nat):Prop:=r=[]∨∃c r',r=c::r'∧(c=32∨isM c=true)
theorem ZuJ:∀{p:List Nat},(∀c∈p,97≤c∧c≤122)→padL p=p
 | [],_=>rfl
 | c::p,h=>by
  have hc:=h c Dg
  have e:isM c=false:=by
   unfold isM;simp only [Ybb,beq_eq_false_iff_ne];omega
  show(if isM c=true then [32,c,32] else [c])++padL p=c::p;rw[if_neg (by rw[e]; decide),ZuJ fun d hd=>h d (CW _ hd)];rfl
theorem ZE0 {p:List Nat} (hp:p≠[]) (h:∀c∈p,97≤c∧c≤122) {r:List Nat} (hr:opn r):Ww1 (p++r)=p::Ww1 r:=by
 unfold Ww1;rw[Zxy,ZuJ h,ZB5 _ _ _ (fun e=>by have:=h 32 e; omega),Ya1]
 have k:∀rest,wl (32::rest) p=p::wl rest []:=fun rest=>by
  show(if (32:Nat)=32 then(if p=[] then _ else p::wl rest []) else _)=_;rw[if_pos rfl,if_neg hp]
 rcases hr with rfl | ⟨c,r',rfl,hc⟩
 ·show(if p=[] then [] else [p])=_
  rw[if_neg hp];rfl
 ·by_cases hm:isM c=true
  ·have e:padL (c::r')=32::c::32::padL r':=by
    show(if isM c=true then [32,c,32] else [c])++padL r'=_;rw[if_pos hm]; rfl
   rw[e,k];rfl
  ·have e2:c=32:=hc.resolve_right hm
   subst e2;have e:padL (32::r')=32::padL r':=rfl;rw[e,k];rfl
theorem But.trans {l:Ab} {H H' H'':Hp} (a:But l H H') (b:But l H' H''):But l H H'':=fun c o h e=>b c o h (a c o h e)
noncomputable abbrev Chg:=Nat×(Ab×Fm)
noncomputable def Tv (s:Nat) (cs:List Chg) (i:Nat):Bool:=cs.foldl (fun b c=>if c.1=i then c.2.2.holds s else b) (s.testBit i)
noncomputable def onN (s:Nat) (cs:List Chg):Nat:=cs.foldl (fun f c=>if c.2.2.holds s then f ||| 2 ^ c.1 else f - (f &&& 2 ^ c.1)) s
theorem Zq9 (s:Nat) (cs:List Chg) (c:Chg) (i:Nat):Tv s (cs++[c]) i=if c.1=i then c.2.2.holds s else Tv s cs i:=by
 unfold Tv;rw[Om];rfl
theorem Zxx (s:Nat) (cs:List Chg) (c:Chg):onN s (cs++[c])=if c.2.2.holds s then onN s cs ||| 2 ^ c.1 else onN s cs - (onN s cs &&& 2 ^ c.1):=by
 unfold onN;rw[Om];rfl
theorem ZpX (s i:Nat):∀(n:Nat) (cs:List Chg),cs.length=n→(onN s cs).testBit i=Tv s cs i
 | 0,cs,h=>by rw[Ol.mp h]; rfl
 | n+1,cs,h=>by
  obtain⟨r,c,rfl⟩:=Tq (l:=cs) (fun e=>by rw[e]at h; exact absurd h (by simp));have ih:=ZpX s i n r (by simpa using h);rw[Zxx,Zq9]
  by_cases hb:c.2.2.holds s=true
  ·rw[if_pos hb,gw,ih,YcF,hb]
   by_cases e:c.1=i
   ·rw[if_pos e,decide_eq_true e,Wl]
   ·rw[if_neg e,decide_eq_false e,T4]
  ·have hb':c.2.2.holds s=false:=by simpa using hb
   rw[if_neg hb,ZpY,ih,YcF,hb']
   by_cases e:c.1=i
   ·rw[if_pos e,decide_eq_true e,Bool.not_true,Yb4]
   ·rw[if_neg e,decide_eq_false e,Bool.not_false,Yb3]
theorem Zun {s m i:Nat} (hs:s < 2 ^ m) (hi:m≤i):∀(n:Nat) (cs:List Chg),cs.length=n→(∀c∈cs,c.1 < m)→Tv s cs i=false
 | 0,cs,h,_=>by
  rw[Ol.mp h];exact YaG (Ez hs (gr (by decide) hi))
 | n+1,cs,h,hc=>by
  obtain⟨r,c,rfl⟩:=Tq (l:=cs) (fun e=>by rw[e]at h; exact absurd h (by simp));rw[Zq9,if_neg (by have:=hc c (by simp); omega)];exact Zun hs hi n r (by simpa using h) fun c' h'=>hc c' (by simp[h'])
theorem ZGd {s m:Nat} {cs:List Chg} (hs:s < 2 ^ m) (hc:∀c∈cs,c.1 < m):onN s cs=bits (fun i=>Tv s cs i) m:=by
 apply Km;intro i;rw[ZpX s i _ cs rfl,GX]
 by_cases hi:i < m
 ·rw[decide_eq_true hi,Bool.true_and]
 ·rw[decide_eq_false hi,Yao]
  exact Zun hs (by omega) _ cs rfl hc
section
variable {P:Bp} {w:Bg} {K:Ao} {mg:Str→Option Ae} {base:Aq} {t:Ad} {n:Nat}
noncomputable def J9 (g tp:Ab):List (Str×V):=putF "changes" (.ref tp) (putF "guard" (.ref g) [])
theorem Zra (g tp:Ab):(J9 g tp).lookup ("changes" : Str)=some (.ref tp):=by
 unfold J9;rw[DN,if_pos rfl]
theorem Zxk (g tp:Ab):(J9 g tp).lookup ("guard" : Str)=some (.ref g):=by
 unfold J9;rw[DN,if_neg (by decide),DN,if_pos rfl]
theorem ZIf (g tp:Ab) (f:Str) (h1 : ¬f = "changes") (h2 : ¬f = "guard"):(J9 g tp).lookup f=none:=by
 unfold J9;rw[DN,if_neg h1,DN,if_neg h2];rfl
def HdAt (t:Ad) (H:Hp) (n:Nat) (h:Ab) (c:Chg):Prop:=H h=some (.tup [.int (c.1:Int),.ref c.2.1])∧FmAt t H n c.2.1 c.2.2
theorem HdAt.ext {H H':Hp} {h:Ab} {c:Chg} (s:Ext H H') (a:HdAt t H n h c):HdAt t H' n h c:=⟨s _ _ a.1 (fun _ z=>nomatch z),a.2.mono s⟩
def MvAt (t:Ad) (H:Hp) (n:Nat) (x g:Ab) (f:Fm) (cs:List Chg):Prop:=∃dx tp hs,H x=some (.ins t.DP dx (J9 g tp))∧H tp=some (.tup (hs.map V.ref))∧FmAt t H n g f∧Bs (HdAt t H n) hs cs
theorem MvAt.ext {H H':Hp} {x g:Ab} {f:Fm} {cs:List Chg} (s:Ext H H') (a:MvAt t H n x g f cs):MvAt t H' n x g f cs:=by
 obtain⟨dx,tp,hs,e1,e2,f1,p⟩:=a;exact⟨dx,tp,hs,s _ _ e1 (fun _ z=>nomatch z),s _ _ e2 (fun _ z=>nomatch z),f1.mono s,BV (fun _ _ q=>q.ext s) p⟩
noncomputable def ZBI (C:Ab):Sp:=fun vs H Q _=>∃(p dx g l:Ab) (ys:List V),vs=[.ref p,.ref g,.ref l]∧H p=some (.ins C dx [])∧H l=some (.lst ys)∧∀tp H',(∀b o,b≠p→H b=some o→H' b=some o)→H' tp=some (.tup ys)→H' p=some (.ins C dx (J9 g tp))→Q .non H'
theorem ZF6 (T:Txt K mg t):MkS P w K mg base 2 "Move" t.DP ["self","guard","changes"] (ZBI t.DP):=by
 refine⟨T.ZEv,_,_,T.ZEp,T.Va.ok ZuO (fun vs H Q E h=>?_) (fun cdv A outer s H vs Q E hr h=>?_),T.Zoz⟩
 ·obtain⟨p,dx,g,l,ys,rfl,_⟩:=h
  rfl
 obtain⟨p,dx,g,l,ys,rfl,hp,hl,q⟩:=h;have z1:=KQ "guard" (.ref g) [];rw[Gw]at z1
 have hlp:l≠p:=fun e=>by rw[e,hp]at hl; cases hl
 refine⟨_,(Ai (DY (pv 0) (pv 1) rfl)
   (Ah (DY (pv 0) (Gg Ls rfl T.B.tuple Lr (Ac (pv 2) Af)) rfl))),?_⟩
 walk_at "rd0";refine⟨p,_,_,_,rfl,hp,T.J4,T.S5,by decide,?_⟩;walk_at "";refine Lw (ys:=ys) (by rw[Cd hlp]; exact hl) fun tp htp=>?_
 have hpt:tp≠p:=fun e=>by rw[e,Cm]at htp; cases htp
 walk_at "";refine⟨p,_,_,_,rfl,by rw[Cd (Gs hpt)]; exact Cm,T.J4,T.S6,by omega,?_⟩;refine q tp _ (fun b o hb e=>?_) (by rw[Cd hpt]; exact Cm) Cm
 have hb':b≠tp:=fun z=>by rw[←z,Cd hb,e]at htp; cases htp
 rw[Cd hb,Cd hb',Cd hb];exact e
def isMv (t:Ad) (C:Ab):Prop:=C=t.DP
theorem MvAt.ins {H:Hp} {x g:Ab} {f:Fm} {cs:List Chg} (h:MvAt t H n x g f cs) (m:Str) (h1 : ¬m = "changes") (h2 : ¬m = "guard"):∃C dx fs,H x=some (.ins C dx fs)∧isMv t C∧fs.lookup m=none:=by
 obtain⟨dx,tp,hs,e,_⟩:=h;exact⟨_,dx,_,e,rfl,ZIf _ _ _ h1 h2⟩
noncomputable def ZJi (t:Ad) (n:Nat):Sp:=fun vs H Q _=>∃(x g:Ab) (s:Nat) (f:Fm) (cs:List Chg),vs=[.ref x,.int (s:Int)]∧MvAt t H n x g f cs∧Q (.bl (f.holds s)) H
theorem Zze (T:Txt K mg t):∀C,isMv t C→MeS P w K mg base (n+1) C "fits" ["self","stand"] (spAt (ZJi t n) C):=by
 rintro C rfl;refine⟨T.J4,_,_,T.RP.ok ZuN (fun vs H Q E h=>?_) (fun cdv A outer s H vs Q E hr h=>?_),T.Zoy,T.ZoY⟩
 ·obtain⟨⟨x,g,s,f,cs,rfl,_⟩,_⟩:=h
  rfl
 obtain⟨⟨x,g,s,f,cs,rfl,⟨dx,tp,hs,e1,e2,f1,p⟩,q⟩,_⟩:=h;have D_holds:=ZW (P:=P) (w:=w) (base:=base) T n;obtain⟨C,dx',fs',e',hC,hl⟩:=f1.ins "holds" (by decide +kernel) (by decide +kernel) (by decide +kernel) (by decide +kernel);refine⟨_,(Ah (Av (Eb D_holds hr (Cj (pv 0) rfl) (Ac (pv 1) Af)))),?_⟩;walk_at "rd0";refine⟨x,_,_,_,_,rfl,e1,T.J4,T.S5,Zxk _ _,?_⟩;walk_at "";refine⟨g,C,dx',fs',rfl,e',hC,hl,?_⟩;walk_at "";exact⟨e',g,s,f,rfl,f1,q⟩
noncomputable def ZDy (t:Ad) (n:Nat):Sp:=fun vs H Q _=>∃(x g:Ab) (s:Nat) (f:Fm) (cs:List Chg),vs=[.ref x,.int (s:Int)]∧MvAt t H n x g f cs∧(∀c∈cs,c.1≤6)∧Q (.int ((onN s cs:Nat):Int)) H
theorem Zvd (T:Txt K mg t):∀C,isMv t C→MeS P w K mg base (n+1) C "onward" ["self","stand"] (spAt (ZDy t n) C):=by
 rintro C rfl;refine⟨T.J4,_,_,T.RQ.ok O5 (fun vs H Q E h=>?_) (fun cdv A outer s H vs Q E hr h=>?_),T.ZlJ,T.ZlZ⟩
 ·obtain⟨⟨x,g,s,f,cs,rfl,_⟩,_⟩:=h
  rfl
 obtain⟨⟨x,g,s,f,cs,rfl,⟨dx,tp,hs,e1,e2,f1,p⟩,h6,q⟩,_⟩:=h;have D_holds:=ZW (P:=P) (w:=w) (base:=base) T n
 refine⟨_,(Ai (ss 2 O5.nd (pv 1))
   (Ai (Dd Cz rfl (Et (Cj (pv 0) rfl)) (Iv rfl (Fb (sg 3 O5.nd) (Fb (sg 4 O5.nd) Iu)))
   (Ah (Bl (DX (Eb D_holds hr (pv 4) (Ac (pv 1) Af)) (fun _=>rfl))
   (Ah (ss 2 O5.nd (Aj Ks (pv 2) (Aj JV Ag (pv 3)))))
   (Ah (ss 2 O5.nd (Aj Ur (pv 2) (JT ZER (Aj JV Ag (pv 3)))))))))
   (Ah (Av (pv 2))))),?_⟩
 walk_at "rd0";refine⟨x,_,_,_,_,rfl,e1,T.J4,T.S6,Zra _ _,?_⟩;refine seqT (xs:=hs.map V.ref) (fun i σ H'=>H'=H∧∃v v',σ=[some (.ref x),some (.int (s:Int)),some (.int ((onN s (cs.take i):Nat):Int)),v,v']) ⟨rfl,_,_,rfl⟩ (fun i σ H' _ hp=>by obtain⟨rfl,_⟩:=hp; exact SqT.of e2) ?_ ?_
 ·rintro i y σ H' hy ⟨rfl,v,v',rfl⟩
  obtain⟨h,rfl,hx'⟩:=FQ hy;obtain⟨c,hgi,ht,hf⟩:=Ib p hx';have hc6:=h6 c (Dm hgi);obtain⟨C,dx',fs',e',hC,hl⟩:=hf.ins "holds" (by decide +kernel) (by decide +kernel) (by decide +kernel) (by decide +kernel);have hs':=Zxx s (cs.take i) c;rw[←Ff hgi]at hs';refine Jb ht ?_;walk_at "";refine⟨c.2.1,C,dx',fs',rfl,e',hC,hl,?_⟩;walk_at "";refine⟨e',c.2.1,s,c.2.2,rfl,hf,?_⟩;walk_at "";refine JX (fun hb=>?_) (fun hb=>?_)
  ·walk_at ""
   rw[J6,J5];refine⟨rfl,some (.int (c.1:Int)),some (.ref c.2.1),?_⟩;rw[hs',if_pos hb]
   all_goals rfl
  ·walk_at ""
   rw[J6,ZqR];refine⟨rfl,some (.int (c.1:Int)),some (.ref c.2.1),?_⟩;rw[hs',if_neg (by rw[hb]; exact Dt)]
   all_goals rfl
 ·rintro σ H' ⟨rfl,v,v',rfl⟩
  rw[Ax,Dj p,Fw];walk_at "";exact q
end
theorem ZEE {s m:Nat} {cs:List Chg} (hs:s < 2 ^ m) (hc:∀c∈cs,c.1 < m):onN s cs < 2 ^ m:=by
 rw[ZGd hs hc];exact Uz _ _
noncomputable abbrev Mv:=(Ab×Fm)×List Chg
noncomputable def stN (s:Nat) (vs:List Mv):Nat:=vs.foldl (fun a v=>if v.1.2.holds s=true then a ||| 2 ^ onN s v.2 else a) 0
theorem ZxO (s:Nat) (vs:List Mv) (v:Mv):stN s (vs++[v])=if v.1.2.holds s=true then stN s vs ||| 2 ^ onN s v.2 else stN s vs:=by
 unfold stN;rw[Om];rfl
structure GoodMv (m:Nat) (v:Mv):Prop where
 lo:∀c∈v.2,c.1 < m
 nd:(v.2.map Ge).Nodup
theorem ZBS {s m:Nat} (hs:s < 2 ^ m):∀(n:Nat) (vs:List Mv),vs.length=n→(∀v∈vs,GoodMv m v)→stN s vs < 2 ^ 2 ^ m
 | 0,vs,h,_=>by rw[Ol.mp h]; exact Wg _
 | n+1,vs,h,g=>by
  obtain⟨r,v,rfl⟩:=Tq (l:=vs) (fun e=>by rw[e]at h; exact absurd h (by simp));have ih:=ZBS hs n r (by simpa using h) fun v' h'=>g v' (by simp[h']);rw[ZxO]
  split
  ·exact jt ih (ZGv (ZEE hs (g v (by simp)).lo))
  ·exact ih
noncomputable def anyN (m:Nat) (fs:List Fm):Nat:=fs.foldl (fun a f=>a ||| f.crowd (2 ^ m)) 0
theorem Ztf (m:Nat) (fs:List Fm) (f:Fm):anyN m (fs++[f])=anyN m fs ||| f.crowd (2 ^ m):=by
 unfold anyN;rw[Om];rfl
theorem Vu (m:Nat):∀(n:Nat) (fs:List Fm),fs.length=n→anyN m fs < 2 ^ 2 ^ m
 | 0,fs,h=>by rw[Ol.mp h]; exact Wg _
 | n+1,fs,h=>by
  obtain⟨r,f,rfl⟩:=Tq (l:=fs) (fun e=>by rw[e]at h; exact absurd h (by simp));rw[Ztf];exact jt (Vu m n r (by simpa using h)) (Uz _ _)
section
variable {P:Bp} {w:Bg} {K:Ao} {mg:Str→Option Ae} {base:Aq} {t:Ad} {n:Nat}
noncomputable def macF (n s b v:Ab):List (Str×V):=putF "moves" (.ref v) (putF "bads" (.ref b) (putF "starts" (.ref s) (putF "names" (.ref n) [])))
theorem Zsc (n s b v:Ab):(macF n s b v).lookup ("moves" : Str)=some (.ref v):=by
 unfold macF;rw[DN,if_pos rfl]
theorem Zwk (n s b v:Ab):(macF n s b v).lookup ("bads" : Str)=some (.ref b):=by
 unfold macF;rw[DN,if_neg (by decide),DN,if_pos rfl]
theorem Zpi (n s b v:Ab):(macF n s b v).lookup ("starts" : Str)=some (.ref s):=by
 unfold macF;rw[DN,if_neg (by decide),DN,if_neg (by decide),DN,if_pos rfl]
theorem Tw (n s b v:Ab):(macF n s b v).lookup ("names" : Str)=some (.ref n):=by
 unfold macF;rw[DN,if_neg (by decide),DN,if_neg (by decide),DN,if_neg (by decide),DN,if_pos rfl]
theorem ZIg (n s b v:Ab) (f:Str) (h1 : ¬f = "moves") (h2 : ¬f = "bads") (h3 : ¬f = "starts") (h4 : ¬f = "names"):(macF n s b v).lookup f=none:=by
 unfold macF;rw[DN,if_neg h1,DN,if_neg h2,DN,if_neg h3,DN,if_neg h4];rfl
def MvP (t:Ad) (H:Hp) (x:Ab) (v:Mv):Prop:=MvAt t H 62 x v.1.1 v.1.2 v.2
structure MacAt (t:Ad) (H:Hp) (x dx n s b v:Ab) (xs:List V) (sp bp:List (Ab×Fm)) (ms:List Ab) (vs:List Mv):Prop where
 ob:H x=some (.ins t.Cw dx (macF n s b v))
 en:H n=some (.tup xs)
 es:H s=some (.tup ((sp.map Ge).map V.ref))
 eb:H b=some (.tup ((bp.map Ge).map V.ref))
 ev:H v=some (.tup (ms.map V.ref))
 fs:Bs (FmAt t H 62) (sp.map Ge) (sp.map HD)
 fb:Bs (FmAt t H 62) (bp.map Ge) (bp.map HD)
 fv:Bs (MvP t H) ms vs
theorem MacAt.ext {H H':Hp} {x dx n s b v:Ab} {xs:List V} {sp bp:List (Ab×Fm)} {ms:List Ab} {vs:List Mv} (e:Ext H H') (A:MacAt t H x dx n s b v xs sp bp ms vs):MacAt t H' x dx n s b v xs sp bp ms vs:=
 ⟨e _ _ A.ob (fun _ z=>nomatch z),e _ _ A.en (fun _ z=>nomatch z),e _ _ A.es (fun _ z=>nomatch z),e _ _ A.eb (fun _ z=>nomatch z),e _ _ A.ev (fun _ z=>nomatch z),BV (fun _ _ q=>q.mono e) A.fs,BV (fun _ _ q=>q.mono e) A.fb,BV (fun _ _ q=>MvAt.ext e q) A.fv⟩
noncomputable def ZuZ (C:Ab):Sp:=fun vs H Q _=>∃(p dx ln ls lb lv:Ab) (xn xs xb xv:List V),vs=[.ref p,.ref ln,.ref ls,.ref lb,.ref lv]∧H p=some (.ins C dx [])∧(H ln=some (.lst xn)∨H ln=some (.tup xn))∧H ls=some (.lst xs)∧H lb=some (.lst xb)∧H lv=some (.lst xv)∧
 ∀n s b v H',But p H H'→H' n=some (.tup xn)→H' s=some (.tup xs)→H' b=some (.tup xb)→H' v=some (.tup xv)→H' p=some (.ins C dx (macF n s b v))→Q .non H'
theorem Zsd {H:Hp} {p tp:Ab} {o o':HO} {ys:List V} (h:H p=some o) (n:H tp=none):But p H (upd (upd H tp (.tup ys)) p o')∧(upd (upd H tp (.tup ys)) p o') p=some o'∧(upd (upd H tp (.tup ys)) p o') tp=some (.tup ys):=by
 have ne:tp≠p:=fun e=>by rw[e,h]at n; cases n
 exact⟨fun b u hb e=>by rw[Cd hb,Cd (Bw e n)]; exact e,Cm,by rw[Cd ne]; exact Cm⟩
theorem ZH5 {H:Hp} {Q:VK} {p:Ab} {ys:List V} (h:H p=some (.lst ys)∨H p=some (.tup ys)) (k:∀l H',Same H H'→H' l=some (.tup ys)→Q (.ref l) H'):qy K [.ref p] H Q:=by
 rcases h with h | h
 ·exact Lw h fun l hl=>k l _ (HJ hl _) Cm
 ·exact⟨p,ys,rfl,.inr ⟨SqT.of h,k p H (Same.refl _) h⟩⟩
theorem Zrh (T:Txt K mg t):MkS P w K mg base 2 "Machine" t.Cw ["self","names","starts","bads","moves"] (ZuZ t.Cw):=by
 refine⟨T.Zup,_,_,T.ZtX,T.Vb.ok ZpP (fun vs H Q E h=>?_) (fun cdv A outer s H vs Q E hr h=>?_),T.Zkz⟩
 ·obtain⟨p,dx,ln,ls,lb,lv,xn,xs,xb,xv,rfl,_⟩:=h
  rfl
 obtain⟨p,dx,ln,ls,lb,lv,xn,xs,xb,xv,rfl,hp,hn,hs,hb,hv,q⟩:=h;have z1:=fun v:V=>KQ "names" v [];have z2:=fun(v:V) fs=>KQ "starts" v fs;have z3:=fun(v:V) fs=>KQ "bads" v fs
 have ns:ls≠p:=fun e=>by rw[e,hp]at hs; cases hs
 have nb:lb≠p:=fun e=>by rw[e,hp]at hb; cases hb
 have nv:lv≠p:=fun e=>by rw[e,hp]at hv; cases hv
 refine⟨_,(Ai (DY (pv 0) (Gg Ls rfl T.B.tuple Lr (Ac (pv 1) Af)) rfl)
   (Ai (DY (pv 0) (Gg Ls rfl T.B.tuple Lr (Ac (pv 2) Af)) rfl)
   (Ai (DY (pv 0) (Gg Ls rfl T.B.tuple Lr (Ac (pv 3) Af)) rfl)
   (Ah (DY (pv 0) (Gg Ls rfl T.B.tuple Lr (Ac (pv 4) Af)) rfl))))),?_⟩
 walk_at "rd0";refine ZH5 hn fun t1 H0 s0 e0=>?_;have p0:=s0 _ _ hp;have n1p0:t1≠p:=Ci e0 p0 (fun z=>nomatch z);walk_at "";refine⟨p,_,_,_,rfl,p0,T.Fe,T.Jy,by decide,?_⟩
 have b1:But p H (upd H0 p (.ins t.Cw dx (putF "names" (.ref t1) []))):=fun b u hb e=>by rw[Cd hb]; exact s0 _ _ e
 have p1:upd H0 p (.ins t.Cw dx (putF "names" (.ref t1) [])) p=some (.ins t.Cw dx (putF "names" (.ref t1) [])):=Cm
 have e1:upd H0 p (.ins t.Cw dx (putF "names" (.ref t1) [])) t1=some (.tup xn):=by rw[Cd n1p0]; exact e0
 generalize upd H0 p (.ins t.Cw dx (putF "names" (.ref t1) []))=H1 at b1 p1 e1 ⊢;walk_at "";refine Lw (b1 _ _ ns hs) fun t2 n2=>?_;walk_at "";refine⟨p,_,_,_,rfl,by rw[Cd (Bw p1 n2)]; exact p1,T.Fe,T.Nr,by have:=z1 (.ref t1); rw[Gw]at this; omega,?_⟩;obtain⟨b2,p2,e2⟩:=Zsd (o':=.ins t.Cw dx (putF "starts" (.ref t2) (putF "names" (.ref t1) []))) (ys:=xs) p1 n2;generalize upd (upd H1 t2 (.tup xs)) p (.ins t.Cw dx (putF "starts" (.ref t2) (putF "names" (.ref t1) [])))=H2 at b2 p2 e2 ⊢;walk_at "";refine Lw (b2 _ _ nb (b1 _ _ nb hb)) fun t3 n3=>?_;walk_at "";refine⟨p,_,_,_,rfl,by rw[Cd (Bw p2 n3)]; exact p2,T.Fe,T.Nt,by have:=z1 (.ref t1); have:=z2 (.ref t2) (putF "names" (.ref t1) []); rw[Gw]at *; omega,?_⟩;obtain⟨b3,p3,e3⟩:=Zsd (o':=.ins t.Cw dx (putF "bads" (.ref t3) (putF "starts" (.ref t2) (putF "names" (.ref t1) [])))) (ys:=xb) p2 n3;generalize upd (upd H2 t3 (.tup xb)) p (.ins t.Cw dx (putF "bads" (.ref t3) (putF "starts" (.ref t2) (putF "names" (.ref t1) []))))=H3 at b3 p3 e3 ⊢;walk_at "";refine Lw (b3 _ _ nv (b2 _ _ nv (b1 _ _ nv hv))) fun t4 n4=>?_;walk_at "";refine⟨p,_,_,_,rfl,by rw[Cd (Bw p3 n4)]; exact p3,T.Fe,T.Nu,by have:=z1 (.ref t1); have:=z2 (.ref t2) (putF "names" (.ref t1) []); have:=z3 (.ref t3) (putF "starts" (.ref t2) (putF "names" (.ref t1) [])); rw[Gw]at *; omega,?_⟩;obtain⟨b4,p4,e4⟩:=Zsd (o':=.ins t.Cw dx (macF t1 t2 t3 t4)) (ys:=xv) p3 n4;have n1p:t1≠p:=Ci e1 p1 (fun z=>nomatch z);have n2p:t2≠p:=Ci e2 p2 (fun z=>nomatch z);have n3p:t3≠p:=Ci e3 p3 (fun z=>nomatch z);exact q t1 t2 t3 t4 _ (But.trans (But.trans (But.trans b1 b2) b3) b4) (b4 _ _ n1p (b3 _ _ n1p (b2 _ _ n1p e1))) (b4 _ _ n2p (b3 _ _ n2p e2)) (b4 _ _ n3p e3) e4 p4
def ZH2 (t:Ad) (C:Ab):Prop:=C=t.Cw
end
section
variable {P:Bp} {w:Bg} {K:Ao} {mg:Str→Option Ae} {base:Aq} {t:Ad} {n:Nat}
noncomputable def ZGJ (t:Ad):Sp:=fun vs H Q _=>∃(a:Ab) (m:Nat) (sp:List (Ab×Fm)),vs=[.ref a,.int (m:Int)]∧m≤6∧H a=some (.tup ((sp.map Ge).map V.ref))∧Bs (FmAt t H 62) (sp.map Ge) (sp.map HD)∧Q (.int ((anyN m (sp.map HD):Nat):Int)) H
theorem Zpx (T:Txt K mg t):FnS P w K mg base 64 "crowd_of_any" ["formulas","many"] (ZGJ t):=by
 refine⟨_,_,T.QS.ok Xb (fun vs H Q E h=>?_) (fun cdv A outer s H vs Q E hr h=>?_),T.ZkF,T.QS.kp,T.ZkM⟩
 ·obtain⟨a,m,sp,rfl,hm,ha,hf,q⟩:=h
  rfl
 obtain⟨a,m,sp,rfl,hm,ha,hf,q⟩:=h;have D_crowd:=Zmw (P:=P) (w:=w) (base:=base) T 62
 refine⟨_,(Ai (ss 2 Xb.nd Ag)
   (Ai (Dd Cz rfl (Et (pv 0)) (sg 3 Xb.nd)
   (Ah (ss 2 Xb.nd (Aj Ks (pv 2) (Eb D_crowd hr (pv 3) (Ac (pv 1) Af))))))
   (Ah (Av (pv 2))))),?_⟩
 walk_at "rd0";refine seqT (xs:=(sp.map Ge).map V.ref) (fun i σ H'=>H'=H∧∃v,σ=[some (.ref a),some (.int (m:Int)),some (.int ((anyN m ((sp.map HD).take i):Nat):Int)),v]) ⟨rfl,_,rfl⟩ (fun i σ H' _ hp=>by obtain⟨rfl,_⟩:=hp; exact SqT.of ha) ?_ ?_
 ·rintro i y σ H' hy ⟨rfl,v,rfl⟩
  obtain⟨p,rfl,hx'⟩:=FQ hy;obtain⟨f,hgi,hf'⟩:=Ib hf hx';obtain⟨C,dx',fs',e',hC,hl⟩:=hf'.ins "crowd" (by decide +kernel) (by decide +kernel) (by decide +kernel) (by decide +kernel);walk_at "";refine⟨p,C,dx',fs',rfl,e',hC,hl,?_⟩;walk_at "";refine⟨e',p,m,f,rfl,hm,hf',?_⟩;walk_at "";rw[J5];refine⟨rfl,some (.ref p),?_⟩;rw[Ff hgi,Ztf]
  all_goals rfl
 ·rintro σ H' ⟨rfl,v,rfl⟩
  rw[Ax,Ax];have e:(sp.map HD).take sp.length=sp.map HD:=Ub (by rw[Ax]; exact Bv _);rw[e];walk_at "";exact q
noncomputable def ZDD (t:Ad):Sp:=fun vs H Q _=>∃(x dx n s b v:Ab) (xs:List V) (sp bp:List (Ab×Fm)) (ms:List Ab) (mv:List Mv) (k m:Nat),vs=[.ref x,.int (k:Int)]∧MacAt t H x dx n s b v xs sp bp ms mv∧m≤6∧k < 2 ^ m∧(∀u∈mv,GoodMv m u)∧Q (.int ((stN k mv:Nat):Int)) H
theorem Zom (T:Txt K mg t):∀C,ZH2 t C→MeS P w K mg base 65 C "steps_from" ["self","stand"] (spAt (ZDD t) C):=by
 rintro C rfl;refine⟨T.Fe,_,_,T.RV.ok Xj (fun vs H Q E h=>?_) (fun cdv A outer s H vs Q E hr h=>?_),T.ZfN,T.ZfP⟩
 ·obtain⟨⟨x,dx,n,s,b,v,xs,sp,bp,ms,mv,k,m,rfl,_⟩,_⟩:=h
  rfl
 obtain⟨⟨x,dx,n,s,b,v,xs,sp,bp,ms,mv,k,m,rfl,A,hm,hk,g,q⟩,_⟩:=h;have D_fits:=Zze (P:=P) (w:=w) (base:=base) (n:=62) T;have D_onward:=Zvd (P:=P) (w:=w) (base:=base) (n:=62) T;have hp:=S9 hm
 refine⟨_,(Ai (ss 2 Xj.nd Ag)
   (Ai (Dd Cz rfl (Et (Cj (pv 0) rfl)) (sg 3 Xj.nd)
   (Ah (Bl (DX (Eb D_fits hr (pv 3) (Ac (pv 1) Af)) (fun _=>rfl))
   (Ah (ss 2 Xj.nd (Aj Ks (pv 2) (Aj JV Ag (Eb D_onward hr (pv 3) (Ac (pv 1) Af))))))
   Bq)))
   (Ah (Av (pv 2))))),?_⟩
 walk_at "rd0";refine⟨x,_,_,_,_,rfl,A.ob,T.Fe,T.Nu,Zsc _ _ _ _,?_⟩;refine seqT (xs:=ms.map V.ref) (fun i σ H'=>H'=H∧∃v,σ=[some (.ref x),some (.int (k:Int)),some (.int ((stN k (mv.take i):Nat):Int)),v]) ⟨rfl,_,rfl⟩ (fun i σ H' _ hp=>by obtain⟨rfl,_⟩:=hp; exact SqT.of A.ev) ?_ ?_
 ·rintro i y σ H' hy ⟨rfl,v',rfl⟩
  obtain⟨p,rfl,hx'⟩:=FQ hy;obtain⟨u,hgi,hu⟩:=Ib A.fv hx';have gu:=g u (Dm hgi);have hlt:=ZEE hk gu.lo;obtain⟨C,dx',fs',e',hC,hl⟩:=MvAt.ins hu "fits" (by decide +kernel) (by decide +kernel);obtain⟨C2,dx2,fs2,e2,hC2,hl2⟩:=MvAt.ins hu "onward" (by decide +kernel) (by decide +kernel);have hs':=ZxO k (mv.take i) u;rw[←Ff hgi]at hs';walk_at "";refine⟨p,C,dx',fs',rfl,e',hC,hl,?_⟩;walk_at "";refine⟨e',p,u.1.1,k,u.1.2,u.2,rfl,hu,?_⟩;walk_at "";refine JX (fun hb=>?_) (fun hb=>?_)
  ·walk_at ""
   refine⟨p,C2,dx2,fs2,rfl,e2,hC2,hl2,?_⟩;walk_at "";refine⟨e2,p,u.1.1,k,u.1.2,u.2,rfl,hu,fun c h=>by have:=gu.lo c h; omega,?_⟩;walk_at "";rw[J6,J5];refine⟨rfl,some (.ref p),?_⟩;rw[hs',if_pos hb]
   all_goals rfl
  ·walk_at ""
   refine⟨rfl,some (.ref p),?_⟩;rw[hs',if_neg (by rw[hb]; exact Dt)]
   all_goals rfl
 ·rintro σ H' ⟨rfl,v',rfl⟩
  rw[Ax,Dj A.fv,Fw];walk_at "";exact q
noncomputable def afN (m:Nat) (mv:List Mv):List Nat:=(Im (2 ^ m)).map fun s=>stN s mv
noncomputable def ZBE (t:Ad):Sp:=fun vs H Q _=>∃(x dx n s b v:Ab) (xs:List V) (sp bp:List (Ab×Fm)) (ms:List Ab) (mv:List Mv) (m:Nat),vs=[.ref x]∧MacAt t H x dx n s b v xs sp bp ms mv∧xs.length=m∧1≤m∧m≤6∧(∀u∈mv,GoodMv m u)∧
 ∀y H',Same H H'→Jz t H' y m (anyN m (sp.map HD):Nat) (anyN m (bp.map HD):Nat) (afN m mv)→Q (.ref y) H'
theorem ZxZ (T:Txt K mg t):∀C,ZH2 t C→MeS P w K mg base 67 C "chart" ["self"] (spAt (ZBE t) C):=by
 rintro C rfl;refine⟨T.Fe,_,_,T.RT.ok ZfK (fun vs H Q E h=>?_) (fun cdv A outer s H vs Q E hr h=>?_),T.Zi3,T.Zje⟩
 ·obtain⟨⟨x,dx,n,s,b,v,xs,sp,bp,ms,mv,m,rfl,_⟩,_⟩:=h
  rfl
 obtain⟨⟨x,dx,n,s,b,v,xs,sp,bp,ms,mv,m,rfl,A,hx,h1,hm,g,q⟩,_⟩:=h;have Zkx:=Zpx (P:=P) (w:=w) (base:=base) T;have D_steps_from:=Zom (P:=P) (w:=w) (base:=base) T;have ZEX:=ZC7 (P:=P) (w:=w) (base:=base) T;have hp:=S9 hm;have hp0:=dg (2 ^ m);have en:=A.en
 refine⟨_,(Ai (ss 1 ZfK.nd (Dh Ed rfl T.B.len Ec (Ac (Cj (pv 0) rfl) Af)))
   (Ai (ud 2 ZfK.nd (sc:=Az W9) (N:=["self","many","after"]) (ns:=["self"]) (ix:=[0]) rfl rfl (by decide +kernel) rfl (Hn rfl T.B.range (Ac (Aj JV Ag (pv 1)) Af)) (fun _ _ _ _=>WY) (fun _ _ _ _=>(Eb D_steps_from hr (pv 1) (Ac (pv 0) Af))))
   (Ah (Av (IK ZEX hr (Ac (pv 1) (Ac (Bj Zkx hr (Ac (Cj (pv 0) rfl) (Ac (pv 1) Af))) (Ac (Bj Zkx hr (Ac (Cj (pv 0) rfl) (Ac (pv 1) Af))) (Ac (pv 2) Af))))))))),?_⟩
 walk_at "rd0";refine⟨x,_,_,_,_,rfl,A.ob,T.Fe,T.Jy,Tw _ _ _ _,?_⟩;walk_at "";rw[hx,J6];refine⟨_,rfl,by omega,by omega,?_⟩;rw[JM];refine ZzL (fun i ys=>ys=(nums ((Im i).map fun s=>stN s mv)).map V.int) (ZxX 0 (2 ^ m) H) (by simp; omega) rfl ?_ ?_
 ·intro i y ys acc H' hy s1 hacc ea hys _ R kk
  obtain⟨hi,rfl⟩:=ZtC hy;rw[g8]at kk ⊢;simp only [subS,Dq,Gx];walk_at "";refine kk true H' (Same.refl _) (fun z=>by cases z) fun _ R2 k2=>?_;have A':=A.ext (Ext.of s1);walk_at "";refine⟨x,_,_,_,rfl,A'.ob,rfl,ZIg _ _ _ _ _ (by decide +kernel) (by decide +kernel) (by decide +kernel) (by decide +kernel),?_⟩;walk_at "";refine⟨A'.ob,x,dx,n,s,b,v,xs,sp,bp,ms,mv,i,m,rfl,A',hm,hi,g,?_⟩;refine k2 _ H' (Same.refl _) ?_;rw[Ycv,Cp,hys];exact(Zuy _ _).symm
 ·intro acc ys H' nacc s1 ea hys
  rw[Ax,JR]at hys;have A':=A.ext (Ext.of s1)
  have af:H' acc=some (.lst ((nums (afN m mv)).map V.int)):=by rw[ea,hys]; rfl
  walk_at "";refine⟨x,_,_,_,_,rfl,A'.ob,T.Fe,T.Nr,Zpi _ _ _ _,?_⟩;walk_at "";refine⟨s,m,sp,rfl,hm,A'.es,A'.fs,?_⟩;walk_at "";refine⟨x,_,_,_,_,rfl,A'.ob,T.Fe,T.Nt,Zwk _ _ _ _,?_⟩;walk_at "";refine⟨b,m,bp,rfl,hm,A'.eb,A'.fb,?_⟩;walk_at "";refine ZFs af ⟨h1,hm,Vu m _ _ rfl,Vu m _ _ rfl,by unfold afN; rw[Ax,JR],fun u hu=>?_⟩ fun y H2 s2 _ hc=>q y H2 (s1.trans s2) hc;unfold afN at hu;obtain⟨k,hk,rfl⟩:=Fx.mp hu;exact ZBS (N8.mp hk) _ mv rfl g
end
section
variable {P:Bp} {w:Bg} {K:Ao} {mg:Str→Option Ae} {base:Aq} {t:Ad} {n:Nat}
def ChW (t:Ad) (H:Hp) (p:Ab) (c:Nat×Fm):Prop:=∃b,H p=some (.tup [.int (c.1:Int),.ref b])∧FmE t H b c.2
def MvW (t:Ad) (H:Hp) (x:Ab) (v:Fm×List (Nat×Fm)):Prop:=∃dx g tp hs,H x=some (.ins t.DP dx (J9 g tp))∧H tp=some (.tup (hs.map V.ref))∧FmE t H g v.1∧Bs (ChW t H) hs v.2
def MacW (t:Ad) (H:Hp) (x:Ab) (ns:List Str) (ss bs:List Fm) (vs:List (Fm×List (Nat×Fm))):Prop:=
 ∃dx n s b v ps pb pv,H x=some (.ins t.Cw dx (macF n s b v))∧H n=some (.tup (ns.map V.str))∧H s=some (.tup (ps.map V.ref))∧H b=some (.tup (pb.map V.ref))∧H v=some (.tup (pv.map V.ref))∧Bs (FmE t H) ps ss∧Bs (FmE t H) pb bs∧Bs (MvW t H) pv vs
theorem FmE.ext {H H':Hp} (s:Ext H H') {p:Ab} {f:Fm} (h:FmE t H p f):FmE t H' p f:=let ⟨n,h⟩:=h; ⟨n,h.mono s⟩
theorem ChW.ext {H H':Hp} (s:Ext H H') {p:Ab} {c:Nat×Fm} (h:ChW t H p c):ChW t H' p c:=by
 obtain⟨b,e,f⟩:=h;exact⟨b,s _ _ e (fun _ z=>nomatch z),f.ext s⟩
theorem MvW.ext {H H':Hp} (s:Ext H H') {x:Ab} {v:Fm×List (Nat×Fm)} (h:MvW t H x v):MvW t H' x v:=by
 obtain⟨dx,g,tp,hs,e1,e2,f,p⟩:=h;exact⟨dx,g,tp,hs,s _ _ e1 (fun _ z=>nomatch z),s _ _ e2 (fun _ z=>nomatch z),f.ext s,BV (fun _ _ q=>q.ext s) p⟩
theorem MacW.ext {H H':Hp} (e:Ext H H') {x:Ab} {ns:List Str} {ss bs:List Fm} {vs:List (Fm×List (Nat×Fm))} (h:MacW t H x ns ss bs vs):MacW t H' x ns ss bs vs:=by
 obtain⟨dx,n,s,b,v,ps,pb,pv,h1,h2,h3,h4,h5,p1,p2,p3⟩:=h;exact⟨dx,n,s,b,v,ps,pb,pv,e _ _ h1 (fun _ z=>nomatch z),e _ _ h2 (fun _ z=>nomatch z),e _ _ h3 (fun _ z=>nomatch z),e _ _ h4 (fun _ z=>nomatch z),e _ _ h5 (fun _ z=>nomatch z),BV (fun _ _ q=>q.ext e) p1,BV (fun _ _ q=>q.ext e) p2,BV (fun _ _ q=>q.ext e) p3⟩
theorem ZFy {l g:Ab} {hs:List Ab} {v:Fm×List (Nat×Fm)} {H:Hp} {Q:VK} (hl:H l=some (.lst (hs.map V.ref))) (hf:FmE t H g v.1) (hc:Bs (ChW t H) hs v.2) (h:∀(x:Ab) (H':Hp),Same H H'→H x=none→MvW t H' x v→Q (.ref x) H') :
  MkG t.DP (ZBI t.DP) [.ref g,.ref l] H Q:=by
 intro x dx hx hdx ne;have s2:=Lx hx hdx (.ins t.DP dx []) (.own x);refine⟨x,dx,g,l,_,rfl,Cm,s2 _ _ hl,fun tp H' s3 h1 h2=>⟨rfl,?_⟩⟩;have s4:Same H H':=fun b o e=>s3 b o (Bw e hx) (s2 b o e);exact h x H' s4 hx ⟨dx,g,tp,hs,h2,h1,hf.ext (Ext.of s4),BV (fun _ _ q=>q.ext (Ext.of s4)) hc⟩
theorem Zq6 {ln ls lb lv:Ab} {ns:List Str} {ss bs:List Fm} {ps pb pv:List Ab} {vs:List (Fm×List (Nat×Fm))} {H:Hp} {Q:VK} (hn:H ln=some (.lst (ns.map V.str))∨H ln=some (.tup (ns.map V.str))) (hs:H ls=some (.lst (ps.map V.ref))) (hb:H lb=some (.lst (pb.map V.ref))) (hv:H lv=some (.lst (pv.map V.ref)))
  (fs:Bs (FmE t H) ps ss) (fb:Bs (FmE t H) pb bs) (fv:Bs (MvW t H) pv vs)
  (h:∀(x:Ab) (H':Hp),Same H H'→H x=none→MacW t H' x ns ss bs vs→Q (.ref x) H') :
  MkG t.Cw (ZuZ t.Cw) [.ref ln,.ref ls,.ref lb,.ref lv] H Q:=by
 intro x dx hx hdx ne;have s2:=Lx hx hdx (.ins t.Cw dx []) (.own x);refine⟨x,dx,ln,ls,lb,lv,_,_,_,_,rfl,Cm,hn.imp (s2 _ _ ·) (s2 _ _ ·),s2 _ _ hs,s2 _ _ hb,s2 _ _ hv,fun n s b v H' s3 h1 h2 h3 h4 h5=>⟨rfl,?_⟩⟩;have s4:Same H H':=fun b o e=>s3 b o (Bw e hx) (s2 b o e);exact h x H' s4 hx ⟨dx,n,s,b,v,ps,pb,pv,h5,h1,h2,h3,h4,BV (fun _ _ q=>q.ext (Ext.of s4)) fs,BV (fun _ _ q=>q.ext (Ext.of s4)) fb,BV (fun _ _ q=>q.ext (Ext.of s4)) fv⟩
end
noncomputable def Ei (pcs:List (List Str)) (z:Str):List (List Str):=if z = "," then pcs++[[]] else pcs.dropLast++[(pcs.getLast?.getD [])++[z]]
noncomputable def En (ws:List Str):List (List Str):=ws.foldl Ei [[]]
theorem ZxP (pcs:List (List Str)) (z:Str):Ei pcs z≠[]:=by
 unfold Ei
 split <;> simp
theorem Vv (ws:List Str):En ws≠[]:=by
 unfold En
 have:∀(ws:List Str) (pcs:List (List Str)),pcs≠[]→ws.foldl Ei pcs≠[]:=by
  intro ws
  induction ws with
  | nil=>intro pcs h; exact h
  | cons z r ih=>intro pcs _; exact ih _ (ZxP pcs z)
 exact this ws [[]] (by simp)
theorem Zy0 (ws:List Str) (z:Str):En (ws++[z])=Ei (En ws) z:=by
 unfold En;rw[Om];rfl
theorem ZoW:∀(p:List Str) (pcs:List (List Str)) (cur:List Str),("," : Str)∉p→p.foldl Ei (pcs++[cur])=pcs++[cur++p]
 | [],pcs,cur,_=>by simp
 | z::p,pcs,cur,h=>by
  have hz : ¬z = ",":=fun e=>h (by rw[e]; simp);have hp:("," : Str)∉p:=fun e=>h (CW _ e);show p.foldl Ei (Ei (pcs++[cur]) z)=_
  have e:Ei (pcs++[cur]) z=pcs++[cur++[z]]:=by
   unfold Ei;rw[if_neg hz];simp
  rw[e,ZoW p pcs (cur++[z]) hp];simp
theorem Zq4:∀(ps:List (List Str)) (pcs:List (List Str)),ps≠[]→(∀p∈ps,("," : Str)∉p)→(jnW "," ps).foldl Ei (pcs++[[]])=pcs++ps
 | [],_,h,_=>absurd rfl h
 | [p],pcs,_,h=>by
  have:=ZoW p pcs [] (h p Dg)
  simpa [jnW] using this
 | p::q::r,pcs,_,h=>by
  have e:jnW "," (p::q::r)=p++("," : Str)::jnW "," (q::r):=rfl;rw[e,Om,ZoW p pcs [] (h p Dg)];show(jnW "," (q::r)).foldl Ei (Ei (pcs++[[]++p]) ",")=_
  have e2:Ei (pcs++[[]++p]) "," = (pcs++[p])++[[]]:=by unfold Ei; rw[if_pos rfl]; simp
  rw[e2,Zq4 (q::r) (pcs++[p]) (by simp) fun x hx=>h x (CW _ hx)];simp
theorem ZyZ {ps:List (List Str)} (hn:ps≠[]) (h:∀p∈ps,("," : Str)∉p):En (jnW "," ps)=ps:=by
 have:=Zq4 ps [] hn h
 simpa [En] using this
theorem ZDI {pcs:List (List Str)} {z:Str} {B:Nat} (h:∀pc∈pcs,pc.length≤B):∀pc∈Ei pcs z,pc.length≤B+1:=by
 intro pc hp;unfold Ei at hp
 split at hp
 ·rcases Er.mp hp with hp | hp
  ·exact Ud (h pc hp)
  ·rw[Ck.mp hp]; exact De _
 ·rcases Er.mp hp with hp | hp
  ·exact Ud (h pc ((Wq _).subset hp))
  ·rw[Ck.mp hp,CZ,Gv]
   cases e:pcs.getLast? with
   | none=>simp
   | some q=>exact YaD (h q (YcB e))
theorem ZA3 (ws:List Str):(En ws).length≤ws.length+1:=by
 have:∀(ws:List Str) (pcs:List (List Str)),pcs≠[]→(ws.foldl Ei pcs).length≤pcs.length+ws.length:=by
  intro ws
  induction ws with
  | nil=>intro pcs _; exact Bv _
  | cons z r ih=>
   intro pcs hp;have h1:=ih (Ei pcs z) (ZxP pcs z)
   have h2:(Ei pcs z).length≤pcs.length+1:=by
    unfold Ei
    split
    ·simp
    ·rw[CZ,T9,Gv]; omega
   rw[CT];exact Ex h1 (by omega)
 have:=this ws [[]] (by simp);simp only [Gv]at this;unfold En;omega
theorem ZxB (ws:List Str):∀pc∈En ws,pc.length≤ws.length:=by
 have:∀(ws:List Str) (pcs:List (List Str)) (B:Nat),(∀pc∈pcs,pc.length≤B)→∀pc∈ws.foldl Ei pcs,pc.length≤B+ws.length:=by
  intro ws
  induction ws with
  | nil=>intro pcs B h; exact h
  | cons z r ih=>
   intro pcs B h pc hp;have:=ih (Ei pcs z) (B+1) (ZDI h) pc hp;rw[CT];omega
 intro pc hp;have:=this ws [[]] 0 (fun pc h=>by rw[Ck.mp h]; exact Bv _) pc hp;omega
seal PE PA PS PSs
section
variable {P:Bp} {w:Bg} {K:Ao} {mg:Str→Option Ae} {base:Aq} {t:Ad} {n:Nat}
noncomputable def ZKc:Sp:=fun vs H Q _=>∃z:Str,vs=[.str z]∧Asc z∧z.length≤16000∧okW z=true∧Txt.words (pad z)≠[]∧∀p H',Same H H'→H p=none→H' p=some (.lst ((Txt.words (pad z)).map V.str))→Q (.ref p) H'
theorem Zn6 (T:Txt K mg t):FnS P w K mg base 3 "words_of_line" ["line"] (ZKc):=by
 refine⟨_,_,T.Q6.ok ZiW (fun vs H Q E h=>?_) (fun cdv A outer s H vs Q E hr h=>?_),T.Zi7,T.Q6.kp,T.Zjl⟩
 ·obtain⟨z,rfl,ha,hz,hok,hne,q⟩:=h
  rfl
 obtain⟨z,rfl,ha,hz,hok,hne,q⟩:=h;have ZEV:=ZDd (P:=P) (w:=w) (base:=base) T
 refine⟨_,(Ai (ss 1 ZiW.nd (Bj ZEV hr (Ac (pv 0) Af)))
   (Ai (Bl (PW.pt (Fp (Ay ZEF (pv 1) Ws (Bd _)) (Fy (Ay (BL hr.units) (Dh Ed rfl T.B.len Ec (Ac (pv 1) Af)) Ag (Bd _)))))
   (Ah Gr)
   Bq)
   (Ah (Av (pv 1))))),?_⟩
 walk_at "rd0";refine⟨z,rfl,ha,hz,fun h=>(absurd h (by rw[hok]; decide)),fun _ H1 p s1 n1 e1=>?_⟩;walk_at "";refine⟨rfl,?_⟩;walk_at "";refine Ba (by simp) ?_;walk_at "";rw[Ax];refine Ba (decide_eq_false fun e=>hne (Ol.mp (by omega))) ?_;walk_at "";exact q p H1 s1 n1 e1
theorem ZrO {ps:List Str} {i:Nat} {x:V} (h:(ps.map V.str)[i]?=some x):∃p,x=V.str p∧ps[i]?=some p:=by
 rw[El]at h
 cases e:ps[i]? with
 | none=>rw[e]at h; cases h
 | some p=>rw[e]at h; cases h; exact⟨p,rfl,rfl⟩
theorem bf {α β:Type} {R S:α→β→Prop}:∀{as:List α} {bs:List β},Bs R as bs→(∀a b,a∈as→R a b→S a b)→Bs S as bs
 | _,_,.nil,_=>.nil
 | _,_,.cons h r,f=>.cons (f _ _ Dg h) (bf r fun a b ha z=>f a b (CW _ ha) z)
def ZEY (H0 H:Hp) (ps:List Ab) (pcs:List (List Str)):Prop:=Bs (fun p pc=>H0 p=none∧H p=some (.lst (pc.map V.str))) ps pcs
noncomputable def ZDz:Sp:=fun vs H Q _=>∃(l:Ab) (ws:List Str),vs=[.ref l]∧H l=some (.lst (ws.map V.str))∧ws.length≤100000∧∀o ps H',Same H H'→H o=none→H' o=some (.lst (ps.map V.ref))→ZEY H H' ps (En ws)→Q (.ref o) H'
theorem Zm3 {α β:Type} {R:α→β→Prop}:∀{as:List α} {bs:List β},Bs R as bs→∀a∈as,∃b,R a b:=by
 intro _ _ h;induction h with
 | nil=>intro a h; cases h
 | cons h _ ih=>
  intro a ha
  rcases Bu.mp ha with rfl | ha
  ·exact⟨_,h⟩
  ·exact ih a ha
theorem Jf {α β:Type} {R:α→β→Prop}:∀{as:List α} {bs:List β},Bs R as bs→∀{i:Nat} {a:α},as[i]?=some a→∃b,bs[i]?=some b∧R a b:=by
 intro _ _ h;induction h with
 | nil=>intro i a h; cases h
 | cons h _ ih=>intro i a ha; cases i with
  | zero=>cases ha; exact⟨_,rfl,h⟩
  | succ i=>exact ih (i:=i) (by simpa using ha)
theorem Zri {α β:Type} {R:α→β→Prop}:∀{as:List α} {bs:List β},Bs R as bs→∀{i:Nat} {b:β},bs[i]?=some b→∃a,as[i]?=some a∧R a b:=by
 intro _ _ h;induction h with
 | nil=>intro i a h; cases h
 | cons h _ ih=>intro i a ha; cases i with
  | zero=>cases ha; exact⟨_,rfl,h⟩
  | succ i=>exact ih (i:=i) (by simpa using ha)
theorem Zrj {α β γ:Type} {R:α→β→Prop} {S:α→γ→Prop} {f:β→γ} (h:∀a b,R a b→S a (f b)):∀{as:List α} {bs:List β},Bs R as bs→Bs S as (bs.map f)
 | _,_,.nil=>.nil
 | _,_,.cons h1 r=>.cons (h _ _ h1) (Zrj h r)
theorem ZBz {α β:Type} {R:α→β→Prop} {as:List α} {bs:List β} (h:Bs R as bs) (hb:bs≠[]):∃as' a,as=as'++[a]∧Bs R as' bs.dropLast∧R a (bs.getLast hb):=by
 induction h with
 | nil=>exact absurd rfl hb
 | cons h1 h2 ih=>
  rename_i a b as bs
  cases h2 with
  | nil=>exact⟨[],a,rfl,.nil,h1⟩
  | cons h3 h4=>
   obtain⟨as',a',e,h5,h6⟩:=ih (by simp);refine⟨a::as',a',by rw[e]; rfl,?_,?_⟩
   ·rw[List.dropLast_cons_cons]
    exact .cons h1 h5
   ·rw[List.getLast_cons_cons]
    exact h6
theorem Zld (T:Txt K mg t):FnS P w K mg base 1 "parted_by_commas" ["found"] (ZDz):=by
 refine⟨_,_,T.Q7.ok ZdO (fun vs H Q E h=>?_) (fun cdv A outer s H vs Q E hr h=>?_),T.ZgF,T.Q7.kp,T.Zg6⟩
 ·obtain⟨l,ws,rfl,hl,hz,q⟩:=h
  rfl
 obtain⟨l,ws,rfl,hl,hz,q⟩:=h
 refine⟨_,(Ai (ss 1 ZdO.nd (Br (Ac (Br Af) Af)))
   (Ai (Dd Cz rfl (Et (pv 0)) (sg 2 ZdO.nd)
   (Ah (Bl (Ay (BL hr.units) (pv 2) Am (Bd _))
   (Ah (Dc (CG Ds Eg Em Ea (pv 1) (Ac (Br Af) Af))))
   (Ah (Dc (CG Ds Eg Em Ea (Bm Bo (pv 1) (JT Lh Ag) (fun _ _=>rfl)) (Ac (pv 2) Af)))))))
   (Ah (Av (pv 1))))),?_⟩
 walk_at "rd0";refine BR (by simp) fun p0 H0 s0 n0 e0=>?_;walk_at "";refine BR (by simp) fun o H1 s1 n1 e1=>?_;walk_at "";have no:H o=none:=s0.free n1
 have nd0:(o::[p0]).Nodup:=by
  rw[EY];refine⟨fun hm=>?_,by simp⟩;rw[Ck.mp hm,e0]at n1
  cases n1
 refine seqL (xs:=ws.map V.str) (fun i σ H'=>∃ps v2,σ=[some (.ref l),some (.ref o),v2]∧Same H H'∧H' o=some (.lst (ps.map V.ref))∧ZEY H H' ps (En (ws.take i))∧(o::ps).Nodup∧(En (ws.take i)).length≤i+1)
  ⟨[p0],_,rfl,s0.trans s1,e1,.cons ⟨n0,s1 _ _ e0⟩ .nil,nd0,Bv _⟩ (fun i σ H' _ hp=>by obtain⟨ps,v2,_,s,_⟩:=hp; exact SqL.of (s _ _ hl)) ?_ ?_
 ·rintro i x σ H2 hx ⟨ps,v2,rfl,s2,e2,pp,nd,hln⟩
  obtain⟨z,rfl,hz'⟩:=ZrO hx;have hil:i < ws.length:=(Ej.mp hz').1;rw[EY]at nd;have hpl:=Dj pp
  have ets:En (ws.take (i+1))=Ei (En (ws.take i)) z:=by rw[Ff hz',Zy0]
  walk_at "";refine Di (fun h=>?_) (fun h=>?_)
  ·walk_at ""
   refine⟨tyL e2,?_⟩;walk_at "";refine BR (by simp) fun p3 H3 s3 n3 e3=>?_;have e23:=s3 _ _ e2;walk_at "";refine Eu e23 (by rw[Ax]; omega) fun H4 b4 e4=>?_;walk_at "";have n3':H p3=none:=s2.free n3
   have np:p3∉ps:=fun hm=>by
    obtain⟨pc,_,e⟩:=Zm3 pp p3 hm;rw[n3]at e; cases e
   have neo:o≠p3:=fun e=>by rw[←e]at n3; rw[n3]at e2; cases e2
   refine⟨ps++[p3],_,rfl,b4.same no (s2.trans s3),by rw[e4,Cp]; rfl,?_,?_,?_⟩
   ·rw[ets]
    unfold Ei;rw[if_pos h];refine Ie (bf pp fun p pc hp z=>⟨z.1,b4 _ _ (fun e=>nd.1 (by rw[←e]; exact hp)) (s3 _ _ z.2)⟩) (.cons ⟨n3',b4 _ _ (fun e=>neo e.symm) e3⟩ .nil)
   ·rw[EY]
    refine⟨?_,?_⟩
    ·simp only [Er,Ck,not_or]
     exact⟨nd.1,neo⟩
    ·rw[Uj]
     exact⟨nd.2,by simp,fun a ha b hb e=>np (by rw[←Ck.mp hb,←e]; exact ha)⟩
   ·rw[ets]
    unfold Ei;rw[if_pos h,CZ,Gv];omega
  ·walk_at ""
   obtain⟨ps',p,rfl,pp',hp⟩:=ZBz pp (Vv _);obtain⟨np,ep⟩:=hp
   have hlast:Ei (En (ws.take i)) z=(En (ws.take i)).dropLast++[(En (ws.take i)).getLast (Vv _)++[z]]:=by
    unfold Ei;rw[if_neg h,List.getLast?_eq_some_getLast (Vv _)];rfl
   have e2':H2 o=some (.lst (ps'.map V.ref++[V.ref p])):=by rw[e2,Cp]; rfl
   refine UL e2' (Zzv _ _) ?_;walk_at "";refine⟨tyL ep,?_⟩;have hpl':=Dj pp'
   have hlz:((En (ws.take i)).getLast (Vv _)).length≤100000:=by
    have:=ZxB (ws.take i) _ (List.getLast_mem (Vv _));rw[Gu]at this;omega
   walk_at "";refine Eu ep (by rw[Ax]; omega) fun H4 b4 e4=>?_;walk_at "";have nd':=nd;rw[Uj]at nd';have nop:o≠p:=fun e=>nd.1 (by rw[e]; simp);refine⟨ps'++[p],_,rfl,b4.same np s2,b4 _ _ nop e2,?_,?_,?_⟩
   ·rw[ets,hlast]
    refine Ie (bf pp' fun a pc ha z=>⟨z.1,b4 _ _ (fun e=>nd'.2.2.2 a ha p (Ck.mpr rfl) e) z.2⟩) (.cons ⟨np,by rw[e4,Cp]; rfl⟩ .nil)
   ·rw[EY]; exact nd
   ·rw[ets,hlast,CZ,T9,Gv]; omega
 ·rintro σ H2 ⟨ps,v2,rfl,s2,e2,pp,nd,hln⟩
  walk_at "";rw[Ax,Fw]at pp;exact q o ps H2 s2 no e2 pp
theorem Vw {z:Str}:∀{ns:List Str} {k:Nat},ns.Nodup→ns[k]?=some z→idxS z ns=some k
 | [],k,_,h=>by simp at h
 | y::r,k,nd,h=>by
  unfold idxS;rw[EY]at nd
  cases k with
  | zero=>
   have:y=z:=by simpa using h
   rw[if_pos this]
  | succ k=>
   have h:r[k]?=some z:=by simpa using h
   have : ¬y=z:=fun e=>nd.1 (by rw[e]; exact Dm h);rw[if_neg this,Vw nd.2 h];rfl
theorem ZHQ {p:Ab} {x:Str} {ns:List Str} {H:Hp} {Q:VK} (h:H p=some (.lst (ns.map V.str))∨H p=some (.tup (ns.map V.str))) (k:Q (.bl (!decide (x∈ns))) H):rm K (.str x) (.ref p) H Q:=by
 refine .inr ⟨p,ns.map V.str,rfl,h.imp SqL.of SqT.of,rfl,?_,?_⟩
 ·rw[GK]
  intro v hv;obtain⟨z,_,rfl⟩:=Fx.mp hv;rfl
 ·rw[Vm]
  exact k
theorem ZHR {p:Ab} {x:Str} {ns:List Str} {H:Hp} {Q:VK} (h:SqT K H p (ns.map V.str)) (k:Q (.bl (!decide (x∈ns))) H):rm K (.str x) (.ref p) H Q:=by
 refine .inr ⟨p,ns.map V.str,rfl,.inr h,rfl,?_,?_⟩
 ·rw[GK]
  intro v hv;obtain⟨z,_,rfl⟩:=Fx.mp hv;rfl
 ·rw[Vm]
  exact k
noncomputable def K4 (ks:List Nat):List V:=ks.map fun k:Nat=>V.int (k:Int)
theorem ZAN {α:Type}:∀{l:List α} {i j:Nat} {x:α},l.Nodup→l[i]?=some x→l[j]?=some x→i=j
 | [],i,j,x,_,h,_=>by simp at h
 | y::l,0,0,x,_,_,_=>rfl
 | y::l,0,j+1,x,nd,h1,h2=>by
  rw[EY]at nd
  have h1:y=x:=by simpa using h1
  have h2:l[j]?=some x:=by simpa using h2
  exact absurd (Dm h2) (by rw[←h1]; exact nd.1)
 | y::l,i+1,0,x,nd,h1,h2=>by
  rw[EY]at nd
  have h2:y=x:=by simpa using h2
  have h1:l[i]?=some x:=by simpa using h1
  exact absurd (Dm h1) (by rw[←h2]; exact nd.1)
 | y::l,i+1,j+1,x,nd,h1,h2=>by
  rw[EY]at nd;exact congrArg (· + 1) (ZAN nd.2 (by simpa using h1) (by simpa using h2))
theorem Zxd (x:Nat):∀ns:List Nat,inV (.int (x:Int)) (K4 ns)=decide (x∈ns)
 | []=>by simp[inV,K4]
 | y::ns=>by
  have ih:=Zxd x ns;unfold inV K4 at ih ⊢;rw[Dq,T5,ih]
  have e:eqV (.int (y:Int)) (.int (x:Int))=decide (y=x):=by
   show decide ((y:Int)=(x:Int))=_;exact decide_eq_decide.mpr (by omega)
  rw[e]
  by_cases h:y=x
  ·simp[h]
  ·have h' : ¬x=y:=fun z=>h z.symm
   simp[h,h']
theorem ZFv {p:Ab} {x:Nat} {ns:List Nat} {H:Hp} {Q:VK} (h:H p=some (.lst (K4 ns))) (k:Q (.bl (decide (x∈ns))) H):rInG K (.int (x:Int)) (.ref p) H Q:=by
 refine .inr ⟨p,K4 ns,rfl,.inl (SqL.of h),rfl,?_,?_⟩
 ·rw[GK]
  intro v hv;obtain⟨z,_,rfl⟩:=Fx.mp hv;rfl
 ·rw[Zxd]
  exact k
theorem ZJN {ws:List Str} {k:Nat} (h:k≤ws.length):cutV (ws.map V.str) none (some (k:Int))=(ws.take k).map V.str:=by
 rw[ZHo (by rw[Ax]; exact h),map_take]
theorem bh {a b:List Str} (h:("then" : Str)∉a):(a++("then" : Str)::b)[a.length]?=some "then"∧∀m,m < a.length→(a++("then" : Str)::b)[m]?≠some "then":=by
 refine⟨by simp,fun m hm e=>?_⟩;rw[Yaw hm]at e;exact h (Dm e)
noncomputable def ZDA:Sp:=fun vs H Q _=>∃(l:Ab) (a b:List Str),vs=[.ref l]∧H l=some (.lst ((a++("then" : Str)::b).map V.str))∧("then" : Str)∉a∧a.length+b.length≤90000∧∀o ps H',Same H H'→H o=none→H' o=some (.lst (ps.map V.ref))→ZEY H H' ps (En b)→Q (.ref o) H'
theorem ZnQ (T:Txt K mg t):FnS P w K mg base 3 "pieces_in" ["found"] (ZDA):=by
 refine⟨_,_,T.Q8.ok ZuV (fun vs H Q E h=>?_) (fun cdv A outer s H vs Q E hr h=>?_),T.ZoI,T.Q8.kp,T.Zpq⟩
 ·obtain⟨l,a,b,rfl,hl,ha,hz,q⟩:=h
  rfl
 obtain⟨l,a,b,rfl,hl,ha,hz,q⟩:=h;have ZlD:=Zld (P:=P) (w:=w) (base:=base) T;refine⟨_,(Ah (Av (Bj ZlD hr (Ac (Iz IW (pv 0) (Ho (Aj BJ (CG Ds YaX YcG Zxt (pv 0) (Ac Am Af)) Ag)) JW) Af)))),?_⟩;walk_at "rd0";refine⟨tyL hl,?_⟩;walk_at "";refine Zz9 hl (bh ha).1 (bh ha).2 (by omega) ?_;walk_at ""
 have ec:cutV ((a++("then" : Str)::b).map V.str) (some ((a.length:Int)+1)) none=b.map V.str:=by
  have:=OD (xs:=(a++("then" : Str)::b).map V.str) (k:=a.length+1) (by simp)
  have e:(a++("then" : Str)::b).drop (a.length+1)=b:=by
   rw[show a++("then" : Str)::b=(a++[("then" : Str)])++b by simp,List.drop_left' (by simp)]
  rw[←map_drop,e]at this;exact this
 refine Kz (SqL.of hl) ec fun l2 H1 s1 n1 e1=>?_;walk_at "";refine⟨l2,b,rfl,e1,by omega,fun o ps H2 s2 n2 e2 pp=>?_⟩;exact q o ps H2 (s1.trans s2) (s1.free n2) e2 (BV (fun _ _ z=>⟨s1.free z.1,z.2⟩) pp)
noncomputable def ZJf:Sp:=fun vs H Q _=>∃(l:Ab) (ws:List Str),vs=[.ref l]∧H l=some (.lst (ws.map V.str))∧2≤ws.length∧ws.length≤7∧Q .non H
theorem ZqG (T:Txt K mg t):FnS P w K mg base 1 "check_lamps" ["found"] (ZJf):=by
 refine⟨_,_,T.Q9.ok ZqO (fun vs H Q E h=>?_) (fun cdv A outer s H vs Q E hr h=>?_),T.ZlL,T.Q9.kp,T.Zmb⟩
 ·obtain⟨l,ws,rfl,hl,h2,h7,q⟩:=h
  rfl
 obtain⟨l,ws,rfl,hl,h2,h7,q⟩:=h
 refine⟨_,(Ah (Bl (PW.pt (Fp (Ay Jo (Dh Ed rfl T.B.len Ec (Ac (pv 0) Af)) Ag (Bd _)) (Fy (Ay Iw (Dh Ed rfl T.B.len Ec (Ac (pv 0) Af)) (Aj BJ (Hr rfl T.g_MOST_LAMPS) Ag) (Bd _)))))
   (Ah Gr)
   Bq)),?_⟩
 walk_at "rd0";rw[Ax];refine Ba (decide_eq_false (by omega)) ?_;walk_at "";rw[Ax];refine Ba (decide_eq_false (by omega)) ?_;walk_at "";exact q
structure MvWs (a b:List Str):Prop where
 na:("then" : Str)∉a
 nb:("then" : Str)∉b
 ln:a.length+b.length≤90000
 pc:∀p∈En b,2≤p.length∧p[1]?=some ("is" : Str)
noncomputable def ZJg:Sp:=fun vs H Q _=>∃(l:Ab) (a b:List Str),vs=[.ref l]∧H l=some (.lst ((a++("then" : Str)::b).map V.str))∧MvWs a b∧∀H',Same H H'→Q .non H'
theorem Zsq (T:Txt K mg t):FnS P w K mg base 5 "check_move" ["found"] (ZJg):=by
 refine⟨_,_,T.Ra.ok Zms (fun vs H Q E h=>?_) (fun cdv A outer s H vs Q E hr h=>?_),T.Zny,T.Ra.kp,T.ZnN⟩
 ·obtain⟨l,a,b,rfl,hl,M,q⟩:=h
  rfl
 obtain⟨l,a,b,rfl,hl,M,q⟩:=h;have ZkU:=ZnQ (P:=P) (w:=w) (base:=base) T
 refine⟨_,(Ai (Bl (Ay (Ja hr.units) (CG Ds YcA PySem.F.type_list_count ZAL (pv 0) (Ac Am Af)) Ag (Bd _))
   (Ah Gr)
   Bq)
   (Ah (Dd Cz rfl (Et (Bj ZkU hr (Ac (pv 0) Af))) (sg 1 Zms.nd)
   (Ah (Bl (PW.pt (Fp (Ay Jo (Dh Ed rfl T.B.len Ec (Ac (pv 1) Af)) Ag (Bd _)) (Fy (Ay (Ja hr.units) (Bm Bo (pv 1) Ag (fun _ _=>rfl)) Am (Bd _)))))
   (Ah Gr)
   Bq))))),?_⟩
 walk_at "rd0";refine⟨tyL hl,?_⟩;walk_at "";refine ZCH hl ?_
 have hc:(a++("then" : Str)::b).count ("then" : Str)=1:=by
  rw[List.count_append,List.count_cons_self,YcH.mpr M.na,YcH.mpr M.nb]
 rw[hc];walk_at "";refine Ba (by decide) ?_;walk_at "";refine⟨l,a,b,rfl,hl,M.na,M.ln,fun o ps H1 s1 n1 e1 pp=>?_⟩;refine seqL (xs:=ps.map V.ref) (fun i σ H'=>H'=H1∧∃v1,σ=[some (.ref l),v1]) ⟨rfl,_,rfl⟩ (fun i σ H' _ hp=>by obtain⟨rfl,_⟩:=hp; exact SqL.of e1) ?_ ?_
 ·rintro i x σ H' hx ⟨rfl,v1,rfl⟩
  obtain⟨p,rfl,hp⟩:=FQ hx;obtain⟨pc,hpc,np,ep⟩:=Jf pp hp;obtain⟨h2,h1⟩:=M.pc pc (Dm hpc);walk_at "";rw[Ax];refine Ba (decide_eq_false (by omega)) ?_;walk_at "";refine By (j:=1) ep (v:=.str "is") (by rw[El,h1]; rfl) ?_;walk_at "";refine Ba (by decide) ?_;walk_at "";exact⟨rfl,_,rfl⟩
 ·rintro σ H' ⟨rfl,v1,rfl⟩
  walk_at "";exact q _ s1
noncomputable def ZJe:Sp:=fun vs H Q _=>∃(l:Ab) (x:Str) (ws:List Str),vs=[.ref l]∧H l=some (.lst ((x::ws).map V.str))∧(x = "lamps"→1≤ws.length∧ws.length≤6)∧(x = "move"→∃a b,ws=a++("then" : Str)::b∧MvWs ("move"::a) b)∧∀H',Same H H'→Q .non H'
theorem Zso (T:Txt K mg t):FnS P w K mg base 7 "check_form" ["found"] (ZJe):=by
 refine⟨_,_,T.Rb.ok ZsO (fun vs H Q E h=>?_) (fun cdv A outer s H vs Q E hr h=>?_),T.Znw,T.Rb.kp,T.ZnL⟩
 ·obtain⟨l,x,ws,rfl,hl,h1,h2,q⟩:=h
  rfl
 obtain⟨l,x,ws,rfl,hl,h1,h2,q⟩:=h;have Zrw:=ZqG (P:=P) (w:=w) (base:=base) T;have Zs2:=Zsq (P:=P) (w:=w) (base:=base) T
 refine⟨_,(Ai (Bl (Ay (BL hr.units) (Bm Bo (pv 0) Ag (fun _ _=>rfl)) Am (Bd _))
   (Ah (Dc (Bj Zrw hr (Ac (pv 0) Af))))
   Bq)
   (Ah (Bl (Ay (BL hr.units) (Bm Bo (pv 0) Ag (fun _ _=>rfl)) Am (Bd _))
   (Ah (Dc (Bj Zs2 hr (Ac (pv 0) Af))))
   Bq))),?_⟩
 walk_at "rd0";refine By (j:=0) hl (v:=.str x) rfl ?_;walk_at "";refine Di (fun h=>?_) (fun h=>?_)
 ·obtain⟨a1,a6⟩:=h1 h
  subst h;walk_at "";refine⟨l,_,rfl,hl,by rw[CT]; omega,by rw[CT]; omega,?_⟩;walk_at "";refine By (j:=0) hl (v:=.str "lamps") rfl ?_;walk_at "";refine Ba (by decide) ?_;walk_at "";exact q _ (Same.refl _)
 ·walk_at ""
  refine By (j:=0) hl (v:=.str x) rfl ?_;walk_at "";refine Di (fun h'=>?_) (fun h'=>?_)
  ·obtain⟨a,b,rfl,M⟩:=h2 h'
   subst h';walk_at "";refine⟨l,"move"::a,b,rfl,hl,M,fun H1 s1=>?_⟩;walk_at "";exact q _ s1
  ·walk_at ""
   exact q _ (Same.refl _)
noncomputable def noNm:List Str:=["and","or","not","either","yes","no","then","is","(",")",","]
noncomputable def ZJm:Sp:=fun vs H Q _=>∃(l:Ab) (x:Str) (ns:List Str),vs=[.ref l]∧H l=some (.lst ((x::ns).map V.str))∧ns.length≤6∧(∀z∈ns,z∉noNm∧z.length≤8)∧ns.Nodup∧∀p H',Same H H'→H p=none→H' p=some (.lst (ns.map V.str))→Q (.ref p) H'
theorem Zwu (T:Txt K mg t):FnS P w K mg base 1 "names_in" ["found"] (ZJm):=by
 refine⟨_,_,T.Rc.ok Xf (fun vs H Q E h=>?_) (fun cdv A outer s H vs Q E hr h=>?_),T.ZqY,T.Rc.kp,T.Zrf⟩
 ·obtain⟨l,x,ns,rfl,hl,h6,hn,nd,q⟩:=h
  rfl
 obtain⟨l,x,ns,rfl,hl,h6,hn,nd,q⟩:=h
 refine⟨_,(Ai (ss 1 Xf.nd (Iz IW (pv 0) (Ho Ag) JW))
   (Ai (Dd Cz rfl (ZBf rfl T.B.enumerate (pv 1)) (Iv rfl (Fb (sg 2 Xf.nd) (Fb (sg 3 Xf.nd) Iu)))
   (Ai (Bl (PW.pt (Fp (Ay Jt (pv 3) (Hr rfl T.g_NO_NAMES) (by with_unfolding_all rfl)) (Fy (Ay Iw (Dh Ed rfl T.B.len Ec (Ac (pv 3) Af)) (Hr rfl T.g_LONGEST_NAME) (Bd _)))))
   (Ah Gr)
   Bq)
   (Ah (Bl (Ay Jt (pv 3) (Iz IW (pv 1) JW (Ho (pv 2))) (by with_unfolding_all rfl))
   (Ah Gr)
   Bq))))
   (Ah (Av (pv 1))))),?_⟩
 walk_at "rd0";refine Kz (SqL.of hl) (OD (k:=1) (by simp)) fun nl H1 s1 n1 e1=>?_;have e1:H1 nl=some (.lst (ns.map V.str)):=e1;walk_at "";refine ZJ7 (xs:=ns.map V.str) (fun i σ H'=>Same H1 H'∧∃v v',σ=[some (.ref l),some (.ref nl),v,v']) ⟨Same.refl _,_,_,rfl⟩ (fun i σ H' _ hp=>SqL.of (hp.1 _ _ e1)) ?_ ?_
 ·rintro i x T' σ H0 H' hx ⟨s2,v,v',rfl⟩ s3 n3 eT
  obtain⟨z,rfl,hz⟩:=ZrO hx;obtain⟨z1,z2⟩:=hn z (Dm hz);have hil:=(Ej.mp hz).1;refine Jb eT ?_;walk_at "";refine KY (T.q_NO_NAMES H') ?_;walk_at "";refine Ba (decide_eq_false z1) ?_;walk_at "";refine ZHM (Ca (by omega)) ?_;walk_at "";refine Ba (decide_eq_false (by omega)) ?_;walk_at "";have w3:=s2.trans s3;refine Kz (SqL.of (w3 _ _ e1)) (ZJN (by omega)) fun l2 H4 s4 n4 e4=>?_;walk_at "";refine Z1 (.inl e4) ?_;walk_at "";refine Ba (decide_eq_false fun hm=>?_) ?_
  ·obtain⟨j,hj,ej⟩:=Ybc hm
   rw[Gu]at hj;rw[YcI]at ej;have x1:=Vw nd hz;have x2:=Vw nd (k:=j) (z:=z) (by rw[Dr (by omega),ej]);rw[x1]at x2;have:=Dl x2;omega
  walk_at "";exact⟨w3.trans s4,_,_,rfl⟩
 ·rintro σ H' ⟨s2,v,v',rfl⟩
  walk_at "";exact q nl H' (s1.trans s2) n1 (s2 _ _ e1)
noncomputable def ZBL:Sp:=fun vs H Q _=>∃(o nl:Ab) (ps:List Ab) (pcs:List (List Str)) (ns:List Str) (ls:List Nat),vs=[.ref o,.ref nl]∧H o=some (.lst (ps.map V.ref))∧Bs (fun p pc=>H p=some (.lst (pc.map V.str))) ps pcs∧H nl=some (.tup (ns.map V.str))∧ns.length≤6∧Bs (fun pc k=>∃z r,pc=z::r∧idxS z ns=some k) pcs ls∧ls.Nodup∧∀p H',Same H H'→H p=none→H' p=some (.lst (ls.map fun k:Nat=>V.int (k:Int)))→Q (.ref p) H'
theorem Zwt (T:Txt K mg t):FnS P w K mg base 1 "lamps_in" ["pieces","names"] (ZBL):=by
 refine⟨_,_,T.Rf.ok Xg (fun vs H Q E h=>?_) (fun cdv A outer s H vs Q E hr h=>?_),T.ZqX,T.Rf.kp,T.Zre⟩
 ·obtain⟨o,nl,ps,pcs,ns,ls,rfl,ho,hp,hn,h6,hk,nd,q⟩:=h
  rfl
 obtain⟨o,nl,ps,pcs,ns,ls,rfl,ho,hp,hn,h6,hk,nd,q⟩:=h;have hpl:=Dj hp;have hkl:=Dj hk
 have hnl:ls.length≤6:=by
  have:∀k∈ls,k < 6:=fun k hm=>by
   obtain⟨i,hi,e⟩:=Ybc hm;obtain⟨pc,_,z,r,_,hx⟩:=Zri hk (i:=i) (b:=k) (by rw[Dr hi,e]);have:=(Ej.mp (Z3 hx).1).1;omega
  have:=ZBg (fun i=>ls.getD i 0) ls.length (Im 6) (fun i hi=>by
   rw[N8];apply this;rw[Gd,Dr hi]
   exact jf hi) (fun i j hij hj e=>by
   rw[Gd,Gd,Dr (by omega),Dr hj]at e;have:=ZAN nd (Dr (l:=ls) (i:=i) (by omega)) (by rw[Dr hj]; exact congrArg some e.symm)
   omega)
  simpa using this
 refine⟨_,(Ai (ss 2 Xg.nd (Br Af))
   (Ai (Dd Cz rfl (Et (pv 0)) (sg 3 Xg.nd)
   (Ai (ss 4 Xg.nd (Bm Bo (pv 3) Ag (fun _ _=>rfl)))
   (Ai (Bl (PW.pt (Fp (Ay Oz (pv 4) (pv 1) (by with_unfolding_all rfl)) (Fy (Ay Jt (uw jk Ya6 uv (pv 1) (Ac (pv 4) Af)) (pv 2) (by with_unfolding_all rfl)))))
   (Ah Gr)
   Bq)
   (Ah (Dc (CG Ds Eg Em Ea (pv 2) (Ac (uw jk Ya6 uv (pv 1) (Ac (pv 4) Af)) Af)))))))
   (Ah (Av (pv 2))))),?_⟩
 walk_at "rd0";refine BR (by simp) fun a H1 s1 n1 e1=>?_;walk_at "";refine seqL (xs:=ps.map V.ref) (fun i σ H'=>Same H H'∧H' a=some (.lst (K4 (ls.take i)))∧∃v3 v4,σ=[some (.ref o),some (.ref nl),some (.ref a),v3,v4]) ⟨s1,e1,_,_,rfl⟩ (fun i σ H' _ hp=>SqL.of (hp.1 _ _ ho)) ?_ ?_
 ·rintro i x σ H2 hx ⟨s2,e2,v3,v4,rfl⟩
  obtain⟨p,rfl,hpi⟩:=FQ hx;obtain⟨pc,hpc,ep⟩:=Jf hp hpi;obtain⟨k,hki,z,r,rfl,hix⟩:=Jf hk hpc;obtain⟨ix1,ix2⟩:=Z3 hix;have hil:=(Ej.mp hki).1;have hk6:=(Ej.mp ix1).1;have ep2:=s2 _ _ ep;have hn2:=s2 _ _ hn;walk_at "";refine By (j:=0) ep2 (v:=.str z) rfl ?_;walk_at "";refine ZHQ (.inr hn2) ?_;rw[decide_eq_true (Dm ix1)];walk_at "";refine Ba rfl ?_;walk_at "";refine⟨⟨_,_,rfl,hn2⟩,?_⟩;walk_at "";refine ux hn2 ix1 ix2 ?_;walk_at "";refine ZFv e2 ?_;walk_at "";refine Ba (decide_eq_false fun hm=>?_) ?_
  ·obtain⟨j,hj,ej⟩:=Ybc hm
   rw[Gu]at hj;rw[YcI]at ej;have:=ZAN nd (i:=j) (by rw[Dr (by omega),ej]) hki;omega
  walk_at "";refine⟨tyL e2,?_⟩;walk_at "";refine⟨⟨_,_,rfl,hn2⟩,?_⟩;walk_at "";refine ux hn2 ix1 ix2 ?_;walk_at "";refine Eu e2 (by unfold K4; rw[Ax,Gu]; omega) fun H3 b3 e3=>?_;walk_at "";refine⟨b3.same n1 s2,?_,_,_,rfl⟩;rw[e3,Ff hki];unfold K4;rw[Cp];rfl
 ·rintro σ H2 ⟨s2,e2,v3,v4,rfl⟩
  walk_at "";rw[Ax,hpl,hkl,Fw]at e2;exact q a H2 s2 n1 e2
structure MvRd (ns a b:List Str) (v:Fm×List (Nat×Fm)):Prop where
 ws:MvWs ("move"::a) b
 gd:Hk ns a=some v.1
 cs:Bs (fun pc (c:Nat×Fm)=>∃z r,pc=z::("is" : Str)::r∧idxS z ns=some c.1∧Hk ns r=some c.2) (En b) v.2
 nd:(v.2.map Ge).Nodup
 pa:∀z∈a,JB z
 pb:∀p∈En b,∀z∈p,JB z
noncomputable def ZDx (t:Ad):Sp:=fun vs H Q _=>∃(l nl:Ab) (a b ns:List Str) (v:Fm×List (Nat×Fm)),vs=[.ref l,.ref nl]∧H l=some (.lst ((("move" : Str)::(a++("then" : Str)::b)).map V.str))∧H nl=some (.tup (ns.map V.str))∧ns.length≤6∧MvRd ns a b v∧∀x H',Same H H'→MvW t H' x v→Q (.ref x) H'
theorem ZyT (T:Txt K mg t):FnS P w K mg base 12 "move_in" ["found","names"] ((ZDx t)):=by
 refine⟨_,_,T.Rg.ok LC (fun vs H Q E h=>?_) (fun cdv A outer s H vs Q E hr h=>?_),T.Zth,T.Rg.kp,T.Zur⟩
 ·obtain⟨l,nl,a,b,ns,v,rfl,hl,hn,h6,M,q⟩:=h
  rfl
 obtain⟨l,nl,a,b,ns,v,rfl,hl,hn,h6,M,q⟩:=h;have ZkU:=ZnQ (P:=P) (w:=w) (base:=base) T;have Zx2:=Zwt (P:=P) (w:=w) (base:=base) T;have Tz:=Zip (P:=P) (w:=w) (base:=base) T;have ZG8:=ZF6 (P:=P) (w:=w) (base:=base) T;have hln:=M.ws.ln;have hl':H l=some (.lst (((("move" : Str)::a)++("then" : Str)::b).map V.str)):=hl
 refine⟨_,(Ai (ss 2 LC.nd (Bj ZkU hr (Ac (pv 0) Af)))
   (Ai (ss 3 LC.nd (Bj Zx2 hr (Ac (pv 2) (Ac (pv 1) Af))))
   (Ai (ss 4 LC.nd (W7 Tz hr (Ac (Iz IW (pv 0) (Ho Ag) (Ho (CG Ds YaX YcG Zxt (pv 0) (Ac Am Af)))) (Ac (pv 1) Af))))
   (Ai (ss 5 LC.nd (Br Af))
   (Ai (Dd Cz rfl (ZIM rfl T.B.zip (Ac (pv 3) (Ac (pv 2) Af))) (Iv rfl (Fb (sg 6 LC.nd) (Fb (sg 7 LC.nd) Iu)))
   (Ah (Dc (CG Ds Eg Em Ea (pv 5) (Ac (Eh (Ac (pv 6) (Ac (W7 Tz hr (Ac (Iz IW (pv 7) (Ho Ag) JW) (Ac (pv 1) Af))) Af))) Af)))))
   (Ah (Av (IK ZG8 hr (Ac (pv 4) (Ac (pv 5) Af)))))))))),?_⟩
 walk_at "rd0";refine⟨l,"move"::a,b,rfl,hl',M.ws.na,M.ws.ln,fun o ps H1 s1 n1 e1 pp=>?_⟩;walk_at "";have hcl:=Dj M.cs;have hpl:=Dj pp;refine⟨o,nl,ps,En b,ns,v.2.map Ge,rfl,e1,BV (fun _ _ z=>z.2) pp,s1 _ _ hn,h6,Zrj (fun _ _ ⟨z,r,e,hx,_⟩=>⟨z,_,e,hx⟩) M.cs,M.nd,fun la H2 s2 n2 e2=>?_⟩;walk_at "";refine⟨tyL ((s1.trans s2) _ _ hl'),?_⟩;walk_at "";refine Zz9 ((s1.trans s2) _ _ hl') (bh M.ws.na).1 (bh M.ws.na).2 (by omega) ?_;walk_at ""
 have ec:cutV (((("move" : Str)::a)++("then" : Str)::b).map V.str) (some 1) (some (((("move" : Str)::a).length:Nat):Int))=a.map V.str:=by
  have:=ZFd (((("move" : Str)::a)++("then" : Str)::b).map V.str) 1 (("move" : Str)::a).length;refine this.trans ?_;rw[←map_drop,←map_take]
  congr 1
  simp
 refine Kz (SqL.of ((s1.trans s2) _ _ hl')) ec fun l3 H3 s3 n3 e3=>?_;have w3:=s1.trans (s2.trans s3);walk_at "";refine⟨l3,nl,a,ns,rfl,e3,w3 _ _ hn,by omega,by simp only [CT]at hln; omega,M.pa,fun h=>(by rw[M.gd]at h; cases h),fun f hf g H4 s4 fE=>?_⟩;obtain rfl:v.1=f:=Dl (M.gd.symm.trans hf);walk_at "";refine BR (by simp) fun cl H5 s5 n5 e5=>?_;walk_at "";have w5:=w3.trans (s4.trans s5);have e2':=(s3.trans (s4.trans s5)) _ _ e2;have e1':=(s2.trans (s3.trans (s4.trans s5))) _ _ e1;have n5':H cl=none:=(w3.trans s4).free n5;have nla:la≠cl:=Bw ((s3.trans s4) _ _ e2) n5;have no:o≠cl:=Bw ((s2.trans (s3.trans s4)) _ _ e1) n5
 have nps:∀a∈ps,a≠cl:=fun a ha=>by
  obtain⟨pc,_,e⟩:=Zm3 pp a ha;exact Bw ((s2.trans (s3.trans s4)) _ _ e) n5
 have hpc:=ZA3 b;refine⟨la,o,_,_,rfl,SqL.of e2',SqL.of e1',?_⟩;refine ZJ0 v.2.length (by rw[Ax,Ax,Ax]; omega) (fun i σ H'=>Same H H'∧FmE t H' g v.1∧H' la=some (.lst ((v.2.map Ge).map fun k:Nat=>V.int (k:Int)))∧H' o=some (.lst (ps.map V.ref))∧Bs (fun p pc=>H' p=some (.lst (pc.map V.str))) ps (En b)∧(∃hs,H' cl=some (.lst (hs.map V.ref))∧Bs (ChW t H') hs (v.2.take i))∧∃v6 v7,σ=[some (.ref l),some (.ref nl),some (.ref o),some (.ref la),some (.ref g),some (.ref cl),v6,v7]) ⟨w5,fE.same s5,e2',e1',BV (fun _ _ z=>(s2.trans (s3.trans (s4.trans s5))) _ _ z.2) pp,⟨[],e5,.nil⟩,_,_,rfl⟩ (fun i σ H' _ hp=>⟨SqL.of hp.2.2.1,SqL.of hp.2.2.2.1⟩) ?_ ?_
 ·rintro i x y T' σ H6 H7 hx hy ⟨s6,f6,e6,o6,p6,⟨hs,c6,d6⟩,v6,v7,rfl⟩ s7 n7 eT
  obtain⟨p,rfl,hpi⟩:=FQ hy;obtain⟨pc,hpc,ep⟩:=Jf p6 hpi;obtain⟨c,hci,z,r,rfl,hix,hrd⟩:=Jf M.cs hpc
  have ex:x=.int (c.1:Int):=by
   rw[El,El,hci]at hx;exact(Dl hx).symm
  subst ex;have hil:=(Ej.mp hci).1;have hmem:=Dm hpc;have hle:=ZxB b _ hmem;simp only [CT]at hle hln;have hcl':=c6;refine Jb eT ?_;walk_at "";refine⟨tyL (s7 _ _ c6),?_⟩;walk_at "";refine Kz (SqL.of (s7 _ _ ep)) (OD (k:=2) (by simp)) fun l8 H8 s8 n8 e8=>?_;walk_at "";have w8:=s7.trans s8;refine⟨l8,nl,r,ns,rfl,e8,(s6.trans w8) _ _ hn,by omega,by omega,fun z hz=>M.pb _ hmem z (CW _ (CW _ hz)),fun h=>(by rw[hrd]at h; cases h),fun f hf g9 H9 s9 fE9=>?_⟩;obtain rfl:c.2=f:=Dl (hrd.symm.trans hf);walk_at "";refine Ey (by simp) fun tp H10 s10 n10 e10=>?_;walk_at "";have w10:=w8.trans (s9.trans s10);have c10:=w10 _ _ c6;have hsl:=Dj d6;rw[Gu]at hsl
  have hsl2:hs.length≤v.2.length:=by rw[hsl]; exact YbA _ _
  refine Eu c10 (by rw[Ax]; omega) fun H11 b11 e11=>?_;walk_at "";have x11:=b11.ext c10;refine⟨b11.same n5' (s6.trans w10),(f6.ext (Ext.of w10)).ext x11,b11 _ _ nla (w10 _ _ e6),b11 _ _ no (w10 _ _ o6),bf p6 fun a pc ha e=>b11 _ _ (nps a ha) (w10 _ _ e),⟨hs++[tp],by rw[e11,Cp]; rfl,?_⟩,_,_,rfl⟩
  ·rw[Ff hci]
   exact Ie (BV (fun _ _ z=>(z.ext (Ext.of w10)).ext x11) d6) (.cons ⟨g9,x11 _ _ e10 (fun _ z=>nomatch z),(fE9.ext (Ext.of s10)).ext x11⟩ .nil)
 ·rintro σ H6 ⟨s6,f6,e6,o6,p6,⟨hs,c6,d6⟩,v6,v7,rfl⟩
  walk_at "";rw[Fw]at d6;refine ZFy c6 f6 d6 fun x H7 s7 n7 mv=>?_;exact q x H7 (s6.trans s7) mv
inductive Ent
 | st (f:Fm)
 | bd (f:Fm)
 | mv (v:Fm×List (Nat×Fm))
inductive EntW (ns:List Str):List Str→Ent→Prop
 | st {r:List Str} {f:Fm}:Hk ns r=some f→(∀z∈r,JB z)→r.length≤90000→EntW ns ("start"::r) (.st f)
 | bd {r:List Str} {f:Fm}:Hk ns r=some f→(∀z∈r,JB z)→r.length≤90000→EntW ns ("bad"::r) (.bd f)
 | mv {a b:List Str} {v:Fm×List (Nat×Fm)}:MvRd ns a b v→EntW ns ("move"::(a++("then" : Str)::b)) (.mv v)
noncomputable def ZJK (t:Ad) (H:Hp) (x:Ab):Ent→Prop
 | .st f=>FmE t H x f
 | .bd f=>FmE t H x f
 | .mv v=>MvW t H x v
noncomputable def ZGR (t:Ad):Sp:=fun vs H Q _=>∃(l nl:Ab) (ws ns:List Str) (e:Ent),vs=[.ref l,.ref nl]∧H l=some (.lst (ws.map V.str))∧H nl=some (.tup (ns.map V.str))∧ns.length≤6∧EntW ns ws e∧∀x H',Same H H'→ZJK t H' x e→Q (.ref x) H'
theorem Zwv (T:Txt K mg t):FnS P w K mg base 14 "thing_in" ["found","names"] ((ZGR t)):=by
 refine⟨_,_,T.Rh.ok ZwN (fun vs H Q E h=>?_) (fun cdv A outer s H vs Q E hr h=>?_),T.ZqZ,T.Rh.kp,T.Zrg⟩
 ·obtain⟨l,nl,ws,ns,e,rfl,hl,hn,h6,E0,q⟩:=h
  rfl
 obtain⟨l,nl,ws,ns,e,rfl,hl,hn,h6,E0,q⟩:=h;have Zzh:=ZyT (P:=P) (w:=w) (base:=base) T;have Tz:=Zip (P:=P) (w:=w) (base:=base) T
 refine⟨_,(Ai (Bl (Ay (BL hr.units) (Bm Bo (pv 0) Ag (fun _ _=>rfl)) Am (Bd _))
   (Ah (Av (Bj Zzh hr (Ac (pv 0) (Ac (pv 1) Af)))))
   Bq)
   (Ah (Av (W7 Tz hr (Ac (Iz IW (pv 0) (Ho Ag) JW) (Ac (pv 1) Af)))))),?_⟩
 walk_at "rd0"
 cases E0 with
 | st h1 h2 h3=>
  refine By (j:=0) hl (v:=.str "start") rfl ?_;walk_at "";refine Ba (by decide) ?_;walk_at "";refine Kz (SqL.of hl) (OD (k:=1) (by simp)) fun l2 H1 s1 n1 e1=>?_;walk_at "";refine⟨l2,nl,_,ns,rfl,e1,s1 _ _ hn,by omega,by omega,h2,fun h=>(by rw[h1]at h; cases h),fun f' hf y H2 s2 fE=>?_⟩;obtain rfl:=Dl (h1.symm.trans hf);exact q y H2 (s1.trans s2) fE
 | bd h1 h2 h3=>
  refine By (j:=0) hl (v:=.str "bad") rfl ?_;walk_at "";refine Ba (by decide) ?_;walk_at "";refine Kz (SqL.of hl) (OD (k:=1) (by simp)) fun l2 H1 s1 n1 e1=>?_;walk_at "";refine⟨l2,nl,_,ns,rfl,e1,s1 _ _ hn,by omega,by omega,h2,fun h=>(by rw[h1]at h; cases h),fun f' hf y H2 s2 fE=>?_⟩;obtain rfl:=Dl (h1.symm.trans hf);exact q y H2 (s1.trans s2) fE
 | mv M=>
  refine By (j:=0) hl (v:=.str "move") rfl ?_;walk_at "";refine Cg (by decide) ?_;walk_at "";exact⟨l,nl,_,_,ns,_,rfl,hl,hn,h6,M,fun x H1 s1 mv=>q x H1 s1 mv⟩
structure LmpW (ns:List Str):Prop where
 n1:1≤ns.length
 n6:ns.length≤6
 no:∀z∈ns,z∉noNm∧z.length≤8
 nd:ns.Nodup
def LnW (z:Str) (ws:List Str):Prop:=Asc z∧z.length≤16000∧okW z=true∧Txt.words (pad z)=ws∧ws≠[]
noncomputable def Vx:List Str:=["start","bad","move"]
noncomputable def thK (as:List Ab):List (Key×V):=List.zipWith (fun s a=>((BZ s:Key),V.ref a)) Vx as
theorem EntW.hd {ns ws:List Str} {e:Ent} (h:EntW ns ws e):∃x r,ws=x::r∧x∈Vx∧x≠"lamps"∧(x = "move"→∃a b,r=a++("then" : Str)::b∧MvWs ("move"::a) b):=by
 cases h with
 | st _ _ _=>exact⟨_,_,rfl,by decide,by decide,fun h=>absurd h (by decide)⟩
 | bd _ _ _=>exact⟨_,_,rfl,by decide,by decide,fun h=>absurd h (by decide)⟩
 | mv M=>exact⟨_,_,rfl,by decide,by decide,fun _=>⟨_,_,rfl,M.ws⟩⟩
end
unseal PE PA PS PSs
def okS (t:Ad) (ns:List Str) (f:Fm):Prop:=(∀H p,FmE t H p f→FmAt t H 61 p f)∧f.low ns.length=true∧fWt f≤100
noncomputable def Ka (ns:List Str) (c:Nat×Fm):Str:=ns.getD c.1 BK++" is "++Dk ns c.2
noncomputable def shM (ns:List Str) (v:Fm×List (Nat×Fm)):Str:=("move " : Str)++Dk ns v.1++" then "++Txt.join ", " (v.2.map (Ka ns))
structure okM (t:Ad) (ns:List Str) (v:Fm×List (Nat×Fm)):Prop where
 gd:okS t ns v.1
 cs:∀c∈v.2,okS t ns c.2∧c.1 < ns.length
 ln:v.2.length≤6
noncomputable def Ik (ns:List Str) (ss bs:List Fm) (vs:List (Fm×List (Nat×Fm))):List Str:=[("lamps " : Str)++Txt.join " " ns]++ss.map (fun f=>("start " : Str)++Dk ns f)++bs.map (fun f=>("bad " : Str)++Dk ns f)++vs.map (shM ns)
theorem ZCM (z:Str) (ts:List Str):(Txt.join z ts).length≤(ts.map (·.length)).sum+ts.length * z.length:=by
 show(Wn _ _).length≤_;rw[Ui];exact Ya9 _ _
theorem ZwP {B:Nat}:∀{zs:List Str},(∀z∈zs,z.length≤B)→(zs.map (·.length)).sum≤B * zs.length
 | [],_=>De _
 | z::zs,h=>by
  have a:=h z Dg;have b:=ZwP (zs:=zs) fun x hx=>h x (CW _ hx);rw[Dq,jz,CT,Yba];omega
theorem TF {B:Nat} {z:Str} {ts:List Str} (h:∀y∈ts,y.length≤B) (hb:B≤3000) (hz:z.length≤10) (hn:ts.length≤10):Kp z ts=true∧(Txt.join z ts).length≤B * 10+100:=by
 have a:=ZwP h;have c:B * ts.length≤B * 10:=Wo _ hn;have d:ts.length * z.length≤10 * 10:=Nat.mul_le_mul hn hz;refine⟨?_,?_⟩
 ·unfold Kp j0
  rw[j4];rw[decide_eq_false (j5.mpr (Ca (by omega)))];rfl
 ·have:=ZCM z ts
  omega
theorem NQ {ns:List Str} (h:∀z∈ns,z.length≤8) (f:Fm):(Dk ns f).length≤20 * fWt f:=Vr (fun z hz=>by have:=h z hz; omega) f
seal PE PA PS PSs
section
variable {P:Bp} {w:Bg} {K:Ao} {mg:Str→Option Ae} {base:Aq} {t:Ad} {n:Nat}
noncomputable def ZKd (t:Ad):Sp:=fun vs H Q _=>∃(x nl:Ab) (ns:List Str) (v:Fm×List (Nat×Fm)),vs=[.ref x,.ref nl]∧MvW t H x v∧H nl=some (.lst (ns.map V.str))∧ns.length≤6∧(∀z∈ns,z.length≤8)∧okM t ns v∧∀H',Same H H'→Q (.str (shM ns v)) H'
theorem Zpz (T:Txt K mg t):FnS P w K mg base 66 "written_move" ["move","names"] ((ZKd t)):=by
 refine⟨_,_,T.Q4.ok Xe (fun vs H Q E h=>?_) (fun cdv A outer s H vs Q E hr h=>?_),T.ZkG,T.Q4.kp,T.ZkN⟩
 ·obtain⟨x,nl,ns,v,rfl,⟨dx,g,tp,hs,e1,e2,f1,p⟩,hn,h6,h8,ok,q⟩:=h
  rfl
 obtain⟨x,nl,ns,v,rfl,⟨dx,g,tp,hs,e1,e2,f1,p⟩,hn,h6,h8,ok,q⟩:=h;have D_shown:=Zmx (P:=P) (w:=w) (base:=base) T 61
 have h20:∀z∈ns,z.length≤20:=fun z hz=>by have:=h8 z hz; omega
 refine⟨_,(Ai (ss 2 Xe.nd (Br Af))
   (Ai (Dd Cz rfl (Et (Cj (pv 0) rfl)) (Iv rfl (Fb (sg 3 Xe.nd) (Fb (sg 4 Xe.nd) Iu)))
   (Ah (Dc (CG Ds Eg Em Ea (pv 2) (Ac (Aj BJ (Aj BJ (Bm Bo (pv 1) (pv 3) (fun _ _=>rfl)) Am) (Eb D_shown hr (pv 4) (Ac (pv 1) Af))) Af)))))
   (Ah (Av (Aj BJ (Aj BJ (Aj BJ Am (Eb D_shown hr (Cj (pv 0) rfl) (Ac (pv 1) Af))) Am) (CG HB Ld Le KC Am (Ac (pv 2) Af))))))),?_⟩
 walk_at "rd0";refine BR (by simp) fun pl H1 s1 n1 e3=>?_;walk_at "";refine⟨x,_,_,_,_,rfl,s1 _ _ e1,T.J4,T.S6,Zra _ _,?_⟩;have hpl:=Dj p;have hl6:=ok.ln;refine seqT (xs:=hs.map V.ref) (fun i σ H'=>Same H H'∧H' pl=some (.lst (((v.2.take i).map (Ka ns)).map V.str))∧∃v3 v4,σ=[some (.ref x),some (.ref nl),some (.ref pl),v3,v4]) ⟨s1,e3,_,_,rfl⟩ (fun i σ H' _ hp=>by obtain⟨s2,_⟩:=hp; exact SqT.of (s2 _ _ e2)) ?_ ?_
 ·rintro i y σ H2 hy ⟨s2,c2,v3,v4,rfl⟩
  obtain⟨h,rfl,hx'⟩:=FQ hy;obtain⟨c,hgi,b,ht,hf⟩:=Jf p hx';obtain⟨okc,hc6⟩:=ok.cs c (Dm hgi);have hsl:=NQ h8 c.2;have hfw:=okc.2.2;have hil:=(Ej.mp hgi).1;have hf2:=okc.1 H2 b (hf.ext (Ext.of s2));refine Jb (s2 _ _ ht) ?_;walk_at "";refine⟨tyL c2,?_⟩;walk_at ""
  have hgz:ns[c.1]?=some (ns.getD c.1 BK):=by rw[Gd,Dr hc6]; rfl
  refine By (j:=c.1) (s2 _ _ hn) (v:=.str (ns.getD c.1 BK)) (by rw[El,hgz]; rfl) ?_;walk_at "";have l1:=h8 _ (Dm hgz)
  have l2:Cq " is " = 4:=by decide +kernel
  refine Ew (Ca (by omega)) ?_;walk_at "";obtain⟨C,dx',fs',e',hC,hlk⟩:=hf2.ins "shown" (by decide +kernel) (by decide +kernel) (by decide +kernel) (by decide +kernel);refine⟨b,C,dx',fs',rfl,e',hC,hlk,?_⟩;walk_at "";refine⟨e',b,nl,c.2,ns,rfl,hf2,s2 _ _ hn,h20,okc.2.1,by omega,fun H3 s3=>?_⟩;refine Ew (Ca (by rw[Ce]; omega)) ?_;walk_at "";refine Eu (s3 _ _ c2) (by rw[Ax,Ax,Gu]; omega) fun H4 b4 e4=>?_;walk_at "";refine⟨b4.same n1 (s2.trans s3),?_,_,_,rfl⟩;rw[Ff hgi,Cp,Cp];exact e4
 ·rintro σ H2 ⟨s2,c2,v3,v4,rfl⟩
  rw[Ax,hpl,Fw]at c2;have hsl:=NQ h8 v.1;have hfw:=ok.gd.2.2;have hf2:=ok.gd.1 H2 g (f1.ext (Ext.of s2))
  have l1:Cq "move " = 5:=by decide +kernel
  have l2:Cq " then " = 6:=by decide +kernel
  obtain⟨j1,j2⟩:=TF (B:=2020) (z:=", ") (ts:=v.2.map (Ka ns)) (fun y hy=>by
   obtain⟨c,hc,rfl⟩:=Fx.mp hy;obtain⟨okc,hc6⟩:=ok.cs c hc;have a:=NQ h8 c.2;have b:=okc.2.2
   have hgz:ns[c.1]?=some (ns.getD c.1 BK):=by rw[Gd,Dr hc6]; rfl
   have d:=h8 _ (Dm hgz)
   have e:Cq " is " = 4:=by decide +kernel
   unfold Ka;rw[Ce,Ce]
   omega) (by omega) (by decide) (by rw[Ax]; omega)
  walk_at "";refine⟨x,_,_,_,_,rfl,s2 _ _ e1,T.J4,T.S5,Zxk _ _,?_⟩;walk_at "";obtain⟨C,dx',fs',e',hC,hlk⟩:=hf2.ins "shown" (by decide +kernel) (by decide +kernel) (by decide +kernel) (by decide +kernel);refine⟨g,C,dx',fs',rfl,e',hC,hlk,?_⟩;walk_at "";refine⟨e',g,nl,v.1,ns,rfl,hf2,s2 _ _ hn,h20,ok.gd.2.1,by omega,fun H3 s3=>?_⟩;refine Ew (Ca (by omega)) ?_;walk_at "";refine Ew (Ca (by rw[Ce]; omega)) ?_;walk_at "";refine⟨tyS,?_⟩;walk_at "";refine⟨_,pl,_,rfl,rfl,SqL.of (s3 _ _ c2),j1,?_⟩;refine Ew (Ca (by rw[Ce,Ce]; omega)) ?_;exact q H3 (s2.trans s3)
noncomputable def spWr (t:Ad):Sp:=fun vs H Q _=>∃(x:Ab) (ns:List Str) (ss bs:List Fm) (us:List (Fm×List (Nat×Fm))),vs=[.ref x]∧MacW t H x ns ss bs us∧ns.length≤6∧(∀z∈ns,z.length≤8)∧(∀f∈ss,okS t ns f)∧(∀f∈bs,okS t ns f)∧(∀v∈us,okM t ns v)∧ss.length+bs.length+us.length≤1000∧∀l H',Same H H'→H l=none→H' l=some (.lst ((Ik ns ss bs us).map V.str))→Q (.ref l) H'
theorem ZyW (T:Txt K mg t):FnS P w K mg base 68 "written" ["machine"] ((spWr t)):=by
 refine⟨_,_,T.Q5.ok O2 (fun vs H Q E h=>?_) (fun cdv A outer s H vs Q E hr h=>?_),T.Ztk,T.Q5.kp,T.Zuu⟩
 ·obtain⟨x,ns,fs,bs,us,rfl,⟨dx,n0,s0,b0,v0,qs,qb,qv,h1,h2,h3,h4,h5,p1,p2,p3⟩,h6,h8,k1,k2,k3,hz,q⟩:=h
  rfl
 obtain⟨x,ns,fs,bs,us,rfl,⟨dx,n0,s0,b0,v0,qs,qb,qv,h1,h2,h3,h4,h5,p1,p2,p3⟩,h6,h8,k1,k2,k3,hz,q⟩:=h;have Zqb:=Zpz (P:=P) (w:=w) (base:=base) T;have D_shown:=Zmx (P:=P) (w:=w) (base:=base) T 61
 have h20:∀z∈ns,z.length≤20:=fun z hz=>by have:=h8 z hz; omega
 have hp1:=Dj p1;have hp2:=Dj p2;have hp3:=Dj p3
 refine⟨_,(Ai (ss 1 O2.nd (Gg UJ rfl T.B.list Ov (Ac (Cj (pv 0) rfl) Af)))
   (Ai (ss 2 O2.nd (Br (Ac (Aj BJ Am (CG HB Ld Le KC Am (Ac (pv 1) Af))) Af)))
   (Ai (Dd Cz rfl (Et (Cj (pv 0) rfl)) (sg 3 O2.nd)
   (Ah (Dc (CG Ds Eg Em Ea (pv 2) (Ac (Aj BJ Am (Eb D_shown hr (pv 3) (Ac (pv 1) Af))) Af)))))
   (Ai (Dd Cz rfl (Et (Cj (pv 0) rfl)) (sg 3 O2.nd)
   (Ah (Dc (CG Ds Eg Em Ea (pv 2) (Ac (Aj BJ Am (Eb D_shown hr (pv 3) (Ac (pv 1) Af))) Af)))))
   (Ai (Dd Cz rfl (Et (Cj (pv 0) rfl)) (sg 4 O2.nd)
   (Ah (Dc (CG Ds Eg Em Ea (pv 2) (Ac (Bj Zqb hr (Ac (pv 4) (Ac (pv 1) Af))) Af)))))
   (Ah (Av (pv 2)))))))),?_⟩
 walk_at "rd0";refine⟨x,_,_,_,_,rfl,h1,T.Fe,T.Jy,Tw _ _ _ _,?_⟩;walk_at "";refine UT (.inr (SqT.of h2)) fun nl H1 s1 n1 e1=>?_;walk_at "";refine⟨tyS,?_⟩;walk_at "";obtain⟨j1,j2⟩:=TF (B:=8) (z:=" ") (ts:=ns) h8 (by omega) (by decide) (by omega)
 have l1:Cq "lamps " = 6:=by decide +kernel
 have l2:Cq "start " = 6:=by decide +kernel
 have l3:Cq "bad " = 4:=by decide +kernel
 refine⟨_,nl,_,rfl,rfl,SqL.of e1,j1,?_⟩;refine Ew (Ca (by omega)) ?_;walk_at "";refine BR (by simp) fun ll H2 s2 n2 e2=>?_;have e2:H2 ll=some (.lst ([("lamps " : Str)++Txt.join " " ns].map V.str)):=e2;have nll:H ll=none:=s1.free n2;have nln:nl≠ll:=Bw e1 n2;have w2:=s1.trans s2;have en2:=s2 _ _ e1;walk_at "";refine⟨x,_,_,_,_,rfl,w2 _ _ h1,T.Fe,T.Nr,Zpi _ _ _ _,?_⟩;generalize hA:[("lamps " : Str)++Txt.join " " ns]=A0 at e2
 have hA1:A0.length=1:=by rw[←hA]; rfl
 refine seqT (xs:=qs.map V.ref) (fun i σ H'=>Same H H'∧H' nl=some (.lst (ns.map V.str))∧H' ll=some (.lst ((A0++(fs.take i).map (fun f=>("start " : Str)++Dk ns f)).map V.str))∧∃v3,σ=[some (.ref x),some (.ref nl),some (.ref ll),v3,none]) ⟨w2,en2,by rw[e2]; simp,_,rfl⟩ (fun i σ H' _ hp=>by obtain⟨s,_⟩:=hp; exact SqT.of (s _ _ h3)) ?_ ?_
 ·rintro i y σ H3 hy ⟨s3,en3,el3,v3,rfl⟩
  obtain⟨y,rfl,hy'⟩:=FQ hy;obtain⟨f,hfi,hf⟩:=Jf p1 hy';have okf:=k1 f (Dm hfi);have hf2:=okf.1 H3 y (hf.ext (Ext.of s3));have hsl:=NQ h8 f;have hfw:=okf.2.2;have hil:=(Ej.mp hfi).1;walk_at "";refine⟨tyL el3,?_⟩;walk_at "";obtain⟨C,dx',fs',e',hC,hlk⟩:=hf2.ins "shown" (by decide +kernel) (by decide +kernel) (by decide +kernel) (by decide +kernel);refine⟨y,C,dx',fs',rfl,e',hC,hlk,?_⟩;walk_at "";refine⟨e',y,nl,f,ns,rfl,hf2,en3,h20,okf.2.1,by omega,fun H4 s4=>?_⟩;refine Ew (Ca (by omega)) ?_;walk_at "";refine Eu (s4 _ _ el3) (by rw[Ax,CZ,Ax,Gu]; omega) fun H5 b5 e5=>?_;walk_at "";refine⟨b5.same nll (s3.trans s4),b5 _ _ nln (s4 _ _ en3),?_,_,rfl⟩;rw[e5,Ff hfi];simp only [Cp,Dq,Gx,Gp]
 rintro σ H3 ⟨s3,en3,el3,v3,rfl⟩;rw[Ax,hp1,Fw]at el3;generalize hB:A0++fs.map (fun f=>("start " : Str)++Dk ns f)=B0 at el3
 have hB1:B0.length=1+fs.length:=by rw[←hB,CZ,Ax,hA1]
 clear e2 en2 w2;walk_at "";refine⟨x,_,_,_,_,rfl,s3 _ _ h1,T.Fe,T.Nt,Zwk _ _ _ _,?_⟩;refine seqT (xs:=qb.map V.ref) (fun i σ H'=>Same H H'∧H' nl=some (.lst (ns.map V.str))∧H' ll=some (.lst ((B0++(bs.take i).map (fun f=>("bad " : Str)++Dk ns f)).map V.str))∧∃v3,σ=[some (.ref x),some (.ref nl),some (.ref ll),v3,none]) ⟨s3,en3,by rw[el3]; simp,_,rfl⟩ (fun i σ H' _ hp=>by obtain⟨s,_⟩:=hp; exact SqT.of (s _ _ h4)) ?_ ?_
 ·clear s3 en3 el3 v3
  rintro i y σ H3 hy ⟨s3,en3,el3,v3,rfl⟩;obtain⟨y,rfl,hy'⟩:=FQ hy;obtain⟨f,hfi,hf⟩:=Jf p2 hy';have okf:=k2 f (Dm hfi);have hf2:=okf.1 H3 y (hf.ext (Ext.of s3));have hsl:=NQ h8 f;have hfw:=okf.2.2;have hil:=(Ej.mp hfi).1;walk_at "";refine⟨tyL el3,?_⟩;walk_at "";obtain⟨C,dx',fs',e',hC,hlk⟩:=hf2.ins "shown" (by decide +kernel) (by decide +kernel) (by decide +kernel) (by decide +kernel);refine⟨y,C,dx',fs',rfl,e',hC,hlk,?_⟩;walk_at "";refine⟨e',y,nl,f,ns,rfl,hf2,en3,h20,okf.2.1,by omega,fun H4 s4=>?_⟩;refine Ew (Ca (by omega)) ?_;walk_at "";refine Eu (s4 _ _ el3) (by rw[Ax,CZ,Ax,Gu]; omega) fun H5 b5 e5=>?_;walk_at "";refine⟨b5.same nll (s3.trans s4),b5 _ _ nln (s4 _ _ en3),?_,_,rfl⟩;rw[e5,Ff hfi];simp only [Cp,Dq,Gx,Gp]
 clear s3 en3 el3 v3;rintro σ H3 ⟨s3,en3,el3,v3,rfl⟩;rw[Ax,hp2,Fw]at el3;generalize hC0:B0++bs.map (fun f=>("bad " : Str)++Dk ns f)=C0 at el3
 have hC1:C0.length=1+fs.length+bs.length:=by rw[←hC0,CZ,Ax,hB1]
 walk_at "";refine⟨x,_,_,_,_,rfl,s3 _ _ h1,T.Fe,T.Nu,Zsc _ _ _ _,?_⟩;refine seqT (xs:=qv.map V.ref) (fun i σ H'=>Same H H'∧H' nl=some (.lst (ns.map V.str))∧H' ll=some (.lst ((C0++(us.take i).map (shM ns)).map V.str))∧∃v4,σ=[some (.ref x),some (.ref nl),some (.ref ll),v3,v4]) ⟨s3,en3,by rw[el3]; simp,_,rfl⟩ (fun i σ H' _ hp=>by obtain⟨s,_⟩:=hp; exact SqT.of (s _ _ h5)) ?_ ?_
 ·clear s3 en3 el3
  rintro i y σ H3 hy ⟨s3,en3,el3,v4,rfl⟩;obtain⟨y,rfl,hy'⟩:=FQ hy;obtain⟨v,hfi,hf⟩:=Jf p3 hy';have okv:=k3 v (Dm hfi);have hil:=(Ej.mp hfi).1;walk_at "";refine⟨tyL el3,?_⟩;walk_at "";refine⟨y,nl,ns,v,rfl,hf.ext (Ext.of s3),en3,h6,h8,okv,fun H4 s4=>?_⟩;walk_at "";refine Eu (s4 _ _ el3) (by rw[Ax,CZ,Ax,Gu]; omega) fun H5 b5 e5=>?_;walk_at "";refine⟨b5.same nll (s3.trans s4),b5 _ _ nln (s4 _ _ en3),?_,_,rfl⟩;rw[e5,Ff hfi];simp only [Cp,Dq,Gx,Gp]
 clear s3 en3 el3;rintro σ H3 ⟨s3,en3,el3,v4,rfl⟩;rw[Ax,hp3,Fw]at el3;walk_at "";refine q ll H3 s3 nll ?_;rw[el3,←hC0,←hB,←hA];rfl
end
unseal PE PA PS PSs
noncomputable def dat (c:Chg):Nat×Fm:=(c.1,c.2.2)
noncomputable def dv (v:Mv):Fm×List (Nat×Fm):=(v.1.2,v.2.map dat)
def Dp (t:Ad) (f:Fm):Prop:=∀H p,FmE t H p f→FmAt t H 62 p f
theorem ZzI {t:Ad} {H:Hp}:∀{hs:List Ab} {cs:List (Nat×Fm)},Bs (ChW t H) hs cs→(∀c∈cs,Dp t c.2)→∃ds:List Chg,Bs (HdAt t H 62) hs ds∧ds.map dat=cs:=by
 intro _ _ h;induction h with
 | nil=>intro _; exact⟨[],.nil,rfl⟩
 | @cons _ c _ _ h _ ih=>
  obtain⟨b,e,f⟩:=h;intro h;obtain⟨ds,p,q⟩:=ih fun c hc=>h c (CW _ hc);exact⟨(c.1,(b,c.2))::ds,.cons ⟨e,h c Dg H b f⟩ p,by rw[Dq,q]; rfl⟩
theorem ZEz {t:Ad} {H:Hp}:∀{xs:List Ab} {us:List (Fm×List (Nat×Fm))},Bs (MvW t H) xs us→(∀v∈us,Dp t v.1∧∀c∈v.2,Dp t c.2)→∃mv:List Mv,Bs (MvP t H) xs mv∧mv.map dv=us:=by
 intro _ _ h;induction h with
 | nil=>intro _; exact⟨[],.nil,rfl⟩
 | @cons _ v _ _ h _ ih=>
  obtain⟨dx,g,tp,hs,e1,e2,f,p⟩:=h;intro h;obtain⟨mv,p2,q⟩:=ih fun v hv=>h v (CW _ hv);obtain⟨h1,h2⟩:=h v Dg;obtain⟨ds,p3,q3⟩:=ZzI p h2;exact⟨((g,v.1),ds)::mv,.cons ⟨dx,tp,hs,e1,e2,h1 H g f,p3⟩ p2,by rw[Dq,q]; unfold dv; rw[q3]⟩
theorem ZzV {t:Ad} {H:Hp}:∀{xs:List Ab} {fs:List Fm},Bs (FmE t H) xs fs→(∀f∈fs,Dp t f)→∃sp:List (Ab×Fm),sp.map Ge=xs∧sp.map HD=fs∧Bs (FmAt t H 62) (sp.map Ge) (sp.map HD):=by
 intro _ _ h;induction h with
 | nil=>intro _; exact⟨[],rfl,rfl,.nil⟩
 | @cons a f _ _ e _ ih=>
  intro h;obtain⟨sp,a1,a2,a3⟩:=ih fun f hf=>h f (CW _ hf);exact⟨(a,f)::sp,by rw[Dq,a1],by rw[Dq,a2],.cons (h f Dg H a e) a3⟩
theorem ZIi {t:Ad} {H:Hp} {x:Ab} {ns:List Str} {ss bs:List Fm} {us:List (Fm×List (Nat×Fm))} (h:MacW t H x ns ss bs us) (k1:∀f∈ss,Dp t f) (k2:∀f∈bs,Dp t f) (k3:∀v∈us,Dp t v.1∧∀c∈v.2,Dp t c.2) :
  ∃dx n s b v sp bp ms mv,MacAt t H x dx n s b v (ns.map V.str) sp bp ms mv∧sp.map HD=ss∧bp.map HD=bs∧mv.map dv=us:=by
 obtain⟨dx,n,s,b,v,ps,pb,pv,h1,h2,h3,h4,h5,p1,p2,p3⟩:=h;obtain⟨sp,a1,a2,a3⟩:=ZzV p1 k1;obtain⟨bp,b1,b2,b3⟩:=ZzV p2 k2;obtain⟨mv,c1,c2⟩:=ZEz p3 k3;exact⟨dx,n,s,b,v,sp,bp,pv,mv,⟨h1,h2,by rw[h3,a1],by rw[h4,b1],h5,a3,b3,c1⟩,a2,b2,c2⟩
structure Mc where
 ns:List Str
 ss:List Fm
 bs:List Fm
 us:List (Fm×List (Nat×Fm))
noncomputable def Mc.add (M:Mc):Ent→Mc
 | .st f=>⟨M.ns,M.ss++[f],M.bs,M.us⟩
 | .bd f=>⟨M.ns,M.ss,M.bs++[f],M.us⟩
 | .mv v=>⟨M.ns,M.ss,M.bs,M.us++[v]⟩
noncomputable def Mc.cnt (M:Mc):Ent→Nat
 | .st _=>M.ss.length
 | .bd _=>M.bs.length
 | .mv _=>M.us.length
inductive Srt
 | s | b | m
noncomputable def Srt.wd:Srt→Str
 | .s=>"start"
 | .b=>"bad"
 | .m=>"move"
noncomputable def Mc.num (M:Mc):Srt→Nat
 | .s=>M.ss.length
 | .b=>M.bs.length
 | .m=>M.us.length
noncomputable def Mc.cut (M:Mc):Srt→Mc
 | .s=>⟨M.ns,M.ss.dropLast,M.bs,M.us⟩
 | .b=>⟨M.ns,M.ss,M.bs.dropLast,M.us⟩
 | .m=>⟨M.ns,M.ss,M.bs,M.us.dropLast⟩
def McW (t:Ad) (H:Hp) (x:Ab) (M:Mc):Prop:=MacW t H x M.ns M.ss M.bs M.us
seal PE PA PS PSs
section
variable {P:Bp} {w:Bg} {K:Ao} {mg:Str→Option Ae} {base:Aq} {t:Ad} {n:Nat}
theorem Zz5 {td ty tx:TE} {σ:St} {H:Hp} {Q:VK} (h:td σ H fun x H1=>∃a,x=.ref a∧IsD H1 a∧ty σ H1 fun y H2=>tx σ H2 fun z H3=>∃o,DGet H3 a y o∧Q (o.getD z) H3):ZEO td ty tx σ H Q:=h
theorem Zz6 {trs:List (TE×TE)} {σ:St} {H:Hp} {Q:VK} (h:∀p,H p=none→Ln trs σ (upd H p (.dK [])) fun ps H2=>H2 p=some (.dK [])∧∃kvs:List (Key×V),ps=kvs.map (fun kv=>(kV kv.1,kv.2))∧kvs.length≤15∧Q (.ref p) (upd H2 p (.dK (Hi [] kvs)))):ZJs trs σ H Q:=h
theorem ZGV (s:Srt):s.wd∈Vx:=by cases s <;> decide
def LnK (x:Str) (r:List Str):Prop:=(x = "show"∧r=[])∨(x = "drop"∧∃s:Srt,r=[s.wd])∨((x = "lamps"∨x∈Vx)∧(x = "lamps"→1≤r.length∧r.length≤6)∧(x = "move"→∃a b,r=a++("then" : Str)::b∧MvWs ("move"::a) b))∨x = "always"
noncomputable def ZGK:Sp:=fun vs H Q _=>∃(l:Ab) (x:Str) (r:List Str),vs=[.ref l]∧H l=some (.lst ((x::r).map V.str))∧LnK x r∧∀H',Same H H'→Q .non H'
theorem Zsp (T:Txt K mg t):FnS P w K mg base 9 "check_line" ["found"] (ZGK):=by
 refine⟨_,_,T.Ri.ok Zmr (fun vs H Q E h=>?_) (fun cdv A outer s H vs Q E hr h=>?_),T.Znx,T.Ri.kp,T.ZnM⟩
 ·obtain⟨l,x,r,rfl,hl,hk,q⟩:=h
  rfl
 obtain⟨l,x,r,rfl,hl,hk,q⟩:=h;have Zs0:=Zso (P:=P) (w:=w) (base:=base) T
 refine⟨_,(Ai (ss 1 Zmr.nd (Bm Bo (pv 0) Ag (fun _ _=>rfl)))
   (Ah (Bl (Ay Jt (pv 1) (Hr rfl T.g_ALONE) (by with_unfolding_all rfl))
   (Ah (Bl (Ay Iw (Dh Ed rfl T.B.len Ec (Ac (pv 0) Af)) Ag (Bd _))
   (Ah Gr)
   Bq))
   (Ah (Bl (Ay (BL hr.units) (pv 1) Am (Bd _))
   (Ah (Bl (PW.pt (Fp (Ay (Ja hr.units) (Dh Ed rfl T.B.len Ec (Ac (pv 0) Af)) Ag (Bd _)) (Fy (Ay Oz (Bm Bo (pv 0) Ag (fun _ _=>rfl)) (Hr rfl T.g_SORTS) (by with_unfolding_all rfl)))))
   (Ah Gr)
   Bq))
   (Ah (Bl (PW.pt (Fp (Ay (BL hr.units) (pv 1) Am (Bd _)) (Fy (Ay Jt (pv 1) (Hr rfl T.g_SORTS) (by with_unfolding_all rfl)))))
   (Ah (Dc (Bj Zs0 hr (Ac (pv 0) Af))))
   (Ah (Bl (Ay (Ja hr.units) (pv 1) Am (Bd _))
   (Ah Gr)
   Bq))))))))),?_⟩
 walk_at "rd0";refine By (j:=0) hl (v:=.str x) rfl ?_;walk_at "";refine KY (T.q_ALONE H) ?_;walk_at ""
 rcases hk with⟨rfl,rfl⟩ | ⟨rfl,s,rfl⟩ | ⟨hx,h1,h2⟩ | rfl
 ·refine Cg (by decide) ?_
  walk_at "";refine Ba (by decide) ?_;walk_at "";exact q _ (Same.refl _)
 ·refine Ba (by decide) ?_
  walk_at "";refine Cg (by decide) ?_;walk_at "";refine Ba (by simp) ?_;walk_at "";refine By (j:=1) hl (v:=.str s.wd) rfl ?_;walk_at "";refine ZHR (T.q_SORTS H) ?_;have hs:s.wd∈([Gb "start",Gb "bad",Gb "move"]:List Str):=ZGV s;rw[decide_eq_true hs];walk_at "";refine Ba rfl ?_;walk_at "";exact q _ (Same.refl _)
 ·have nx:x∉([Gb "show",Gb "judge",Gb "fence",Gb "reach"]:List Str)∧x≠"drop":=by
   rcases hx with rfl | hx
   ·decide
   ·simp only [Vx,Bu,Fl,or_false]at hx
    rcases hx with rfl | rfl | rfl <;> decide
  refine Ba (decide_eq_false nx.1) ?_;walk_at "";refine Ba (decide_eq_false nx.2) ?_;walk_at "";have go:∀D:Ends,(∀H',Same H H'→D.nx [some (.ref l),some (.str x)] H')→True:=fun _ _=>trivial
  by_cases hl':x = "lamps"
  ·refine Cg (decide_eq_true hl') ?_
   refine Cg rfl ?_;walk_at "";refine⟨l,x,r,rfl,hl,h1,h2,fun H1 s1=>?_⟩;walk_at "";exact q _ s1
  ·refine Ba (decide_eq_false hl') ?_
   walk_at "";have hs:x∈([Gb "start",Gb "bad",Gb "move"]:List Str):=hx.resolve_left hl';refine KY (T.q_SORTS H) ?_;rw[decide_eq_true hs];walk_at "";refine Cg rfl ?_;walk_at "";refine⟨l,x,r,rfl,hl,h1,h2,fun H1 s1=>?_⟩;walk_at "";exact q _ s1
 ·refine Ba (by decide) ?_
  walk_at "";refine Ba (by decide) ?_;walk_at "";refine Ba (by decide) ?_;walk_at "";refine KY (T.q_SORTS H) ?_;walk_at "";refine Ba (by decide) ?_;walk_at "";refine Ba (by decide) ?_;walk_at "";exact q _ (Same.refl _)
structure TI (t:Ad) (H H':Hp) (d s b m:Ab) (ps pb pm:List Ab) (M:Mc):Prop where
 sm:Same H H'
 ed:H' d=some (.dK (thK [s,b,m]))
 e1:H' s=some (.lst (ps.map V.ref))
 e2:H' b=some (.lst (pb.map V.ref))
 e3:H' m=some (.lst (pm.map V.ref))
 f1:H s=none
 f2:H b=none
 f3:H m=none
 d1:s≠b
 d2:s≠m
 d3:b≠m
 p1:Bs (FmE t H') ps M.ss
 p2:Bs (FmE t H') pb M.bs
 p3:Bs (MvW t H') pm M.us
theorem TI.ne {H H':Hp} {d s b m:Ab} {ps pb pm:List Ab} {M:Mc} (I:TI t H H' d s b m ps pb pm M):d≠s∧d≠b∧d≠m:=⟨Ci I.ed I.e1 (fun z=>nomatch z),Ci I.ed I.e2 (fun z=>nomatch z),Ci I.ed I.e3 (fun z=>nomatch z)⟩
noncomputable def ZDE (t:Ad):Sp:=fun vs H Q _=>∃(x:Ab) (M:Mc),vs=[.ref x]∧McW t H x M∧∀d s b m ps pb pm H',TI t H H' d s b m ps pb pm M→Q (.ref d) H'
theorem ZnR (T:Txt K mg t):FnS P w K mg base 1 "things_of" ["machine"] ((ZDE t)):=by
 refine⟨_,_,T.Rj.ok ZuW (fun vs H Q E h=>?_) (fun cdv A outer s H vs Q E hr h=>?_),T.ZoJ,T.Rj.kp,T.Zpr⟩
 ·obtain⟨x,M,rfl,⟨dx,n0,s0,b0,v0,qs,qb,qv,h1,h2,h3,h4,h5,p1,p2,p3⟩,q⟩:=h
  rfl
 obtain⟨x,M,rfl,⟨dx,n0,s0,b0,v0,qs,qb,qv,h1,h2,h3,h4,h5,p1,p2,p3⟩,q⟩:=h;refine⟨_,(Ah (Av (Ux (Gh Am (Gg UJ rfl T.B.list Ov (Ac (Cj (pv 0) rfl) Af)) (Gh Am (Gg UJ rfl T.B.list Ov (Ac (Cj (pv 0) rfl) Af)) (Gh Am (Gg UJ rfl T.B.list Ov (Ac (Cj (pv 0) rfl) Af)) Uw))) rfl rfl (Wr _ _) (Dv rfl)))),?_⟩;walk_at "rd0";refine Zz6 fun d hd=>?_;have c1:Same H (upd H d (.dK [])):=HJ hd _;have ed0:upd H d (.dK []) d=some (.dK []):=Cm;generalize upd H d (.dK [])=H1 at c1 ed0 ⊢;simp only [Ln];walk_at "";refine⟨x,_,_,_,_,rfl,c1 _ _ h1,T.Fe,T.Nr,Zpi _ _ _ _,?_⟩;walk_at "";refine UT (.inr (SqT.of (c1 _ _ h3))) fun s H2 s2 n2 e2=>?_;have c2:=c1.trans s2;walk_at "";refine⟨x,_,_,_,_,rfl,c2 _ _ h1,T.Fe,T.Nt,Zwk _ _ _ _,?_⟩;walk_at "";refine UT (.inr (SqT.of (c2 _ _ h4))) fun b H3 s3 n3 e3=>?_;have c3:=c2.trans s3;walk_at "";refine⟨x,_,_,_,_,rfl,c3 _ _ h1,T.Fe,T.Nu,Zsc _ _ _ _,?_⟩;walk_at "";refine UT (.inr (SqT.of (c3 _ _ h5))) fun m H4 s4 n4 e4=>?_;have c4:=c3.trans s4;have ed4:=(s2.trans (s3.trans s4)) _ _ ed0;walk_at "";refine⟨ed4,[(BZ "start",.ref s),(BZ "bad",.ref b),(BZ "move",.ref m)],rfl,(by show 3≤15; decide),?_⟩;have es4:=(s3.trans s4) _ _ e2;have eb4:=s4 _ _ e3;have b5:But d H4 (upd H4 d (.dK (Hi [] [(BZ "start",V.ref s),(BZ "bad",.ref b),(BZ "move",.ref m)]))):=Ly;have ed5:upd H4 d (.dK (Hi [] [(BZ "start",V.ref s),(BZ "bad",.ref b),(BZ "move",.ref m)])) d=some (.dK (thK [s,b,m])):=Cm;generalize upd H4 d (.dK (Hi [] [(BZ "start",V.ref s),(BZ "bad",.ref b),(BZ "move",.ref m)]))=H5 at b5 ed5 ⊢;have nsd:s≠d:=Ci es4 ed4 (fun z=>nomatch z);have nbd:b≠d:=Ci eb4 ed4 (fun z=>nomatch z);have nmd:m≠d:=Ci e4 ed4 (fun z=>nomatch z);have c5:Same H H5:=b5.same hd c4;exact q d s b m qs qb qv H5 ⟨c5,ed5,b5 _ _ nsd es4,b5 _ _ nbd eb4,b5 _ _ nmd e4,c1.free n2,c2.free n3,c3.free n4,Bw e2 n3,Bw (s3 _ _ e2) n4,Bw e3 n4,BV (fun _ _ z=>z.ext (Ext.of c5)) p1,BV (fun _ _ z=>z.ext (Ext.of c5)) p2,BV (fun _ _ z=>z.ext (Ext.of c5)) p3⟩
noncomputable def ZJp (t:Ad):Sp:=fun vs H Q _=>∃(x d s b m:Ab) (ps pb pm:List Ab) (M0 M:Mc),vs=[.ref x,.ref d]∧McW t H x M0∧M.ns=M0.ns∧H d=some (.dK (thK [s,b,m]))∧H s=some (.lst (ps.map V.ref))∧H b=some (.lst (pb.map V.ref))∧H m=some (.lst (pm.map V.ref))∧Bs (FmE t H) ps M.ss∧Bs (FmE t H) pb M.bs∧Bs (MvW t H) pm M.us∧∀y H',Same H H'→McW t H' y M→Q (.ref y) H'
theorem ZkO (T:Txt K mg t):FnS P w K mg base 4 "with_things" ["machine","things"] ((ZJp t)):=by
 refine⟨_,_,T.Rk.ok ZqP (fun vs H Q E h=>?_) (fun cdv A outer s H vs Q E hr h=>?_),T.ZlN,T.Rk.kp,T.Zmd⟩
 ·obtain⟨x,d,s,b,m,ps,pb,pm,M0,M,rfl,⟨dx,n0,s0,b0,v0,qs,qb,qv,h1,h2,h3,h4,h5,_⟩,en,ed,e1,e2,e3,p1,p2,p3,q⟩:=h
  rfl
 obtain⟨x,d,s,b,m,ps,pb,pm,M0,M,rfl,⟨dx,n0,s0,b0,v0,qs,qb,qv,h1,h2,h3,h4,h5,_⟩,en,ed,e1,e2,e3,p1,p2,p3,q⟩:=h;have Zoo:=Zrh (P:=P) (w:=w) (base:=base) T;refine⟨_,(Ah (Av (IK Zoo hr (Ac (Cj (pv 0) rfl) (Ac (Lk (Hz (Io (by decide) _) hr.units) (pv 1) Am (fun _ _=>rfl)) (Ac (Lk (Hz (Io (by decide) _) hr.units) (pv 1) Am (fun _ _=>rfl)) (Ac (Lk (Hz (Io (by decide) _) hr.units) (pv 1) Am (fun _ _=>rfl)) Af))))))),?_⟩;walk_at "rd0";refine⟨x,_,_,_,_,rfl,h1,T.Fe,T.Jy,Tw _ _ _ _,?_⟩;walk_at "";refine⟨d,.ref s,rfl,DGet.k (k:=BZ "start") ed,?_⟩;walk_at "";refine⟨d,.ref b,rfl,DGet.k (k:=BZ "bad") ed,?_⟩;walk_at "";refine⟨d,.ref m,rfl,DGet.k (k:=BZ "move") ed,?_⟩;walk_at "";rw[←en]at h2;exact Zq6 (.inr h2) e1 e2 e3 p1 p2 p3 fun y H' s' _ W=>q y H' s' W
end
unseal PE PA PS PSs
seal PE PA PS PSs
section
variable {P:Bp} {w:Bg} {K:Ao} {mg:Str→Option Ae} {base:Aq} {t:Ad} {n:Nat}
theorem McW.same {H H':Hp} (s:Same H H') {x:Ab} {M:Mc} (h:McW t H x M):McW t H' x M:=MacW.ext (Ext.of s) h
noncomputable def ZGH (t:Ad):Sp:=fun vs H Q _=>∃(x l:Ab) (M:Mc) (ws:List Str) (e:Ent),vs=[.ref x,.ref l]∧McW t H x M∧H l=some (.lst (ws.map V.str))∧M.ns.length≤6∧EntW M.ns ws e∧M.cnt e < 8∧∀y H',Same H H'→McW t H' y (M.add e)→Q (.ref y) H'
theorem ZC9 (T:Txt K mg t):FnS P w K mg base 16 "added" ["machine","found"] ((ZGH t)):=by
 refine⟨_,_,T.Rm.ok ZsM (fun vs H Q E h=>?_) (fun cdv A outer s H vs Q E hr h=>?_),T.Zzw,T.Rm.kp,T.ZAG⟩
 ·obtain⟨x,l,M,ws,e,rfl,hM,hl,h6,E0,h8,q⟩:=h
  rfl
 obtain⟨x,l,M,ws,e,rfl,hM,hl,h6,E0,h8,q⟩:=h;have Zx4:=Zwv (P:=P) (w:=w) (base:=base) T;have ZkV:=ZnR (P:=P) (w:=w) (base:=base) T;have Zh1:=ZkO (P:=P) (w:=w) (base:=base) T;obtain⟨dx,n0,s0,b0,v0,qs,qb,qv,h1,h2,h3,h4,h5,p1,p2,p3⟩:=id hM
 refine⟨_,(Ai (ss 2 ZsM.nd (Bj Zx4 hr (Ac (pv 1) (Ac (Cj (pv 0) rfl) Af))))
   (Ai (ss 3 ZsM.nd (Bj ZkV hr (Ac (pv 0) Af)))
   (Ai (Bl (Ay Us (Dh Ed rfl T.B.len Ec (Ac (Lk (Hz (Io (by decide) _) hr.units) (pv 3) (Bm Bo (pv 1) Ag (fun _ _=>rfl)) (fun _ _=>rfl)) Af)) (Hr rfl T.g_MOST) (Bd _))
   (Ah Gr)
   Bq)
   (Ai (Dc (CG Ds Eg Em Ea (Lk (Hz (Io (by decide) _) hr.units) (pv 3) (Bm Bo (pv 1) Ag (fun _ _=>rfl)) (fun _ _=>rfl)) (Ac (pv 2) Af)))
   (Ah (Av (Bj Zh1 hr (Ac (pv 0) (Ac (pv 3) Af))))))))),?_⟩
 walk_at "rd0";refine⟨x,_,_,_,_,rfl,h1,T.Fe,T.Jy,Tw _ _ _ _,?_⟩;walk_at "";refine⟨l,n0,ws,M.ns,e,rfl,hl,h2,h6,E0,fun y H1 s1 hy=>?_⟩;walk_at "";refine⟨x,M,rfl,hM.same s1,fun d s b m ps pb pm H2 I=>?_⟩;walk_at "";have l2:=I.sm _ _ (s1 _ _ hl)
 cases E0 with
 | st k1 k2 k3=>
  refine By (j:=0) l2 (v:=.str "start") rfl ?_;walk_at "";refine⟨d,.ref s,rfl,DGet.k (k:=BZ "start") I.ed,?_⟩;walk_at "";refine IV I.e1 ?_;have hn:=Dj I.p1;have h8:M.ss.length < 8:=h8;walk_at "";refine Ba (decide_eq_false (by rw[Ax]; omega)) ?_;walk_at "";refine By (j:=0) l2 (v:=.str "start") rfl ?_;walk_at "";refine⟨d,.ref s,rfl,DGet.k (k:=BZ "start") I.ed,?_⟩;walk_at "";refine⟨tyL I.e1,?_⟩;walk_at "";refine Eu I.e1 (by rw[Ax]; omega) fun H3 b3 e3=>?_;have x3:Ext H2 H3:=b3.ext I.e1;have c3:Same H1 H3:=b3.same I.f1 I.sm;walk_at "";refine⟨x,d,s,b,m,ps++[y],pb,pm,M,M.add (.st _),rfl,(hM.same s1).same c3,rfl,b3 _ _ I.ne.1 I.ed,(by rw[e3,Cp]; rfl),b3 _ _ I.d1.symm I.e2,b3 _ _ I.d2.symm I.e3,Ie (BV (fun _ _ z=>z.ext x3) I.p1) (.cons ((FmE.same I.sm hy).ext x3) .nil),BV (fun _ _ z=>z.ext x3) I.p2,BV (fun _ _ z=>z.ext x3) I.p3,fun y' H4 s4 W=>q y' H4 (s1.trans (c3.trans s4)) W⟩
 | bd k1 k2 k3=>
  refine By (j:=0) l2 (v:=.str "bad") rfl ?_;walk_at "";refine⟨d,.ref b,rfl,DGet.k (k:=BZ "bad") I.ed,?_⟩;walk_at "";refine IV I.e2 ?_;have hn:=Dj I.p2;have h8:M.bs.length < 8:=h8;walk_at "";refine Ba (decide_eq_false (by rw[Ax]; omega)) ?_;walk_at "";refine By (j:=0) l2 (v:=.str "bad") rfl ?_;walk_at "";refine⟨d,.ref b,rfl,DGet.k (k:=BZ "bad") I.ed,?_⟩;walk_at "";refine⟨tyL I.e2,?_⟩;walk_at "";refine Eu I.e2 (by rw[Ax]; omega) fun H3 b3 e3=>?_;have x3:Ext H2 H3:=b3.ext I.e2;have c3:Same H1 H3:=b3.same I.f2 I.sm;walk_at "";refine⟨x,d,s,b,m,ps,pb++[y],pm,M,M.add (.bd _),rfl,(hM.same s1).same c3,rfl,b3 _ _ I.ne.2.1 I.ed,b3 _ _ I.d1 I.e1,(by rw[e3,Cp]; rfl),b3 _ _ I.d3.symm I.e3,BV (fun _ _ z=>z.ext x3) I.p1,Ie (BV (fun _ _ z=>z.ext x3) I.p2) (.cons ((FmE.same I.sm hy).ext x3) .nil),BV (fun _ _ z=>z.ext x3) I.p3,fun y' H4 s4 W=>q y' H4 (s1.trans (c3.trans s4)) W⟩
 | mv R=>
  refine By (j:=0) l2 (v:=.str "move") rfl ?_;walk_at "";refine⟨d,.ref m,rfl,DGet.k (k:=BZ "move") I.ed,?_⟩;walk_at "";refine IV I.e3 ?_;have hn:=Dj I.p3;have h8:M.us.length < 8:=h8;walk_at "";refine Ba (decide_eq_false (by rw[Ax]; omega)) ?_;walk_at "";refine By (j:=0) l2 (v:=.str "move") rfl ?_;walk_at "";refine⟨d,.ref m,rfl,DGet.k (k:=BZ "move") I.ed,?_⟩;walk_at "";refine⟨tyL I.e3,?_⟩;walk_at "";refine Eu I.e3 (by rw[Ax]; omega) fun H3 b3 e3=>?_;have x3:Ext H2 H3:=b3.ext I.e3;have c3:Same H1 H3:=b3.same I.f3 I.sm;walk_at "";refine⟨x,d,s,b,m,ps,pb,pm++[y],M,M.add (.mv _),rfl,(hM.same s1).same c3,rfl,b3 _ _ I.ne.2.2 I.ed,b3 _ _ I.d2 I.e1,b3 _ _ I.d3 I.e2,(by rw[e3,Cp]; rfl),BV (fun _ _ z=>z.ext x3) I.p1,BV (fun _ _ z=>z.ext x3) I.p2,Ie (BV (fun _ _ z=>z.ext x3) I.p3) (.cons ((MvW.ext (Ext.of I.sm) hy).ext x3) .nil),fun y' H4 s4 W=>q y' H4 (s1.trans (c3.trans s4)) W⟩
theorem Zm2 {α β:Type} {R:α→β→Prop} {xs:List α} {ys:List β} (h:Bs R xs ys) (hn:0 < ys.length):∃a x,xs=a++[x]∧Bs R a ys.dropLast:=by
 have hl:=Dj h;obtain⟨a,x,rfl⟩:=Tq (l:=xs) (fun e=>by rw[e]at hl; simp at hl; omega)
 have e:ys.length - 1=a.length:=by
  simp at hl;omega
 have z:=ZpC a.length h;rw[Ycy]at z;exact⟨a,x,rfl,by rw[List.dropLast_eq_take,e]; exact z⟩
noncomputable def ZBF (t:Ad):Sp:=fun vs H Q _=>∃(x:Ab) (M:Mc) (s:Srt),vs=[.ref x,.str s.wd]∧McW t H x M∧0 < M.num s∧M.num s≤8∧∀y H',Same H H'→McW t H' y (M.cut s)→Q (.ref y) H'
theorem ZyR (T:Txt K mg t):FnS P w K mg base 8 "dropped" ["machine","sort"] ((ZBF t)):=by
 refine⟨_,_,T.Rn.ok Zrn (fun vs H Q E h=>?_) (fun cdv A outer s H vs Q E hr h=>?_),T.Ztg,T.Rn.kp,T.Zuq⟩
 ·obtain⟨x,M,sr,rfl,hM,h0,h8,q⟩:=h
  rfl
 obtain⟨x,M,sr,rfl,hM,h0,h8,q⟩:=h;have ZkV:=ZnR (P:=P) (w:=w) (base:=base) T;have Zh1:=ZkO (P:=P) (w:=w) (base:=base) T
 refine⟨_,(Ai (ss 2 Zrn.nd (Bj ZkV hr (Ac (pv 0) Af)))
   (Ai (Bl (Ay (BL hr.units) (Dh Ed rfl T.B.len Ec (Ac (Lk (Hz (Io (by decide) _) hr.units) (pv 2) (pv 1) (fun _ _=>rfl)) Af)) Ag (Bd _))
   (Ah Gr)
   Bq)
   (Ai (Dc (WD Ds T8 jy o7 (Lk (Hz (Io (by decide) _) hr.units) (pv 2) (pv 1) (fun _ _=>rfl))))
   (Ah (Av (Bj Zh1 hr (Ac (pv 0) (Ac (pv 2) Af)))))))),?_⟩
 walk_at "rd0";refine⟨x,M,rfl,hM,fun d s b m ps pb pm H2 I=>?_⟩;walk_at ""
 cases sr with
 | s=>
  refine⟨d,.ref s,rfl,DGet.k (k:=BZ "start") I.ed,?_⟩;obtain⟨a,y,rfl,pa⟩:=Zm2 I.p1 h0;walk_at "";refine IV I.e1 ?_;walk_at "";refine Ba (decide_eq_false (by rw[Ax,CZ]; simp; omega)) ?_;walk_at "";refine⟨d,.ref s,rfl,DGet.k (k:=BZ "start") I.ed,?_⟩;walk_at "";refine⟨tyL I.e1,?_⟩;walk_at "";refine UV (xs:=a.map V.ref) (y:=.ref y) (by rw[I.e1,Cp]; rfl) fun H3 b3 e3=>?_;have x3:Ext H2 H3:=b3.ext I.e1;have c3:Same H H3:=b3.same I.f1 I.sm;walk_at "";exact⟨x,d,s,b,m,a,pb,pm,M,M.cut .s,rfl,hM.same c3,rfl,b3 _ _ I.ne.1 I.ed,e3,b3 _ _ I.d1.symm I.e2,b3 _ _ I.d2.symm I.e3,BV (fun _ _ z=>z.ext x3) pa,BV (fun _ _ z=>z.ext x3) I.p2,BV (fun _ _ z=>z.ext x3) I.p3,fun y' H4 s4 W=>q y' H4 (c3.trans s4) W⟩
 | b=>
  refine⟨d,.ref b,rfl,DGet.k (k:=BZ "bad") I.ed,?_⟩;obtain⟨a,y,rfl,pa⟩:=Zm2 I.p2 h0;walk_at "";refine IV I.e2 ?_;walk_at "";refine Ba (decide_eq_false (by rw[Ax,CZ]; simp; omega)) ?_;walk_at "";refine⟨d,.ref b,rfl,DGet.k (k:=BZ "bad") I.ed,?_⟩;walk_at "";refine⟨tyL I.e2,?_⟩;walk_at "";refine UV (xs:=a.map V.ref) (y:=.ref y) (by rw[I.e2,Cp]; rfl) fun H3 b3 e3=>?_;have x3:Ext H2 H3:=b3.ext I.e2;have c3:Same H H3:=b3.same I.f2 I.sm;walk_at "";exact⟨x,d,s,b,m,ps,a,pm,M,M.cut .b,rfl,hM.same c3,rfl,b3 _ _ I.ne.2.1 I.ed,b3 _ _ I.d1 I.e1,e3,b3 _ _ I.d3.symm I.e3,BV (fun _ _ z=>z.ext x3) I.p1,BV (fun _ _ z=>z.ext x3) pa,BV (fun _ _ z=>z.ext x3) I.p3,fun y' H4 s4 W=>q y' H4 (c3.trans s4) W⟩
 | m=>
  refine⟨d,.ref m,rfl,DGet.k (k:=BZ "move") I.ed,?_⟩;obtain⟨a,y,rfl,pa⟩:=Zm2 I.p3 h0;walk_at "";refine IV I.e3 ?_;walk_at "";refine Ba (decide_eq_false (by rw[Ax,CZ]; simp; omega)) ?_;walk_at "";refine⟨d,.ref m,rfl,DGet.k (k:=BZ "move") I.ed,?_⟩;walk_at "";refine⟨tyL I.e3,?_⟩;walk_at "";refine UV (xs:=a.map V.ref) (y:=.ref y) (by rw[I.e3,Cp]; rfl) fun H3 b3 e3=>?_;have x3:Ext H2 H3:=b3.ext I.e3;have c3:Same H H3:=b3.same I.f3 I.sm;walk_at "";exact⟨x,d,s,b,m,ps,pb,a,M,M.cut .m,rfl,hM.same c3,rfl,b3 _ _ I.ne.2.2 I.ed,b3 _ _ I.d2 I.e1,b3 _ _ I.d3 I.e2,e3,BV (fun _ _ z=>z.ext x3) I.p1,BV (fun _ _ z=>z.ext x3) I.p2,BV (fun _ _ z=>z.ext x3) pa,fun y' H4 s4 W=>q y' H4 (c3.trans s4) W⟩
end
unseal PE PA PS PSs
seal PE PA PS PSs
theorem TQ {z:Str} (h:WdS z):JB z:=by
 unfold JB
 have a:=StrLaws.reprText_len z (fun c hc=>by
  rcases h.1 with e | e | e
  ·have hc:c∈cl1 z:=hc
   rw[e]at hc;rw[Ck.mp hc];decide
  ·have hc:c∈cl1 z:=hc
   rw[e]at hc;rw[Ck.mp hc];decide
  ·have:=e.2 c hc
   have:(128:Nat)≤16 ^ 8:=by decide
   omega)
 have:=h.2;omega
structure McOk (t:Ad) (M:Mc):Prop where
 n1:1≤M.ns.length
 n6:M.ns.length≤6
 n8:∀z∈M.ns,z.length≤8
 k1:∀f∈M.ss,okS t M.ns f
 k2:∀f∈M.bs,okS t M.ns f
 k3:∀v∈M.us,okM t M.ns v
 nd:∀v∈M.us,(v.2.map Ge).Nodup
 c1:M.ss.length≤8
 c2:M.bs.length≤8
 c3:M.us.length≤8
theorem okS.dp {t:Ad} {ns:List Str} {f:Fm} (h:okS t ns f):Dp t f:=fun H p e=>(h.1 H p e).le (by decide)
section
variable {P:Bp} {w:Bg} {K:Ao} {mg:Str→Option Ae} {base:Aq} {t:Ad} {n:Nat}
theorem ZCB {m:Nat} {ss bs:List Fm} {mv:List Mv} (h1:1≤m) (h6:m≤6) (g:∀u∈mv,GoodMv m u):GoodC m (anyN m ss) (anyN m bs) (afN m mv):=
 ⟨h1,h6,Vu m _ _ rfl,Vu m _ _ rfl,by unfold afN; rw[Ax,JR],fun x hx=>by
  unfold afN at hx;obtain⟨s,hs,rfl⟩:=Fx.mp hx
  exact ZBS (N8.mp hs) _ _ rfl g⟩
noncomputable def ZBO (t:Ad):Sp:=fun vs H Q _=>∃(p:Ab) (m st bd:Nat) (af:List Nat),vs=[.ref p]∧Jz t H p m st bd af∧GoodC m st bd af∧∀(k:Nat) H',Same H H'→k < 2 ^ 2 ^ m→Q (.int (k:Int)) H'
theorem ZyU (T:Txt K mg t):FnS P w K mg base 3 "reached" ["chart"] ((ZBO t)):=by
 refine⟨_,_,T.QL.ok Zy6 (fun vs H Q E h=>?_) (fun cdv A outer s H vs Q E hr h=>?_),T.Zti,T.QL.kp,T.Zus⟩
 ·obtain⟨p,m,st,bd,af,rfl,hC,hG,q⟩:=h
  rfl
 obtain⟨p,m,st,bd,af,rfl,hC,hG,q⟩:=h;have ZCa:=ZAU (P:=P) (w:=w) (base:=base) T;refine⟨_,(Ah (Av (Bm Bo (Bj ZCa hr (Ac (pv 0) Af)) (JT Lh Ag) (fun _ _=>rfl)))),?_⟩;walk_at "rd0";refine⟨p,m,st,bd,af,rfl,hC,hG,fun l H1 k s1 n1 e1 F hk=>?_⟩;walk_at "";refine UL e1 (Zxj af st k) ?_;exact q _ H1 s1 (Zwh hG.af hG.st k)
noncomputable def ZJk (t:Ad):Sp:=fun vs H Q _=>∃(x l:Ab) (M:Mc),vs=[.ref x,.ref l]∧McW t H x M∧McOk t M∧H l=some (.lst ((["always","yes"]:List Str).map V.str))∧∀H',Same H H'→Q (.str "yes") H'
theorem ZqH (T:Txt K mg t):FnS P w K mg base 70 "held_always" ["machine","found"] ((ZJk t)):=by
 refine⟨_,_,T.Ro.ok ZhA (fun vs H Q E h=>?_) (fun cdv A outer s H vs Q E hr h=>?_),T.ZlM,T.Ro.kp,T.Zmc⟩
 ·obtain⟨x,l,M,rfl,hM,ok,hl,q⟩:=h
  rfl
 obtain⟨x,l,M,rfl,hM,ok,hl,q⟩:=h;have Tz:=Zip (P:=P) (w:=w) (base:=base) T;have Zzj:=ZyU (P:=P) (w:=w) (base:=base) T;have D_chart:=ZxZ (P:=P) (w:=w) (base:=base) T;have D_crowd:=Zmw (P:=P) (w:=w) (base:=base) T 62;obtain⟨dx,n0,s0,b0,v0,qs,qb,qv,h1,h2,h3,h4,h5,p1,p2,p3⟩:=id hM;have n6:=ok.n6
 refine⟨_,(Ai (ss 2 ZhA.nd (W7 Tz hr (Ac (Iz IW (pv 1) (Ho Ag) JW) (Ac (Cj (pv 0) rfl) Af))))
   (Ai (ss 3 ZhA.nd (Aj Ur (Bj Zzj hr (Ac (Ou D_chart hr (pv 0)) Af)) (JT ZER (Eb D_crowd hr (pv 2) (Ac (Dh Ed rfl T.B.len Ec (Ac (Cj (pv 0) rfl) Af)) Af)))))
   (Ah (Av (Lg (Ay (BL hr.units) (pv 3) Ag (Bd _)) Am Am))))),?_⟩
 walk_at "rd0";refine Kz (SqL.of hl) (OD (k:=1) (by simp)) fun l2 H1 s1 n1 e1=>?_;have e1:H1 l2=some (.lst ((["yes"]:List Str).map V.str)):=e1;walk_at "";refine⟨x,_,_,_,_,rfl,s1 _ _ h1,T.Fe,T.Jy,Tw _ _ _ _,?_⟩;walk_at "";have hr':Hk M.ns (["yes"]:List Str)=some (.sure true):=rfl;refine⟨l2,n0,_,M.ns,rfl,e1,s1 _ _ h2,by omega,(by decide),(fun z hz=>by rw[Ck.mp hz]; exact TQ (Vt _ (by decide))),fun h=>(by rw[hr']at h; cases h),fun f' hf y H2 s2 fE=>?_⟩;obtain rfl:=Dl (hr'.symm.trans hf);have c2:=s1.trans s2;walk_at "";obtain⟨dx',n',s',b',v',sp,bp,ms,mv,A,a1,a2,a3⟩:=ZIi (MacW.ext (Ext.of c2) hM) (fun f hf=>(ok.k1 f hf).dp) (fun f hf=>(ok.k2 f hf).dp) (fun v hv=>⟨(ok.k3 v hv).gd.dp,fun c hc=>((ok.k3 v hv).cs c hc).1.dp⟩)
 have gm:∀u∈mv,GoodMv M.ns.length u:=fun u hu=>by
  have hd:dv u∈M.us:=by rw[←a3]; exact jq hu
  refine⟨fun c hc=>?_,?_⟩
  ·exact((ok.k3 _ hd).cs (dat c) (jq hc)).2
  ·have:=ok.nd _ hd
   unfold dv at this;rw[K9]at this;exact this
 refine⟨x,_,_,_,rfl,A.ob,rfl,ZIg _ _ _ _ _ (by decide) (by decide) (by decide) (by decide),?_⟩;walk_at "";refine⟨A.ob,x,dx',n',s',b',v',_,sp,bp,ms,mv,M.ns.length,rfl,A,by rw[Ax],ok.n1,ok.n6,gm,fun y2 H3 s3 hC=>?_⟩;walk_at "";refine⟨y2,_,_,_,_,rfl,hC,ZCB ok.n1 ok.n6 gm,fun k H4 s4 hk=>?_⟩;have c4:=c2.trans (s3.trans s4);have fE4:FmE t H4 y (.sure true):=FmE.same (s3.trans s4) fE;obtain⟨nn,fA⟩:=fE4
 have fA:FmAt t H4 62 y (.sure true):=by
  cases nn with
  | zero=>exact fA.elim
  | succ k=>exact(show FmAt t H4 (0+1) y (.sure true) from fA).le (by decide)
 obtain⟨C,dxc,fsc,ec,hCc,hlc⟩:=fA.ins "crowd" (by decide +kernel) (by decide +kernel) (by decide +kernel) (by decide +kernel);walk_at "";refine⟨y,C,dxc,fsc,rfl,ec,hCc,hlc,?_⟩;walk_at "";refine⟨x,_,_,_,_,rfl,c4 _ _ h1,T.Fe,T.Jy,Tw _ _ _ _,?_⟩;walk_at "";refine qw (c4 _ _ h2) ?_;rw[Ax];walk_at "";refine⟨ec,y,M.ns.length,.sure true,rfl,ok.n6,fA,?_⟩;walk_at ""
 have ez:Jh (k:Int) (Ji (((Fm.sure true).crowd (2 ^ M.ns.length):Nat):Int))=0:=by
  rw[ZqR,Zq3,if_pos rfl,Nat.and_two_pow_sub_one_eq_mod,Nat.mod_eq_of_lt hk,Ya5];rfl
 rw[ez,if_pos (by decide)];exact q H4 c4
end
unseal PE PA PS PSs
def ExtK (t:Ad) (H H':Hp):Prop:=∀x u,H x=some u→(∀xs,u≠.lst xs)→(∀dx fs,u≠.ins t.CP dx fs)→H' x=some u
section
variable {P:Bp} {w:Bg} {K:Ao} {mg:Str→Option Ae} {base:Aq} {t:Ad} {H H' H'':Hp}
theorem ExtK.of (s:Ext H H'):ExtK t H H':=fun x u e h _=>s x u e h
theorem ExtK.trans (a:ExtK t H H') (b:ExtK t H' H''):ExtK t H H'':=fun x u e h1 h2=>b x u (a x u e h1 h2) h1 h2
theorem ExtK.desk {p dx:Ab} {fs:List (Str×V)} (b:But p H H') (e:H p=some (.ins t.CP dx fs)):ExtK t H H':=fun x u z _ h2=>b x u (fun y=>by rw[y,e]at z; cases z; exact h2 _ _ rfl) z
theorem ZFe (T:Txt K mg t) (v:W3):cw t v≠t.CP:=by
 cases v
 ·exact T.Zrs
 ·exact T.Zmv
 ·exact T.Zu8
theorem FmAt.extK (T:Txt K mg t) (s:ExtK t H H'):∀{n:Nat} {p:Ab} {f:Fm},FmAt t H n p f→FmAt t H' n p f
 | 0,_,_,h=>h
 | n+1,p,f,h=>by
  cases f with
  | lamp k=>obtain⟨dx,e⟩:=h; exact⟨dx,s _ _ e (fun _ z=>nomatch z) fun _ _ z=>T.Zp2 (HO.ins.inj z).1⟩
  | sure b=>obtain⟨dx,e⟩:=h; exact⟨dx,s _ _ e (fun _ z=>nomatch z) fun _ _ z=>T.Zp7 (HO.ins.inj z).1⟩
  | neg g=>obtain⟨dx,q,e,h⟩:=h; exact⟨dx,q,s _ _ e (fun _ z=>nomatch z) (fun _ _ z=>T.Zrt (HO.ins.inj z).1),FmAt.extK T s h⟩
  | join w gs=>obtain⟨dx,tp,ps,e,e2,h⟩:=h; exact⟨dx,tp,ps,s _ _ e (fun _ z=>nomatch z) (fun _ _ z=>ZFe T w (HO.ins.inj z).1),s _ _ e2 (fun _ z=>nomatch z) (fun _ _ z=>nomatch z),BV (fun a b h=>FmAt.extK T s h) h⟩
theorem FmE.extK (T:Txt K mg t) (s:ExtK t H H') {p:Ab} {f:Fm} (h:FmE t H p f):FmE t H' p f:=let ⟨n,h⟩:=h; ⟨n,h.extK T s⟩
theorem ChW.extK (T:Txt K mg t) (s:ExtK t H H') {p:Ab} {c:Nat×Fm} (h:ChW t H p c):ChW t H' p c:=by
 obtain⟨b,e,f⟩:=h;exact⟨b,s _ _ e (fun _ z=>nomatch z) (fun _ _ z=>nomatch z),f.extK T s⟩
theorem MvW.extK (T:Txt K mg t) (s:ExtK t H H') {x:Ab} {v:Fm×List (Nat×Fm)} (h:MvW t H x v):MvW t H' x v:=by
 obtain⟨dx,g,tp,hs,e1,e2,f,p⟩:=h;exact⟨dx,g,tp,hs,s _ _ e1 (fun _ z=>nomatch z) (fun _ _ z=>T.Zp4 (HO.ins.inj z).1),s _ _ e2 (fun _ z=>nomatch z) (fun _ _ z=>nomatch z),f.extK T s,BV (fun _ _ q=>q.extK T s) p⟩
theorem McW.extK (T:Txt K mg t) (s:ExtK t H H') {x:Ab} {M:Mc} (h:McW t H x M):McW t H' x M:=by
 obtain⟨dx,n,s0,b,v,ps,pb,pm,h1,h2,h3,h4,h5,p1,p2,p3⟩:=h;exact⟨dx,n,s0,b,v,ps,pb,pm,s _ _ h1 (fun _ z=>nomatch z) (fun _ _ z=>T.ZkR (HO.ins.inj z).1),s _ _ h2 (fun _ z=>nomatch z) (fun _ _ z=>nomatch z),s _ _ h3 (fun _ z=>nomatch z) (fun _ _ z=>nomatch z),s _ _ h4 (fun _ z=>nomatch z) (fun _ _ z=>nomatch z),s _ _ h5 (fun _ z=>nomatch z) (fun _ _ z=>nomatch z),BV (fun _ _ q=>q.extK T s) p1,BV (fun _ _ q=>q.extK T s) p2,BV (fun _ _ q=>q.extK T s) p3⟩
end
seal PE PA PS PSs
section
variable {P:Bp} {w:Bg} {K:Ao} {mg:Str→Option Ae} {base:Aq} {t:Ad} {n:Nat}
inductive Ask42 (M:Mc):List Str→Str→Prop
 | show:Ask42 M ["show"] (Txt.join "; " (Ik M.ns M.ss M.bs M.us))
 | always:Ask42 M ["always","yes"] "yes"
theorem Zpf {M:Mc} (ok:McOk t M):Kp "; " (Ik M.ns M.ss M.bs M.us)=true:=by
 have nj:(Txt.join " " M.ns).length≤180:=(TF (B:=8) ok.n8 (by decide) (by decide) (by have:=ok.n6; omega)).2;have k1:Cq "lamps " = 6:=rfl;have k2:Cq "start " = 6:=rfl;have k3:Cq "bad " = 4:=rfl;have k4:Cq "move " = 5:=rfl;have k5:Cq " then " = 6:=rfl;have k6:Cq " is " = 4:=rfl
 have sl:∀f,okS t M.ns f→(Dk M.ns f).length≤2000:=fun f hf=>by
  have a:=NQ ok.n8 f;have b:=hf.2.2;omega
 have hB:∀y∈Ik M.ns M.ss M.bs M.us,y.length≤30000:=by
  intro y hy;unfold Ik at hy;simp only [Er,Ck,Fx]at hy
  rcases hy with((rfl | ⟨f,hf,rfl⟩) | ⟨f,hf,rfl⟩) | ⟨v,hv,rfl⟩
  ·rw[Ce]; omega
  ·rw[Ce]; have:=sl f (ok.k1 f hf); omega
  ·rw[Ce]; have:=sl f (ok.k2 f hf); omega
  ·have a:=sl v.1 (ok.k3 v hv).gd
   have jb:=(TF (B:=2012) (z:=", ") (ts:=v.2.map (Ka M.ns)) (fun y hy=>by
    obtain⟨c,hc,rfl⟩:=Fx.mp hy;obtain⟨h1,h2⟩:=(ok.k3 v hv).cs c hc;have:=sl c.2 h1
    have hz:(M.ns.getD c.1 BK).length≤8:=by
     rw[Gd,Dr h2];exact ok.n8 _ (jf h2)
    unfold Ka;rw[Ce,Ce]
    omega) (by decide) (by decide) (by rw[Ax]; have:=(ok.k3 v hv).ln; omega)).2
   unfold shM;rw[Ce,Ce,Ce];omega
 have a:=ZwP hB;have c1:=ok.c1;have c2:=ok.c2;have c3:=ok.c3
 have ll:(Ik M.ns M.ss M.bs M.us).length≤25:=by
  unfold Ik;simp;omega
 unfold Kp j0;rw[j4];have k7:Cq "; " = 2:=rfl;have h1:30000 * (Ik M.ns M.ss M.bs M.us).length≤30000 * 25:=Wo _ ll
 have h2:(Ik M.ns M.ss M.bs M.us).length * Cq "; "≤25 * 2:=by rw[k7]; exact Ybd _ ll
 rw[decide_eq_false (j5.mpr (Ca (by omega)))];rfl
noncomputable def ZJo (t:Ad):Sp:=fun vs H Q _=>∃(x l:Ab) (M:Mc) (ws:List Str) (z:Str),vs=[.ref x,.ref l]∧McW t H x M∧McOk t M∧H l=some (.lst (ws.map V.str))∧Ask42 M ws z∧∀H',Same H H'→Q (.str z) H'
theorem ZyV (T:Txt K mg t):FnS P w K mg base 74 "told_of" ["machine","found"] ((ZJo t)):=by
 refine⟨_,_,T.Rp.ok Zy7 (fun vs H Q E h=>?_) (fun cdv A outer s H vs Q E hr h=>?_),T.Ztj,T.Rp.kp,T.Zut⟩
 ·obtain⟨x,l,M,ws,z,rfl,hM,ok,hl,A,q⟩:=h
  rfl
 obtain⟨x,l,M,ws,z,rfl,hM,ok,hl,A,q⟩:=h;have Zzl:=ZyW (P:=P) (w:=w) (base:=base) T;have Zrx:=ZqH (P:=P) (w:=w) (base:=base) T
 refine⟨_,(Ai (Bl (Ay (BL hr.units) (Bm Bo (pv 1) Ag (fun _ _=>rfl)) Am (Bd _))
   (Ah (Av (CG HB Ld Le KC Am (Ac (Bj Zzl hr (Ac (pv 0) Af)) Af))))
   Bq)
   (Ai (Bl (Ay (BL hr.units) (Bm Bo (pv 1) Ag (fun _ _=>rfl)) Am (Bd _))
   (Ah Gr)
   Bq)
   (Ai (Bl (Ay (BL hr.units) (Bm Bo (pv 1) Ag (fun _ _=>rfl)) Am (Bd _))
   (Ah Gr)
   Bq)
   (Ai (Bl (Ay (BL hr.units) (Bm Bo (pv 1) Ag (fun _ _=>rfl)) Am (Bd _))
   (Ah Gr)
   Bq)
   (Ah (Av (Bj Zrx hr (Ac (pv 0) (Ac (pv 1) Af))))))))),?_⟩
 walk_at "rd0"
 cases A with
 | «show»=>
  refine By (j:=0) hl (v:=.str "show") rfl ?_;walk_at "";refine Cg (by decide) ?_;walk_at "";refine⟨tyS,?_⟩;walk_at "";have c1:=ok.c1;have c2:=ok.c2;have c3:=ok.c3;refine⟨x,M.ns,M.ss,M.bs,M.us,rfl,hM,ok.n6,ok.n8,ok.k1,ok.k2,ok.k3,by omega,fun l2 H1 s1 n1 e1=>?_⟩;walk_at "";refine⟨_,l2,_,rfl,rfl,SqL.of e1,Zpf ok,?_⟩;exact q H1 s1
 | always=>
  refine By (j:=0) hl (v:=.str "always") rfl ?_;walk_at "";refine Ba (by decide) ?_;walk_at "";refine By (j:=0) hl (v:=.str "always") rfl ?_;walk_at "";refine Ba (by decide) ?_;walk_at "";refine By (j:=0) hl (v:=.str "always") rfl ?_;walk_at "";refine Ba (by decide) ?_;walk_at "";refine By (j:=0) hl (v:=.str "always") rfl ?_;walk_at "";refine Ba (by decide) ?_;walk_at "";exact⟨x,l,M,rfl,hM,ok,hl,fun H1 s1=>q H1 s1⟩
noncomputable def dkF (v:V):List (Str×V):=[(("machine" : Str),v)]
noncomputable def DkW (t:Ad) (H:Hp) (x:Ab):Option Mc→Prop
 | none=>∃dx,H x=some (.ins t.CP dx (dkF .non))
 | some M=>∃dx m,H x=some (.ins t.CP dx (dkF (.ref m)))∧McW t H m M
noncomputable def ZxN (C:Ab):Sp:=fun vs H Q _=>∃(p dx:Ab),vs=[.ref p]∧H p=some (.ins C dx [])∧∀H',But p H H'→H' p=some (.ins C dx (dkF .non))→Q .non H'
theorem ZF4 (T:Txt K mg t):MkS P w K mg base 1 "Desk" t.CP ["self"] (ZxN t.CP):=by
 refine⟨T.ZEt,_,_,T.ZEn,T.Vi.ok ZuL (fun vs H Q E h=>?_) (fun cdv A outer s H vs Q E hr h=>?_),T.Zow⟩
 ·obtain⟨p,dx,rfl,_⟩:=h
  rfl
 obtain⟨p,dx,rfl,hp,q⟩:=h;refine⟨_,(Ah (DY (pv 0) Ws rfl)),?_⟩;walk_at "rd0";refine Hf hp T.Ia T.Hs (Dv rfl) fun H1 b1 e1=>?_;exact q H1 b1 e1
inductive Say (t:Ad):Option Mc→List Str→Option Mc→Str→Prop
 | lamps {o:Option Mc} {ns:List Str} (L:LmpW ns):Say t o ("lamps"::ns) (some ⟨ns,[],[],[]⟩) "ok"
 | ent {M:Mc} {ws:List Str} {e:Ent} (n6:M.ns.length≤6) (E:EntW M.ns ws e) (h:M.cnt e < 8):Say t (some M) ws (some (M.add e)) "ok"
 | drop {M:Mc} {s:Srt} (h0:0 < M.num s) (h8:M.num s≤8):Say t (some M) ["drop",s.wd] (some (M.cut s)) "ok"
 | ask {M:Mc} {ws:List Str} {z:Str} (ok:McOk t M) (A:Ask42 M ws z):Say t (some M) ws (some M) z
def isDk (t:Ad) (C:Ab):Prop:=C=t.CP
noncomputable def ZKb (t:Ad):Sp:=fun vs H Q _=>∃(x:Ab) (z:Str) (o o':Option Mc) (ws:List Str) (a:Str),vs=[.ref x,.str z]∧DkW t H x o∧LnW z ws∧Say t o ws o' a∧∀H',But x H H'→DkW t H' x o'→Q (.str a) H'
theorem But.of {x:Ab} {H H':Hp} (s:Same H H'):But x H H':=fun b u _ e=>s b u e
theorem ZB8 (T:Txt K mg t):∀C,isDk t C→MeS P w K mg base 76 C "say" ["self","line"] (spAt (ZKb t) C):=by
 rintro C rfl;refine⟨T.Ia,_,_,T.SX.ok ZpO (fun vs H Q E h=>?_) (fun cdv A outer s H vs Q E hr h=>?_),T.ZqS,T.Zq5⟩
 ·obtain⟨⟨x,z,o,o',ws,a,rfl,_⟩,_⟩:=h
  rfl
 obtain⟨⟨x,z,o,o',ws,a,rfl,D,⟨ha,hz,hok,hw,hne⟩,S,q⟩,_⟩:=h;have Zon:=Zn6 (P:=P) (w:=w) (base:=base) T;have Zs1:=Zsp (P:=P) (w:=w) (base:=base) T;have Zx3:=Zwu (P:=P) (w:=w) (base:=base) T;have ZET:=ZC9 (P:=P) (w:=w) (base:=base) T;have Zzf:=ZyR (P:=P) (w:=w) (base:=base) T;have Zzk:=ZyV (P:=P) (w:=w) (base:=base) T;have Zoo:=Zrh (P:=P) (w:=w) (base:=base) T
 refine⟨_,(Ai (ss 2 ZpO.nd (Bj Zon hr (Ac (pv 1) Af)))
   (Ai (Dc (Bj Zs1 hr (Ac (pv 2) Af)))
   (Ai (Bl (Ay (BL hr.units) (Bm Bo (pv 2) Ag (fun _ _=>rfl)) Am (Bd _))
   (Ai (DY (pv 0) (IK Zoo hr (Ac (Bj Zx3 hr (Ac (pv 2) Af)) (Ac (Br Af) (Ac (Br Af) (Ac (Br Af) Af))))) rfl)
   (Ah (Av Am)))
   Bq)
   (Ai (Bl (Ay ZEF (Cj (pv 0) rfl) Ws (Bd _))
   (Ah Gr)
   Bq)
   (Ai (Bl (Ay Jt (Bm Bo (pv 2) Ag (fun _ _=>rfl)) (Hr rfl T.g_SORTS) (by with_unfolding_all rfl))
   (Ai (DY (pv 0) (Bj ZET hr (Ac (Cj (pv 0) rfl) (Ac (pv 2) Af))) rfl)
   (Ah (Av Am)))
   Bq)
   (Ai (Bl (Ay (BL hr.units) (Bm Bo (pv 2) Ag (fun _ _=>rfl)) Am (Bd _))
   (Ai (DY (pv 0) (Bj Zzf hr (Ac (Cj (pv 0) rfl) (Ac (Bm Bo (pv 2) Ag (fun _ _=>rfl)) Af))) rfl)
   (Ah (Av Am)))
   Bq)
   (Ah (Av (Bj Zzk hr (Ac (Cj (pv 0) rfl) (Ac (pv 2) Af))))))))))),?_⟩
 walk_at "rd0";refine⟨z,rfl,ha,hz,hok,by rw[hw]; exact hne,fun l H1 s1 n1 e1=>?_⟩;rw[hw]at e1;walk_at ""
 cases S with
 | @lamps _ ns L=>
  refine⟨l,"lamps",ns,rfl,e1,.inr (.inr (.inl ⟨.inl rfl,fun _=>⟨L.n1,L.n6⟩,fun h=>absurd h (by decide)⟩)),fun H2 s2=>?_⟩;have e2:=s2 _ _ e1;walk_at "";refine By (j:=0) e2 (v:=.str "lamps") rfl ?_;walk_at "";refine Cg (by decide) ?_;walk_at "";refine⟨l,"lamps",ns,rfl,e2,L.n6,L.no,L.nd,fun p3 H3 s3 n3 e3=>?_⟩;walk_at "";refine BR (by simp) fun a4 H4 s4 n4 e4=>?_;walk_at "";refine BR (by simp) fun a5 H5 s5 n5 e5=>?_;walk_at "";refine BR (by simp) fun a6 H6 s6 n6 e6=>?_;walk_at "";refine Zq6 (.inl ((s4.trans (s5.trans s6)) _ _ e3)) (ps:=[]) (pb:=[]) (pv:=[]) ((s5.trans s6) _ _ e4) (s6 _ _ e5) e6 .nil .nil .nil fun m H7 s7 n7 W=>?_;have c7:=s1.trans (s2.trans (s3.trans (s4.trans (s5.trans (s6.trans s7)))))
  have hx:∃dx v,H7 x=some (.ins t.CP dx (dkF v)):=by
   cases o with
   | none=>obtain⟨dx,e⟩:=D; exact⟨dx,_,c7 _ _ e⟩
   | some M=>obtain⟨dx,m,e,_⟩:=D; exact⟨dx,_,c7 _ _ e⟩
  obtain⟨dx,v,ex⟩:=hx;walk_at "";refine Hf ex T.Ia T.Hs (Dv rfl) fun H8 b8 e8=>?_;walk_at "";exact q H8 (fun b u hb e=>b8 _ _ hb (c7 _ _ e)) ⟨dx,m,e8,McW.extK T (ExtK.desk b8 ex) W⟩
 | @ent M _ e n6 E0 h8=>
  obtain⟨w0,r,rfl,hx1,hx2,hx3⟩:=E0.hd;obtain⟨dx,m,ex,W⟩:=D;refine⟨l,w0,r,rfl,e1,.inr (.inr (.inl ⟨.inr hx1,fun h=>absurd h hx2,hx3⟩)),fun H2 s2=>?_⟩;have e2:=s2 _ _ e1;have c2:=s1.trans s2;walk_at "";refine By (j:=0) e2 (v:=.str w0) rfl ?_;walk_at "";refine Ba (decide_eq_false hx2) ?_;walk_at "";refine⟨x,_,_,_,_,rfl,c2 _ _ ex,T.Ia,T.Hs,rfl,?_⟩;walk_at "";refine⟨rfl,?_⟩;walk_at "";refine Ba (by simp) ?_;walk_at "";refine By (j:=0) e2 (v:=.str w0) rfl ?_;walk_at "";refine KY (T.q_SORTS H2) ?_;have hs:w0∈([Gb "start",Gb "bad",Gb "move"]:List Str):=hx1;rw[decide_eq_true hs];walk_at "";refine Cg rfl ?_;walk_at "";refine⟨x,_,_,_,_,rfl,c2 _ _ ex,T.Ia,T.Hs,rfl,?_⟩;walk_at "";refine⟨m,l,M,_,e,rfl,MacW.ext (Ext.of c2) W,e2,n6,E0,h8,fun y H3 s3 W3=>?_⟩;have c3:=c2.trans s3;walk_at "";refine Hf (c3 _ _ ex) T.Ia T.Hs (Dv rfl) fun H8 b8 e8=>?_;walk_at "";exact q H8 (fun b u hb e=>b8 _ _ hb (c3 _ _ e)) ⟨dx,y,e8,McW.extK T (ExtK.desk b8 (c3 _ _ ex)) W3⟩
 | @drop M s h0 h8=>
  obtain⟨dx,m,ex,W⟩:=D;refine⟨l,"drop",[s.wd],rfl,e1,.inr (.inl ⟨rfl,s,rfl⟩),fun H2 s2=>?_⟩;have e2:=s2 _ _ e1;have c2:=s1.trans s2;walk_at "";refine By (j:=0) e2 (v:=.str "drop") rfl ?_;walk_at "";refine Ba (by decide) ?_;walk_at "";refine⟨x,_,_,_,_,rfl,c2 _ _ ex,T.Ia,T.Hs,rfl,?_⟩;walk_at "";refine⟨rfl,?_⟩;walk_at "";refine Ba (by simp) ?_;walk_at "";refine By (j:=0) e2 (v:=.str "drop") rfl ?_;walk_at "";refine KY (T.q_SORTS H2) ?_;walk_at "";refine Ba (by decide) ?_;walk_at "";refine By (j:=0) e2 (v:=.str "drop") rfl ?_;walk_at "";refine Cg (by decide) ?_;walk_at "";refine⟨x,_,_,_,_,rfl,c2 _ _ ex,T.Ia,T.Hs,rfl,?_⟩;walk_at "";refine By (j:=1) e2 (v:=.str s.wd) rfl ?_;walk_at "";refine⟨m,M,s,rfl,MacW.ext (Ext.of c2) W,h0,h8,fun y H3 s3 W3=>?_⟩;have c3:=c2.trans s3;walk_at "";refine Hf (c3 _ _ ex) T.Ia T.Hs (Dv rfl) fun H8 b8 e8=>?_;walk_at "";exact q H8 (fun b u hb e=>b8 _ _ hb (c3 _ _ e)) ⟨dx,y,e8,McW.extK T (ExtK.desk b8 (c3 _ _ ex)) W3⟩
 | @ask M _ _ ok A=>
  obtain⟨dx,m,ex,W⟩:=D
  obtain⟨w0,r,rfl,hk,k1,k2,k3⟩ : ∃w0 r,ws=w0::r∧LnK w0 r∧w0≠"lamps"∧w0∉([Gb "start",Gb "bad",Gb "move"]:List Str)∧w0≠"drop":=by
   cases A with
   | «show»=>exact⟨_,_,rfl,.inl ⟨rfl,rfl⟩,by decide,by decide,by decide⟩
   | always=>exact⟨_,_,rfl,.inr (.inr (.inr rfl)),by decide,by decide,by decide⟩
  refine⟨l,w0,r,rfl,e1,hk,fun H2 s2=>?_⟩;have e2:=s2 _ _ e1;have c2:=s1.trans s2;walk_at "";refine By (j:=0) e2 (v:=.str w0) rfl ?_;walk_at "";refine Ba (decide_eq_false k1) ?_;walk_at "";refine⟨x,_,_,_,_,rfl,c2 _ _ ex,T.Ia,T.Hs,rfl,?_⟩;walk_at "";refine⟨rfl,?_⟩;walk_at "";refine Ba (by simp) ?_;walk_at "";refine By (j:=0) e2 (v:=.str w0) rfl ?_;walk_at "";refine KY (T.q_SORTS H2) ?_;rw[decide_eq_false k2];walk_at "";refine Ba rfl ?_;walk_at "";refine By (j:=0) e2 (v:=.str w0) rfl ?_;walk_at "";refine Ba (decide_eq_false k3) ?_;walk_at "";refine⟨x,_,_,_,_,rfl,c2 _ _ ex,T.Ia,T.Hs,rfl,?_⟩;walk_at "";refine⟨m,l,M,_,_,rfl,MacW.ext (Ext.of c2) W,ok,e2,A,fun H3 s3=>?_⟩;have c3:=c2.trans s3;exact q H3 (But.of c3) ⟨dx,m,c3 _ _ ex,MacW.ext (Ext.of c3) W⟩
end
unseal PE PA PS PSs
section
variable {P:Bp} {w:Bg} {K:Ao} {mg:Str→Option Ae} {base:Aq} {t:Ad} {n:Nat}
seal PE PA PS PSs
noncomputable def ZBN:Sp:=fun vs H Q _=>∃(p:Ab) (b:Bool) (S:Ab→Prop) (n:Nat) (tr:Tr),vs=[.ref p,.bl b]∧TwAt S H n p tr∧∀H',Same H H'→Q (.int (rkG b tr:Int)) H'
theorem ZGb (T:Txt K mg t):FnS P w K mg base 1 "_law_rank" ["_law_tree_here","_law_wraps"] (ZBN):=by
 refine⟨_,_,T.Rw.ok ZnW (fun vs H Q E h=>?_) (fun cdv A outer s H vs Q E hr h=>?_),T.ZoE,T.Rw.kp,T.Zpm⟩
 ·obtain⟨p,b,S,n,tr,rfl,hT,q⟩:=h
  rfl
 obtain⟨p,b,S,n,tr,rfl,hT,q⟩:=h
 refine⟨_,(Ai (lw Cz (PW.pt (Gf (Ay (BL hr.units) (Bm Bo (pv 0) Ag (fun _ _=>rfl)) Am (Bd _)) (GR (HF (DX (pv 1) (fun _=>rfl))))))
   (Ah (ss 0 ZnW.nd (Bm Bo (Bm Bo (pv 0) Ag (fun _ _=>rfl)) Ag (fun _ _=>rfl)))))
   (Ah (Av (WM (Hz (Io (by decide) _) hr.units) (Ux (Gh Am Ag (Gh Am Ag (Gh Am Ag Uw))) rfl rfl (Wr _ _) (Dv rfl)) (Bm Bo (pv 0) Ag (fun _ _=>rfl)) Ag ⟨rfl,rfl,rfl,rfl⟩)))),?_⟩
 walk_at "rs0";refine GF (fun σ H'=>H=H'∧∃p' t' v,H p'=some (.tup [.str (K1 t'),v])∧rkK t'=rkG b tr∧σ=[some (.ref p'),some (.bl b)]) ?_ ?_
 rotate_left
 ·intro Kn hK
  refine⟨fun mm σ H'=>H=H'∧∃p' t',TwAt S H mm p' t'∧rkG b t'=rkG b tr∧σ=[some (.ref p'),some (.bl b)],⟨n,rfl,p,tr,hT,rfl,rfl⟩,?_⟩;rintro mm σ H' ⟨rfl,p',t',h',e',rfl⟩;obtain⟨v,ek⟩:=h'.kind;walk_at "";refine JZ ek (v:=.str (K1 t')) rfl ?_;walk_at ""
  have out:(∀g,t'=.wrap g→b=true)→Kn [some (.ref p'),some (.bl b)] H:=fun hw=>by
   refine hK _ _ ⟨rfl,p',t',v,ek,?_,rfl⟩;rw[←e']
   cases t' with
   | wrap g=>rw[hw g rfl]; rfl
   | _=>rfl
  cases t' with
  | wrap g=>
   refine Cg rfl ?_;walk_at ""
   cases b with
   | true=>
    refine Ba rfl ?_;exact out fun _ _=>rfl
   | false=>
    refine Cg rfl ?_
    cases mm with
    | zero=>exact h'.elim
    | succ mm=>
     obtain⟨l,q',e1,sl,e2,hq⟩:=h';refine⟨_,fun σ' H'' z=>z,?_⟩;walk_at "";refine JZ e1 (v:=.ref l) rfl ?_;walk_at "";refine By (j:=0) e2 (v:=.ref q') rfl ?_;walk_at "";exact⟨mm,Oe _,rfl,q',g,hq,e',rfl⟩
  | lamp k=>exact Ba rfl (Ba rfl (out fun g z=>nomatch z))
  | sure k=>exact Ba rfl (Ba rfl (out fun g z=>nomatch z))
  | neg k=>exact Ba rfl (Ba rfl (out fun g z=>nomatch z))
  | join u gs=>exact Ba (by cases u <;> rfl) (Ba rfl (out fun g z=>nomatch z))
 rintro σ H' ⟨rfl,p',t',v,ek,er,rfl⟩;walk_at "";refine Zz5 ?_;refine Zz6 fun d hd=>?_;simp only [Ln];walk_at "";refine⟨Cm,[(BZ "and",.int 1),(BZ "either",.int 2),(BZ "or",.int 3)],rfl,by decide,d,rfl,.inl ⟨_,.inl Cm⟩,?_⟩;walk_at ""
 have ek':(upd (upd H d (.dK [])) d (.dK (Hi [] [(BZ "and",V.int 1),(BZ "either",.int 2),(BZ "or",.int 3)]))) p'=some (.tup [.str (K1 t'),v]):=by
  have hbd:p'≠d:=Bw ek hd;rw[Cd hbd,Cd hbd];exact ek
 refine JZ ek' (v:=.str (K1 t')) rfl ?_;walk_at "";refine⟨_,DGet.k (k:=BZ (K1 t')) Cm,?_⟩
 have e:(valV (Hi [] [(BZ "and",V.int 1),(BZ "either",.int 2),(BZ "or",.int 3)]) (BZ (K1 t'):Key)).getD (.int 0)=.int (rkK t':Int):=by
  cases t' with
  | lamp k=>rfl
  | sure b=>rfl
  | neg g=>rfl
  | wrap g=>rfl
  | join w gs=>cases w <;> rfl
 rw[e,er];refine q _ fun b u hb=>?_;have hbd:b≠d:=Bw hb hd;rw[Cd hbd,Cd hbd];exact hb
unseal PE PA PS PSs
end
theorem ZIm {ts:List Tr} {tr:Tr} (h:tr∈ts):nT tr≤nTL ts:=by
 induction ts with
 | nil=>cases h
 | cons x r ih=>
  show _≤nT x+nTL r
  rcases Bu.mp h with rfl | h
  ·omega
  ·have:=ih h; omega
seal PE PA PS PSs
section
variable {P:Bp} {w:Bg} {K:Ao} {mg:Str→Option Ae} {base:Aq} {t:Ad} {n:Nat}
noncomputable def Zu0 (n:Nat):Sp:=fun vs H Q _=>∃(p nl:Ab) (b:Bool) (tr:Tr) (ns:List Str),vs=[.ref p,.ref nl,.bl b]∧TwAt anyA H n p tr∧H nl=some (.lst (ns.map V.str))∧okT ns.length tr=true∧nT tr≤61∧∀l H',Same H H'→H l=none→H' l=some (.lst ((wdG b ns tr).map V.str))→Q (.ref l) H'
theorem bj (T:Txt K mg t):∀n:Nat,FnS P w K mg base (n+2) "_law_words_of" ["_law_tree_here","_law_names_here","_law_wraps"] (Zu0 n)
 | 0=>by
  have no:∀vs H Q E,¬Zu0 0 vs H Q E:=fun vs H Q E h=>by
   obtain⟨p,nl,b,tr,ns,_,h,_⟩:=h;exact h
  exact⟨_,_,⟨fun vs H Q E h=>absurd h (no vs H Q E),fun A outer s H args us vs Q E _ _ _ _ h=>absurd h (no vs H Q E)⟩,T.Zgo,T.Np.kp,T.Zgs⟩
 | n+1=>by
  have JD:=bj T n;refine⟨_,_,T.Np.ok Fd (fun vs H Q E h=>?_) (fun cdv A outer s H vs Q E hr h=>?_),T.Zgo,T.Np.kp,T.Zgs⟩
  ·obtain⟨p,nl,b,tr,ns,rfl,_⟩:=h
   rfl
  obtain⟨p,nl,b,tr,ns,rfl,hT,hn,hok,hnT,q⟩:=h;have ZkS:=ZGb (P:=P) (w:=w) (base:=base) T;obtain⟨v,ek⟩:=hT.kind
  have alt:(∃k,tr=.lamp k)∨(∃c,tr=.sure c)∨∃(z:Str) (bd:Nat) (l:Ab) (ps:List Ab) (gs:List Tr),z≠"lamp"∧z≠"sure"∧H p=some (.tup [.str z,.ref l])∧H l=some (.lst (ps.map V.ref))∧Bs (TwAt anyA H n) ps gs∧(∀g∈gs,okT ns.length g=true)∧nTL gs≤60∧(valV (Hi [] [(BZ "not",V.int 1),(BZ "and",V.int 1),(BZ "either",.int 2),(BZ "or",.int 3)]) (BZ z:Key)).getD (.int 4)=.int (bd:Int)∧(gs.map (Gk b ns z bd)).foldl (Fg z) (if z = "not" then ["not"] else [])=wdG b ns tr:=by
   cases tr with
   | lamp k=>exact .inl ⟨k,rfl⟩
   | sure c=>exact .inr (.inl ⟨c,rfl⟩)
   | neg g=>
    obtain⟨l,q',e1,_,e2,hq⟩:=hT;have hn1:nT (.neg g)=1+nT g:=rfl;refine .inr (.inr ⟨"not",1,l,[q'],[g],by decide,by decide,e1,e2,.cons hq .nil,fun x hx=>by rw[Ck.mp hx]; simpa [okT] using hok,by rw[aj]; omega,rfl,?_⟩);show Fg "not" (["not"]:List Str) (Gk b ns "not" 1 g)=("not" : Str)::brW (decide (1≤rkG b g)) (wdG b ns g);unfold Fg Gk;rw[if_neg (fun y=>y.2 rfl),show decide (("not" : Str) = "wrap"∧b=true)=false from decide_eq_false fun y=>absurd y.1 (by decide),YcJ];rfl
   | wrap g=>
    obtain⟨l,q',e1,_,e2,hq⟩:=hT;have hn1:nT (.wrap g)=1+nT g:=rfl;refine .inr (.inr ⟨"wrap",4,l,[q'],[g],by decide,by decide,e1,e2,.cons hq .nil,fun x hx=>by rw[Ck.mp hx]; simpa [okT] using hok,by rw[aj]; omega,rfl,?_⟩);show Fg "wrap" [] (Gk b ns "wrap" 4 g)=brW b (wdG b ns g);unfold Fg Gk;have:=ZIZ b g;rw[if_neg (by simp),show decide (4≤rkG b g)=false from decide_eq_false (by omega),T4,show decide (("wrap" : Str) = "wrap"∧b=true)=b by cases b <;> decide];rfl
   | join v gs=>
    obtain⟨l,ps,e1,_,e2,hq⟩:=hT;have hn1:nT (.join v gs)=1+nTL gs:=rfl;simp only [okT,Fi,decide_eq_true_iff]at hok
    have ok':∀g∈gs,okT ns.length g=true:=by
     have:=hok.2;rw[ak,GK]at this;exact this
    refine .inr (.inr ⟨kw3 v,DW v,l,ps,gs,by cases v <;> decide,by cases v <;> decide,e1,e2,hq,ok',by omega,by cases v <;> rfl,?_⟩)
    have nn:kw3 v≠"not":=by cases v <;> decide
    have nw:kw3 v≠"wrap":=by cases v <;> decide
    rw[if_neg nn,ZCv _ nn]
    ·show _=jnW (kw3 v) (wdGL b ns (DW v) gs)
     rw[ZxW]
     congr 1
     refine List.map_congr_left fun g hg=>?_;unfold Gk;rw[show decide (kw3 v = "wrap"∧b=true)=false from decide_eq_false fun y=>nw y.1,YcJ]
    ·intro x hx
     obtain⟨g,hg,rfl⟩:=Fx.mp hx;have:=ZJD b ns ns.length g (ok' g hg);unfold Gk brW
     by_cases hc:(decide (kw3 v = "wrap"∧b=true) || decide (DW v≤rkG b g))=true
     ·rw[if_pos hc]; simp
     ·rw[if_neg hc]; exact this
  refine⟨_,(Ai (ss 3 Fd.nd (Bm Bo (pv 0) Ag (fun _ _=>rfl)))
   (Ai (Bl (Ay (BL hr.units) (pv 3) Am (Bd _))
   (Ah (Av (Br (Ac (Bm Bo (pv 1) (Bm Bo (pv 0) Ag (fun _ _=>rfl)) (fun _ _=>rfl)) Af))))
   Bq)
   (Ai (Bl (Ay (BL hr.units) (pv 3) Am (Bd _))
   (Ah (Av (Br (Ac (Bm Bo (Br (Ac Am (Ac Am Af))) (Gg Ow rfl T.B.int Lq (Ac (Bm Bo (pv 0) Ag (fun _ _=>rfl)) Af)) (fun _ _=>rfl)) Af))))
   Bq)
   (Ai (ss 4 Fd.nd (WM (Hz (Io (by decide) _) hr.units) (Ux (Gh Am Ag (Gh Am Ag (Gh Am Ag (Gh Am Ag Uw)))) rfl rfl (Wr _ _) (Dv rfl)) (pv 3) Ag ⟨rfl,rfl,rfl,rfl⟩))
   (Ai (ss 5 Fd.nd (Br Af))
   (Ai (Bl (Ay (BL hr.units) (pv 3) Am (Bd _))
   (Ah (Dc (CG Ds Eg Em Ea (pv 5) (Ac Am Af))))
   Bq)
   (Ai (Dd Cz rfl (Et (Bm Bo (pv 0) Ag (fun _ _=>rfl))) (sg 6 Fd.nd)
   (Ai (ss 7 Fd.nd (Bj JD hr (Ac (pv 6) (Ac (pv 1) (Ac (pv 2) Af)))))
   (Ai (Bl (PW.pt (Fp (PW.pt (Gf (Ay (BL hr.units) (pv 3) Am (Bd _)) (GR (DX (pv 2) (fun _=>rfl))))) (Fy (Ay Us (Bj ZkS hr (Ac (pv 6) (Ac (pv 2) Af))) (pv 4) (Bd _)))))
   (Ah (ss 7 Fd.nd (Aj BJ (Aj BJ (Br (Ac Am Af)) (pv 7)) (Br (Ac Am Af)))))
   Bq)
   (Ai (Bl (PW.pt (Gf (Ay Iw (Dh Ed rfl T.B.len Ec (Ac (pv 5) Af)) Ag (Bd _)) (GR (Ay (Ja hr.units) (pv 3) Am (Bd _)))))
   (Ah (Dc (CG Ds Eg Em Ea (pv 5) (Ac (pv 3) Af))))
   Bq)
   (Ah (ss 5 Fd.nd (Aj BJ (pv 5) (pv 7))))))))
   (Ah (Av (pv 5)))))))))),?_⟩
  walk_at "rd0"
  rcases alt with ⟨k,rfl⟩|⟨c,rfl⟩|⟨z,bd,l,ps,gs,nz1,nz2,e1,e2,hps,hgs,hng,hbd,hfold⟩
  ·have hp:H p=some (.tup [.str "lamp",.int (k:Int)]):=hT
   have hk:k < ns.length:=by simpa [okT] using hok
   refine JZ hp (v:=.str "lamp") rfl ?_;walk_at "";refine Cg rfl ?_;walk_at "";refine JZ hp (v:=.int (k:Int)) rfl ?_;walk_at "";refine By (v:=.str (ns.getD k BK)) hn (by rw[El,Gd,Dr hk]; rfl) ?_;walk_at "";refine BR (by simp) fun l H1 s1 n1 e1=>?_;exact q l H1 s1 n1 e1
  ·have hp:H p=some (.tup [.str "sure",.bl c]):=hT
   refine JZ hp (v:=.str "sure") rfl ?_;walk_at "";refine Ba rfl ?_;walk_at "";refine Cg rfl ?_;walk_at "";refine BR (by simp) fun l0 H1 s1 n1 e1=>?_;walk_at "";refine JZ (s1 _ _ hp) (v:=.bl c) rfl ?_;walk_at ""
   cases c with
   | true=>
    refine By (j:=1) (v:=.str "yes") e1 rfl ?_;walk_at "";refine BR (by simp) fun l H2 s2 n2 e2=>?_;exact q l H2 (s1.trans s2) (s1.free n2) e2
   | false=>
    refine By (j:=0) (v:=.str "no") e1 rfl ?_;walk_at "";refine BR (by simp) fun l H2 s2 n2 e2=>?_;exact q l H2 (s1.trans s2) (s1.free n2) e2
  ·have hgl:=Dj hps;have hgn:=ZAy gs
   refine JZ e1 (v:=.str z) rfl ?_;walk_at "";refine Ba (decide_eq_false nz1) ?_;walk_at "";refine Ba (decide_eq_false nz2) ?_;walk_at "";refine Zz5 ?_;refine Zz6 fun d hd=>?_;simp only [Ln];walk_at "";refine⟨Cm,[(BZ "not",.int 1),(BZ "and",.int 1),(BZ "either",.int 2),(BZ "or",.int 3)],rfl,by decide,d,rfl,.inl ⟨_,.inl Cm⟩,?_⟩;walk_at "";refine⟨_,DGet.k (k:=BZ z) Cm,?_⟩;rw[hbd]
   have sd:Same H (upd (upd H d (.dK [])) d (.dK (Hi [] [(BZ "not",V.int 1),(BZ "and",V.int 1),(BZ "either",.int 2),(BZ "or",.int 3)]))):=fun x u hb=>by
    have hbd:x≠d:=Bw hb hd;rw[Cd hbd,Cd hbd];exact hb
   generalize upd (upd H d (.dK [])) d (.dK (Hi [] [(BZ "not",V.int 1),(BZ "and",V.int 1),(BZ "either",.int 2),(BZ "or",.int 3)]))=H1 at sd ⊢;walk_at "";refine BR (by simp) fun f0 H2 s2 n2 e3=>?_;have nf0:H f0=none:=sd.free n2;walk_at "rs";refine GF (fun σ H'=>Same H H'∧H' f0=some (.lst ((if z = "not" then(["not"]:List Str) else []).map V.str))∧σ=[some (.ref p),some (.ref nl),some (.bl b),some (.str z),some (.int (bd:Int)),some (.ref f0),none,none]) ?_ ?_
   rotate_left
   ·intro Kn hK
    walk_at "rs";refine Di (fun hz=>?_) (fun hz=>?_)
    ·walk_at "rs"
     refine⟨tyL e3,?_⟩;walk_at "rs";refine Eu e3 (by simp) fun H3 b3 e4=>?_;walk_at "rs";exact hK _ _ ⟨b3.same nf0 (sd.trans s2),by rw[if_pos hz]; exact e4,rfl⟩
    ·walk_at "rs"
     exact hK _ _ ⟨sd.trans s2,by rw[if_neg hz]; exact e3,rfl⟩
   rintro σ H3 ⟨s3,ef,rfl⟩;walk_at "rs";refine Hq ?_;walk_at "rs";refine JZ (s3 _ _ e1) (v:=.ref l) rfl ?_;walk_at "rs";refine seqL (xs:=ps.map V.ref) (fun i σ H'=>∃fl v6 v7,Same H H'∧H fl=none∧H' fl=some (.lst ((((gs.take i).map (Gk b ns z bd)).foldl (Fg z) (if z = "not" then ["not"] else [])).map V.str))∧(((gs.take i).map (Gk b ns z bd)).foldl (Fg z) (if z = "not" then ["not"] else [])).length≤1+300 * i∧σ=[some (.ref p),some (.ref nl),some (.bl b),some (.str z),some (.int (bd:Int)),some (.ref fl),v6,v7]) ⟨f0,_,_,s3,nf0,ef,by show(if z = "not" then(["not"]:List Str) else []).length≤_; by_cases hz:z = "not" <;> simp[hz],rfl⟩ (fun i σ H' _ hp=>by obtain⟨fl,v6,v7,s',_⟩:=hp; exact SqL.of (s' _ _ e2)) ?_ ?_
   ·rintro i x σ H4 hx ⟨fl,v6,v7,s4,nfl,efl,hF,rfl⟩
    obtain⟨pa,rfl,hpa⟩:=FQ hx;obtain⟨g,hg,hga⟩:=Ib hps hpa;have hil:i < gs.length:=(Ej.mp hg).1;have gm:=Dm hg;have gn:=ZIm gm;have hwl:=K3 b ns g;generalize hFF:((gs.take i).map (Gk b ns z bd)).foldl (Fg z) (if z = "not" then ["not"] else [])=F at efl hF
    have nx:((gs.take (i+1)).map (Gk b ns z bd)).foldl (Fg z) (if z = "not" then ["not"] else [])=Fg z F (Gk b ns z bd g):=by rw[Ff hg,Cp,Om,hFF]; rfl
    walk_at "";refine⟨pa,nl,b,g,ns,rfl,hga.same s4,s4 _ _ hn,hgs g gm,by omega,fun il H5 s5 n5 e5=>?_⟩;have s45:=s4.trans s5;walk_at "rs";refine GF (fun σ H'=>∃il',Same H H'∧Same H4 H'∧H4 il'=none∧H' il'=some (.lst ((Gk b ns z bd g).map V.str))∧σ=[some (.ref p),some (.ref nl),some (.bl b),some (.str z),some (.int (bd:Int)),some (.ref fl),some (.ref pa),some (.ref il')]) ?_ ?_
    rotate_left
    ·intro Kn hK
     have yes:(decide (z = "wrap"∧b=true) || decide (bd≤rkG b g))=true→∀KK,KK.nx=Kn→∀H6,Same H5 H6→tAsg (tOp Js (tOp Js (tLst (HH (tC (V.str "(")) tNil)) (tVar 7)) (tLst (HH (tC (V.str ")")) tNil))) (Ir 7) KK [some (.ref p),some (.ref nl),some (.bl b),some (.str z),some (.int (bd:Int)),some (.ref fl),some (.ref pa),some (.ref il)] H6:=fun hc KK hKK H6 s6=>by
      walk_at "rs";refine BR (by simp) fun o1 H7 s7 n7 e7=>?_;walk_at "rs";refine sy e7 (s7 _ _ (s6 _ _ e5)) (by rw[Ax]; simp; omega) fun o2 H8 s8 n8 e8=>?_;walk_at "rs";refine BR (by simp) fun o3 H9 s9 n9 e9=>?_;refine sy (s9 _ _ e8) e9 (by simp only [CZ,Ax,Gv,CT,Gw]; omega) fun o4 H10 s10 n10 e10=>?_;walk_at "rs";show KK.nx _ _;rw[hKK];have sA:=s6.trans (s7.trans (s8.trans (s9.trans s10)));refine hK _ _ ⟨o4,s45.trans sA,s5.trans sA,(s5.trans (s6.trans (s7.trans (s8.trans s9)))).free n10,?_,rfl⟩;unfold Gk brW;rw[hc,if_pos rfl,e10];simp
     have no:(decide (z = "wrap"∧b=true) || decide (bd≤rkG b g))=false→∀H6,Same H5 H6→Kn [some (.ref p),some (.ref nl),some (.bl b),some (.str z),some (.int (bd:Int)),some (.ref fl),some (.ref pa),some (.ref il)] H6:=fun hc H6 s6=>by
      refine hK _ _ ⟨il,s45.trans s6,s5.trans s6,n5,?_,rfl⟩;unfold Gk brW;rw[hc,if_neg (by decide)];exact s6 _ _ e5
     have rnk:∀(Q':VK),(¬(z = "wrap"∧b=true))→(∀H6,Same H5 H6→Q' (.int (rkG b g:Int)) H6)→ZBN [.ref pa,.bl b] H5 Q' (fun _ _ _=>False):=fun Q' _ kk=>⟨pa,b,anyA,n,g,rfl,hga.same s45,kk⟩;walk_at "rs"
     by_cases hw:z = "wrap"
     ·refine Cg (decide_eq_true hw) ?_
      walk_at "rs"
      by_cases hb:b=true
      ·refine Cg hb ?_
       refine Cg rfl ?_;exact yes (by rw[decide_eq_true ⟨hw,hb⟩]; rfl) _ rfl H5 (fun _ _ h=>h)
      ·refine Ba (by cases b <;> first | rfl | exact absurd rfl hb) ?_
       walk_at "rs";refine rnk _ (fun y=>hb y.2) fun H6 s6=>?_;walk_at "rs";refine Di (fun hr=>?_) (fun hr=>?_)
       ·exact yes (by rw[decide_eq_true (show bd≤rkG b g by omega),Wl]) _ rfl H6 s6
       ·walk_at "rs"
        exact no (by rw[decide_eq_false (show ¬bd≤rkG b g by omega),T4]; exact decide_eq_false fun y=>hb y.2) H6 s6
     ·refine Ba (decide_eq_false hw) ?_
      walk_at "rs";refine Ba rfl ?_;walk_at "rs";refine rnk _ (fun y=>hw y.1) fun H6 s6=>?_;walk_at "rs";refine Di (fun hr=>?_) (fun hr=>?_)
      ·exact yes (by rw[decide_eq_true (show bd≤rkG b g by omega),Wl]) _ rfl H6 s6
      ·walk_at "rs"
       exact no (by rw[decide_eq_false (show ¬bd≤rkG b g by omega),T4]; exact decide_eq_false fun y=>hw y.1) H6 s6
    rintro σ H6 ⟨il',s6,s46,n6,e6,rfl⟩;walk_at "rs";refine GF (fun σ H'=>Same H H'∧H' il'=some (.lst ((Gk b ns z bd g).map V.str))∧H' fl=some (.lst ((if 0 < F.length∧z≠"not" then F++[z] else F).map V.str))∧σ=[some (.ref p),some (.ref nl),some (.bl b),some (.str z),some (.int (bd:Int)),some (.ref fl),some (.ref pa),some (.ref il')]) ?_ ?_
    rotate_left
    ·intro Kn hK
     have efl6:=s46 _ _ efl;walk_at "rs";have hFm:(F.map V.str).length=F.length:=Ax ..;refine Di (fun h0=>?_) (fun h0=>?_)
     ·walk_at "rs"
      rw[show(!decide (z = "not"))=decide (z≠"not") from(decide_not ..).symm];refine Di (fun hz=>?_) (fun hz=>?_)
      ·walk_at "rs"
       refine⟨tyL efl6,?_⟩;walk_at "rs";refine Eu efl6 (by simp; omega) fun H7 b7 e7=>?_;walk_at "rs";exact hK _ _ ⟨b7.same nfl s6,b7 _ _ (Bw efl n6).symm e6,by rw[if_pos ⟨by omega,hz⟩,e7]; simp,rfl⟩
      ·walk_at "rs"
       exact hK _ _ ⟨s6,e6,by rw[if_neg (fun y=>hz y.2)]; exact efl6,rfl⟩
     ·walk_at "rs"
      exact hK _ _ ⟨s6,e6,by rw[if_neg (fun y=>h0 (by omega))]; exact efl6,rfl⟩
    rintro σ H7 ⟨s7,e7,e8,rfl⟩;walk_at "rs"
    have hin:(Gk b ns z bd g).length≤246:=by
     have:=aq (decide (z = "wrap"∧b=true) || decide (bd≤rkG b g)) (wdG b ns g);unfold Gk;omega
    have hst:(if 0 < F.length∧z≠"not" then F++[z] else F).length≤F.length+1:=by
     by_cases hc:0 < F.length∧z≠"not"
     ·rw[if_pos hc,CZ]; exact Bv _
     ·rw[if_neg hc]; omega
    refine sy e8 e7 (by rw[Ax,Ax]; omega) fun o H8 s8 n8 e9=>?_;walk_at "rs";refine⟨o,_,_,s7.trans s8,s7.free n8,by rw[nx,e9]; simp[Fg],?_,rfl⟩;rw[nx];unfold Fg;rw[CZ];omega
   ·rintro σ H4 ⟨fl,v6,v7,s4,nfl,efl,hF,rfl⟩
    rw[Ax,hgl,Fw,hfold]at efl;walk_at "";exact q fl H4 s4 nfl efl
end
unseal PE PA PS PSs
seal PE PA PS PSs
section
variable {P:Bp} {w:Bg} {K:Ao} {mg:Str→Option Ae} {base:Aq} {t:Ad} {n:Nat}
noncomputable def ZDB (n:Nat):Sp:=fun vs H Q _=>∃(p nl:Ab) (tr:Tr) (ns:List Str),vs=[.ref p,.ref nl]∧TwAt anyA H n p tr∧H nl=some (.lst (ns.map V.str))∧okT ns.length tr=true∧nT tr≤61∧(∀k,k < ns.length→NmL (ns.getD k BK)∧(ns.getD k BK).length≤8)∧∀x H',Same H H'→cl1 x=glue ((wdG false ns tr).map cl1)→Q (.str x) H'
theorem Zzi (T:Txt K mg t):FnS P w K mg base (n+3) "_law_plain" ["_law_tree_here","_law_names_here"] (ZDB n):=by
 have JD:=bj (P:=P) (w:=w) (base:=base) T n;refine⟨_,_,T.Rz.ok Zmq (fun vs H Q E h=>?_) (fun cdv A outer s H vs Q E hr h=>?_),T.Znt,T.Rz.kp,T.ZnI⟩
 ·obtain⟨p,nl,tr,ns,rfl,_⟩:=h
  rfl
 obtain⟨p,nl,tr,ns,rfl,hT,hn,hok,hnT,hN,q⟩:=h;have hw:=Tu (Pz:=WdS) Vt (b:=false) (m:=ns.length) (ns:=ns) (fun k hk=>⟨Wd.let (hN k hk).1,(hN k hk).2⟩) tr hok
 refine⟨_,(ZIQ (ssp 2 Zmq.nd (CG HB Ld Le KC Am (Ac (Bj JD hr (Ac (pv 0) (Ac (pv 1) (Ac Fo Af)))) Af)))
   (ZDm (ZGx (ZBb (ZBb (ZIJ (pv 2))))))),?_⟩
 walk_at "rd0";refine⟨tyS,?_⟩;walk_at "";refine⟨p,nl,false,tr,ns,rfl,hT,hn,hok,hnT,fun l H1 s1 n1 e1=>?_⟩;walk_at "";have hsum:((wdG false ns tr).map (·.length)).sum≤8 * (wdG false ns tr).length:=ZEM fun z hz=>(hw z hz).2;have hwl:=K3 false ns tr;refine⟨" ",l,wdG false ns tr,rfl,rfl,SqL.of e1,?_,?_⟩
 ·unfold Kp j0
  rw[j4];have:Cq " " = 1:=rfl;rw[this,decide_eq_false (j5.mpr (Ca (by omega)))];rfl
 have hj:(Txt.join " " (wdG false ns tr)).cps.toList=jn [32] ((wdG false ns tr).map cl1):=by
  show(Wn _ _).cps.toList=_;rw[Ui,Tf];rfl
 have hjl:(Txt.join " " (wdG false ns tr)).length≤8 * 244+244:=by
  show(Wn _ _).length≤_;rw[Ui];have:=Ya9 " " (wdG false ns tr);have e:Cq " " = 1:=rfl;rw[e]at this;omega
 have hg:=ZvL _ _ hj fun p hp=>by
  obtain⟨z,hz,rfl⟩:=Fx.mp hp;exact(hw z hz).1
 walk_at ""
 have h1:(Txt.replace (Txt.join " " (wdG false ns tr)) ⟨#[40,32]⟩ ⟨#[40]⟩).length≤(Txt.join " " (wdG false ns tr)).length:=by
  show j7 _≤j7 _;rw[←Hg,←Hg,Ziw];exact ZwF (by decide) _
 refine⟨_,rfl,by decide,?_,_,rfl,by decide,?_,?_⟩
 ·show _+(_+1) * 1≤_
  omega
 ·show(Txt.replace (Txt.join " " (wdG false ns tr)) ⟨#[40,32]⟩ ⟨#[40]⟩).length+((Txt.replace (Txt.join " " (wdG false ns tr)) ⟨#[40,32]⟩ ⟨#[40]⟩).length+1) * 1≤_
  omega
 ·exact q _ H1 s1 hg
end
unseal PE PA PS PSs
noncomputable def isMk (z:Str):Bool:=decide (cl1 z=[40]) || decide (cl1 z=[41]) || decide (cl1 z=[44])
def Wd3 (p:List Nat):Prop:=p=[40]∨p=[41]∨p=[44]∨(p≠[]∧∀c∈p,97≤c∧c≤122)
def WdX (z:Str):Prop:=Wd3 (cl1 z)∧z.length≤14
theorem WdS.x {z:Str} (h:WdS z):WdX z:=⟨by rcases h.1 with e | e | e; exact .inl e; exact .inr (.inl e); exact .inr (.inr (.inr e)),by have:=h.2; omega⟩
theorem Zxe {z:Str} (h:WdX z):(!(Hv "()," z 0 (Cq "(),") 1).isEmpty)=isMk z:=by
 rcases h.1 with e | e | e | e
 ·have:z = "(":=az e
  subst this;decide +kernel
 ·have:z = ")":=az e
  subst this;decide +kernel
 ·have:z = ",":=az e
  subst this;decide +kernel
 ·have hm:isMk z=false:=by
   unfold isMk;rw[Ybb,Ybb];refine⟨⟨decide_eq_false fun y=>?_,decide_eq_false fun y=>?_⟩,decide_eq_false fun y=>?_⟩
   ·have:=e.2 40 (by rw[y]; simp); omega
   ·have:=e.2 41 (by rw[y]; simp); omega
   ·have:=e.2 44 (by rw[y]; simp); omega
  rw[hm];refine Bool.eq_false_iff.mpr fun y=>?_;obtain⟨i,hi,hs⟩:=(StrLaws.found_iff "()," z).mp y;unfold YcC at hs;have e1:=congrArg VH (V3 hs);obtain⟨c,hc⟩:=List.exists_mem_of_ne_nil _ e.1
  have hc2:c∈(Str.cps "(),").toList:=by
   have hc1:c∈z.cps.toList:=hc;rw[←e1,Array.toList_extract]at hc1;exact List.mem_of_mem_drop (List.mem_of_mem_take hc1)
  have hc3:c∈[40,41,44]:=hc2;have:=e.2 c hc;simp only [Bu,Fl,or_false]at hc3;omega
theorem ZoM:∀g:Nat,g≤2→cl1 (Txt.mul " " (g:Int))=JL g 32:=by
 intro g hg
 match g,hg with
 | 0,_=>decide +kernel
 | 1,_=>decide +kernel
 | 2,_=>decide +kernel
seal PE PA PS PSs
section
variable {P:Bp} {w:Bg} {K:Ao} {mg:Str→Option Ae} {base:Aq} {t:Ad} {n:Nat}
noncomputable def ZBQ:Sp:=fun vs H Q _=>∃(l:Ab) (ws:List Str) (c:Int),vs=[.ref l,.int c]∧H l=some (.lst (ws.map V.str))∧(∀z∈ws,WdX z)∧ws.length≤900∧∀x:Str,(∀d∈x.cps.toList,al d=true)→x.length≤16000→Txt.words (pad x)=ws→Q (.str x) H
def fits (last:Str) (r:List Nat):Prop:=isMk last=true∨opn r
theorem ZEy:∀g:Nat,g≤2→MulOk " " (g:Int):=by
 intro g hg
 match g,hg with
 | 0,_=>exact⟨by decide,fun h _=>absurd (by decide) h,fun h _=>absurd (by decide) h⟩
 | 1,_=>exact⟨by decide,fun _ _=>by decide,fun _ _=>by decide +kernel⟩
 | 2,_=>exact⟨by decide,fun _ _=>by decide,fun _ _=>by decide +kernel⟩
theorem ZKf {p:List Nat} (h:Wd3 p):∀d∈p,al d=true:=by
 intro d hd
 rcases h with rfl | rfl | rfl | h
 ·rw[Ck.mp hd]; decide
 ·rw[Ck.mp hd]; decide
 ·rw[Ck.mp hd]; decide
 ·have:=h.2 d hd
  unfold al isL;rw[decide_eq_true this.1,decide_eq_true this.2];rfl
theorem ZBV {z:Str} (zw:WdX z) {r:List Nat} (h:fits z r):Ww1 (cl1 z++r)=cl1 z::Ww1 r:=by
 rcases zw.1 with e | e | e | e
 ·rw[e]; exact Zvj (by decide) r
 ·rw[e]; exact Zvj (by decide) r
 ·rw[e]; exact Zvj (by decide) r
 ·refine ZE0 e.1 e.2 (h.resolve_left fun y=>?_)
  unfold isMk at y;rw[Uh,Uh,decide_eq_true_iff,decide_eq_true_iff,decide_eq_true_iff]at y
  rcases y with(y | y) | y
  ·have:=e.2 40 (by rw[y]; simp); omega
  ·have:=e.2 41 (by rw[y]; simp); omega
  ·have:=e.2 44 (by rw[y]; simp); omega
theorem ZzU {z last:Str} (zw:WdX z) {g:Nat} {r:List Nat} (h:g=0→isMk z=true∨isMk last=true):fits last (JL g 32++(cl1 z++r)):=by
 cases g with
 | succ g=>exact .inr (.inr ⟨32,_,rfl,.inl rfl⟩)
 | zero=>
  rcases h rfl with y | y
  ·unfold isMk at y
   rw[Uh,Uh,decide_eq_true_iff,decide_eq_true_iff,decide_eq_true_iff]at y
   rcases y with(y | y) | y
   ·exact .inr (.inr ⟨40,r,by rw[y]; rfl,.inr (by decide)⟩)
   ·exact .inr (.inr ⟨41,r,by rw[y]; rfl,.inr (by decide)⟩)
   ·exact .inr (.inr ⟨44,r,by rw[y]; rfl,.inr (by decide)⟩)
  ·exact .inl y
theorem ZAW (T:Txt K mg t):FnS P w K mg base 1 "_law_spaced" ["_law_some","_law_seed"] ZBQ:=by
 refine⟨_,_,T.RB.ok Ju (fun vs H Q E h=>?_) (fun cdv A outer s H vs Q E hr h=>?_),T.ZlK,T.RB.kp,T.Zma⟩
 ·obtain⟨l,ws,c,rfl,_⟩:=h
  rfl
 obtain⟨l,ws,c,rfl,hl,hw,hwn,q⟩:=h
 refine⟨_,(Ai (ss 2 Ju.nd Am)
   (Ai (ss 3 Ju.nd Am)
   (Ai (ss 4 Ju.nd (Aj Cv (pv 1) Ag))
   (Ai (Dd Cz rfl (Et (pv 0)) (sg 5 Ju.nd)
   (Ai (ss 4 Ju.nd (Aj Cv (Aj BJ (Aj ut (pv 4) Ag) Ag) Ag))
   (Ai (ss 6 Ju.nd (Dh (ZzE rfl) rfl T.B.max ZHj (Ac Ag (Ac (Aj Fq (Aj Cv (Aj Eo (pv 4) Ag) Ag) Ag) Af))))
   (Ai (Bl (PW.pt (Gf (Ay (BL hr.units) (pv 6) Ag (Bd _)) (Gf (Ay Oz (pv 5) Am (by with_unfolding_all rfl)) (GR (Ay Oz (pv 3) Am (by with_unfolding_all rfl))))))
   (Ah (ss 6 Ju.nd Ag))
   Bq)
   (Ai (ss 2 Ju.nd (Aj BJ (Aj BJ (pv 2) (Aj ut Am (pv 6))) (pv 5)))
   (Ah (ss 3 Ju.nd (pv 5))))))))
   (Ah (Av (Aj BJ (pv 2) (Aj ut Am (Aj Cv (pv 1) Ag))))))))),?_⟩
 walk_at "rd0";refine seqL (xs:=ws.map V.str) (fun i σ H'=>H'=H∧∃(x last:Str) (st:Int) (v6 v7:Option V),0≤st∧WdX last∧(∀d∈x.cps.toList,al d=true)∧x.length≤16 * i∧(∀r,fits last r→Ww1 (cl1 x++r)=(ws.take i).map cl1++Ww1 r)∧σ=[some (.ref l),some (.int (c:Int)),some (.str x),some (.str last),some (.int st),v6,v7]) ⟨rfl,"","(",_,_,_,by omega,(Vt _ (by decide)).x,by decide,by decide,fun r _=>rfl,rfl⟩ (fun i σ H' _ hp=>by obtain⟨rfl,_⟩:=hp; exact SqL.of hl) ?_ ?_
 ·rintro i z σ H' hx ⟨rfl,x,last,st,v6,v7,hst,hlast,hal,hxl,hW,rfl⟩
  obtain⟨z,rfl,hz⟩:=ZrO hx;have zw:=hw z (Dm hz);walk_at "";refine .inl (Hj (.inr ⟨by decide,by decide⟩) ?_);walk_at "rs"
  have hst2:0≤(st * 48271+11) % 2147483647:=by omega
  generalize (st * 48271+11) % 2147483647=st2 at hst2 ⊢;refine Hq ?_;walk_at "rs"
  (try refine qx ?_)
  obtain⟨g,hg,hg2⟩ : ∃g:Nat,max 0 (st2 / 512 % 5 - 2)=(g:Int)∧g≤2:=⟨(max 0 (st2 / 512 % 5 - 2)).toNat,by omega,by omega⟩;rw[hg];walk_at "rs";refine GF (fun σ H1=>H1=H'∧∃g':Nat,g'≤2∧(g'=0→isMk z=true∨isMk last=true)∧σ=[some (.ref l),some (.int (c:Int)),some (.str x),some (.str last),some (.int st2),some (.str z),some (.int (g':Int))]) ?_ ?_
  rotate_left
  ·intro Kn hK
   walk_at "rs";refine Di (fun h0=>?_) (fun h0=>?_)
   ·walk_at "rs"
    refine .inl ⟨_,_,rfl,rfl,?_⟩;rw[Zxe zw]
    dsimp only
    walk_at "rs"
    cases hz1:isMk z with
    | true=>
     refine Ba rfl ?_;refine Ba rfl ?_;walk_at "rs";exact hK _ _ ⟨rfl,g,hg2,fun _=>.inl hz1,rfl⟩
    | false=>
     refine Cg rfl ?_;walk_at "rs";refine .inl ⟨_,_,rfl,rfl,?_⟩;rw[Zxe hlast]
     dsimp only
     walk_at "rs"
     cases hz2:isMk last with
     | true=>
      refine Ba rfl ?_;walk_at "rs";exact hK _ _ ⟨rfl,g,hg2,fun _=>.inr hz2,rfl⟩
     | false=>
      refine Cg rfl ?_;walk_at "rs";exact hK _ _ ⟨rfl,1,by decide,fun e=>absurd e (by decide),rfl⟩
   ·walk_at "rs"
    exact hK _ _ ⟨rfl,g,hg2,fun e=>absurd (show(g:Int)=0 by omega) h0,rfl⟩
  rintro σ H1 ⟨rfl,g',hg',hgm,rfl⟩;have eb:=ZoM g' hg'
  have lb:(Txt.mul " " (g':Int)).length=g':=by
   show j7 _=_;rw[←Hg];have:=congrArg K7 eb;rw[Yax]at this;exact this
  have hil:i < ws.length:=(Ej.mp hz).1;have zl:=zw.2;walk_at "rs";refine Hq ?_;walk_at "rs";refine .inr ⟨" ",(g':Int),rfl,rfl,ZEy g' hg',?_⟩;refine Ew (Ca (by rw[lb]; omega)) ?_;walk_at "rs";refine Ew (Ca (by rw[Ce,lb]; omega)) ?_;walk_at "rs"
  have e1:∀r,cl1 (x++Txt.mul " " (g':Int)++z)++r=cl1 x++(JL g' 32++(cl1 z++r)):=fun r=>by
   have:cl1 (x++Txt.mul " " (g':Int)++z)=cl1 x++cl1 (Txt.mul " " (g':Int))++cl1 z:=by
    show(x++Txt.mul " " (g':Int)++z).cps.toList=_;rw[list_append,list_append];rfl
   rw[this,eb,Gp,Gp]
  refine⟨rfl,_,z,st2,_,_,hst2,zw,?_,?_,?_,rfl⟩
  ·intro d hd
   have hd':d∈cl1 (x++Txt.mul " " (g':Int)++z)++[]:=by rw[Es]; exact hd
   rw[e1,Es]at hd'
   rcases Er.mp hd' with hd | hd
   ·exact hal d hd
   ·rcases Er.mp hd with hd | hd
    ·rw[(Ya3.mp hd).2]; decide
    ·exact ZKf zw.1 d hd
  ·rw[Ce,Ce,lb]; omega
  ·intro r hr
   rw[e1,hW _ (ZzU zw hgm),Zop,ZBV zw hr,Ff hz,Cp,Gp];rfl
 ·rintro σ H' ⟨rfl,x,last,st,v6,v7,hst,hlast,hal,hxl,hW,rfl⟩
  walk_at "";obtain⟨g,hg,hg2⟩ : ∃g:Nat,(c:Int) % 3=(g:Int)∧g≤2:=⟨(c % 3).toNat,by omega,by omega⟩;rw[hg];have eb:=ZoM g hg2
  have lb:(Txt.mul " " (g:Int)).length=g:=by
   show j7 _=_;rw[←Hg];have:=congrArg K7 eb;rw[Yax]at this;exact this
  have hxl:x.length≤16 * ws.length:=by rw[Ax]at hxl; exact hxl
  refine .inr ⟨" ",(g:Int),rfl,rfl,ZEy g hg2,?_⟩;refine Ew (Ca (by rw[lb]; omega)) ?_
  have e1:cl1 (x++Txt.mul " " (g:Int))=cl1 x++(JL g 32++[]):=by
   show(x++Txt.mul " " (g:Int)).cps.toList=_;rw[list_append,Es,←eb];rfl
  have hal2:∀d∈(x++Txt.mul " " (g:Int)).cps.toList,al d=true:=by
   intro d hd;have hd':d∈cl1 (x++Txt.mul " " (g:Int)):=hd;rw[e1,Es]at hd'
   rcases Er.mp hd' with hd | hd
   ·exact hal d hd
   ·rw[(Ya3.mp hd).2]; decide
  refine q _ hal2 (by rw[Ce,lb]; omega) ?_;refine Zum ?_;have hww:=ZDN hal2;refine hww.trans ?_;show Ww1 (cl1 (x++Txt.mul " " (g:Int)))=_;rw[e1,hW _ (.inr ?_),Zop,Ax,Fw]
  ·exact Es _
  ·cases g with
   | zero=>exact .inl rfl
   | succ g=>exact .inr ⟨32,_,rfl,.inl rfl⟩
end
unseal PE PA PS PSs
def Nm8 (z:Str):Prop:=Lt z∧1≤z.length∧z.length≤8
section
variable {P:Bp} {w:Bg} {K:Ao} {mg:Str→Option Ae} {base:Aq} {t:Ad} {n:Nat}
noncomputable def ZBM:Sp:=fun vs H Q _=>∃(sd:Int) (sz:Nat),vs=[.int sd,.int (sz:Int)]∧sz≤8∧∀z,Lt z→z.length=sz→Q (.str z) H
theorem ZyS (T:Txt K mg t):FnS P w K mg base 1 "_law_letters" ["_law_seed","_law_size"] (ZBM):=by
 refine⟨_,_,T.Rt.ok LK (fun vs H Q E h=>?_) (fun cdv A outer s H vs Q E hr h=>?_),T.ZkE,T.Rt.kp,T.ZkL⟩
 ·obtain⟨sd,sz,rfl,hsz,q⟩:=h
  rfl
 obtain⟨sd,sz,rfl,hsz,q⟩:=h
 refine⟨_,(Ai (ss 2 LK.nd Am)
   (Ai (ss 3 LK.nd Am)
   (Ai (ss 4 LK.nd (Aj Cv (pv 0) Ag))
   (Ai (Dd Cz rfl (Hn rfl T.B.range (Ac (pv 1) Af)) (sg 5 LK.nd)
   (Ai (ss 4 LK.nd (Aj Cv (Aj BJ (Aj GZ (pv 4) Ag) Ag) Ag))
   (Ah (ss 3 LK.nd (Aj BJ (pv 3) (Bm Bo (pv 2) (Aj Cv (Aj Eo (pv 4) Ag) Ag) (fun _ _=>rfl)))))))
   (Ah (Av (pv 3))))))),?_⟩
 walk_at "rd0";refine⟨_,rfl,by omega,by omega,?_⟩;rw[show((sz:Int)).toNat=sz by omega];refine Kw (n:=sz) (fun i σ H'=>H'=H∧∃(z:Str) (st:Int) (v:Option V),Lt z∧z.length=i∧σ=[some (.int sd),some (.int (sz:Int)),some (.str "abcdefghijklmnopqrstuvwxyz"),some (.str z),some (.int st),v]) ⟨rfl,"",_,_,(fun c hc=>by cases hc),rfl,rfl⟩ ?_ ?_
 ·rintro i σ H' hi ⟨rfl,z,st,v,hz,hl,rfl⟩
  walk_at "";refine Hj (.inr ⟨by decide,by decide⟩) ?_;walk_at "";obtain⟨k,hk,hk26⟩ : ∃k:Nat,(st * 48271+7919) % 2147483647 / 64 % 26=(k:Int)∧k < 26:=⟨((st * 48271+7919) % 2147483647 / 64 % 26).toNat,by omega,by omega⟩;rw[hk];refine Ox (by decide) (Lj (ZAz k hk26)) ?_;refine Ew (Ca (by show _+1≤_; omega)) ?_;walk_at "";exact⟨rfl,_,_,_,Te hz (ZZ hk26),by rw[Ce,hl]; rfl,rfl⟩
 ·rintro σ H' ⟨rfl,z,st,v,hz,hl,rfl⟩
  walk_at "";exact q z hz hl
noncomputable def FW:List Str:=["and","or","not","either","yes","no","then","is"]
noncomputable def ZFS:List Str:=["lamps","start","bad","move","drop","show","judge","fence","always","reach"]
noncomputable def okN (z:Str):Bool:=z.cps.toList.all (fun c=>decide (97≤c) && decide (c≤122)) && decide (1≤z.length) && decide (z.length≤7)
theorem ZED {z:Str} (h:okN z=true):Lt z∧1≤z.length∧z.length≤7:=by
 unfold okN at h;rw[Fi,Fi,GK]at h;refine⟨fun c hc=>?_,of_decide_eq_true h.1.2,of_decide_eq_true h.2⟩;have:=h.1.1 c hc;rw[Fi]at this;exact⟨of_decide_eq_true this.1,of_decide_eq_true this.2⟩
theorem ZFM:∀k,k < 8→∃z,FW[k]?=some z∧okN z=true:=by
 have h:∀k,k < 8→(FW[k]?).any okN=true:=by decide +kernel
 intro k hk;have:=h k hk
 cases e:FW[k]? with
 | none=>rw[e]at this; exact absurd this (by decide)
 | some z=>rw[e]at this; exact⟨z,rfl,this⟩
theorem ZFT:∀k,k < 10→∃z,ZFS[k]?=some z∧okN z=true:=by
 have h:∀k,k < 10→(ZFS[k]?).any okN=true:=by decide +kernel
 intro k hk;have:=h k hk
 cases e:ZFS[k]? with
 | none=>rw[e]at this; exact absurd this (by decide)
 | some z=>rw[e]at this; exact⟨z,rfl,this⟩
theorem ZEx {ns:List Str} {k:Nat} {z:Str} (h:ns[k]?=some z):(ns.map V.str)[k]?=some (.str z):=by rw[El,h]; rfl
seal PE PA PS PSs
noncomputable def ZJl:Sp:=fun vs H Q _=>∃(k:Nat) (c:Int),vs=[.int (k:Int),.int c]∧k < 6∧∀z H',Same H H'→Nm8 z→Q (.str z) H'
theorem ZGa (T:Txt K mg t):FnS P w K mg base 3 "_law_name" ["_law_k","_law_cell"] (ZJl):=by
 refine⟨_,_,T.Ru.ok KD (fun vs H Q E h=>?_) (fun cdv A outer s H vs Q E hr h=>?_),T.ZoD,T.Ru.kp,T.Zpl⟩
 ·obtain⟨k,c,rfl,hk6,q⟩:=h
  rfl
 obtain⟨k,c,rfl,hk6,q⟩:=h;have Zkw:=ZyS (P:=P) (w:=w) (base:=base) T
 refine⟨_,(Ai (ss 2 KD.nd Am)
   (Ai (ss 3 KD.nd (Aj Cv (pv 1) Ag))
   (Ai (ss 4 KD.nd (Aj BJ Ag (Aj Cv (Aj Eo (pv 1) Ag) Ag)))
   (Ai (ss 5 KD.nd (Bj Zkw hr (Ac (pv 1) (Ac Ag Af))))
   (Ai (Bl (Ay (BL hr.units) (pv 3) Ag (Bd _))
   (Ai (ss 6 KD.nd (Aj Cv (Aj Eo (pv 1) Ag) (pv 4)))
   (Ai (ss 7 KD.nd (Aj BJ (CG HB YcK YcL ZAK (pv 2) (Ac (Bm Bo (pv 5) (pv 6) (fun _ _=>rfl)) Af)) (Aj GZ (Aj BJ Ag (Aj GZ Ag (Aj Cv (Aj Eo (pv 1) Ag) Ag))) (pv 0))))
   (Ah (Av (Aj BJ (Aj BJ (Iz IW (pv 5) JW (Ho (pv 6))) (Bm Bo (pv 2) (Aj Cv (pv 7) Ag) (fun _ _=>rfl))) (Iz IW (pv 5) (Ho (Aj BJ (pv 6) Ag)) (Ho (pv 4))))))))
   Bq)
   (Ai (Bl (Ay (BL hr.units) (pv 3) Ag (Bd _))
   (Ah (Av (Bj Zkw hr (Ac (Aj BJ (pv 1) (Aj GZ Ag (pv 0))) (Ac (Aj BJ Ag (Aj Cv (Aj BJ (pv 4) (Aj GZ Ag (pv 0))) Ag)) Af)))))
   Bq)
   (Ai (Bl (Ay (BL hr.units) (pv 3) Ag (Bd _))
   (Ah (Av (Iz IW (pv 5) JW (Ho (Aj BJ Ag (Aj Cv (Aj BJ (pv 4) (pv 0)) Ag))))))
   Bq)
   (Ai (Bl (Ay (BL hr.units) (Aj Cv (Aj Eo (pv 1) Ag) Ag) Ag (Bd _))
   (Ai (ss 2 KD.nd (Br (O1 (O1 (Ac Am (Ac Am Af))))))
   (Ah (Av (Bm Bo (pv 2) (Aj Cv (Aj BJ (pv 4) (pv 0)) Ag) (fun _ _=>rfl)))))
   Bq)
   (Ah (Av (Aj BJ (Bm Bo (Br (O1 (O1 Af))) (Aj Cv (Aj BJ (pv 4) (pv 0)) Ag) (fun _ _=>rfl)) (Bm Bo (pv 5) (pv 0) (fun _ _=>rfl))))))))))))),?_⟩
 walk_at "rd0";refine⟨c,8,rfl,by omega,fun w hw hw8=>?_⟩;walk_at "";obtain⟨sz,hsz,hs1,hs8⟩ : ∃sz:Nat,1+c / 4 % 8=(sz:Int)∧1≤sz∧sz≤8:=⟨(1+c / 4 % 8).toNat,by omega,by omega,by omega⟩;rw[hsz];refine Di (fun h0=>?_) (fun h0=>?_)
 ·walk_at ""
  obtain⟨pl,hpl,hps⟩ : ∃pl:Nat,c / 32 % (sz:Int)=(pl:Int)∧pl < sz:=by
   have v1:=Uk (c / 32) (show(sz:Int)≠0 by omega);have v2:=Ul (c / 32) (show(0:Int) < (sz:Int) by omega);exact⟨(c / 32 % (sz:Int)).toNat,by omega,by omega⟩
  rw[hpl];refine⟨tyS,?_⟩;walk_at "";obtain⟨d,hd⟩:=ZvK (z:=w) (k:=pl) (by omega);refine Ox (Ca (by omega)) (Lj hd) ?_;walk_at "";refine⟨_,_,rfl,rfl,?_⟩;walk_at "";refine Hj (.inl ⟨by decide,by decide⟩) ?_;walk_at "";refine Hj (.inr ⟨by omega,by omega⟩) ?_;walk_at "";refine W0 (by omega) ?_;walk_at ""
  have l1:(Txt.slice w none (some (pl:Int))).length=pl:=by
   clear hsz h0 hpl;rcases YcM w (pl:Int) with⟨a,b⟩ | ⟨a,b,c⟩ | ⟨a,b⟩ <;> omega
  refine ZJQ fun e he26=>?_;refine Ew (Ca (by show _+1≤_; omega)) ?_;walk_at "";refine W0 (by omega) ?_
  have l2:(Txt.slice w (some ((pl:Int)+1)) (some (sz:Int))).length=sz - (pl+1):=by
   clear hsz h0 hpl;show(Ya4 w (some ((pl:Int)+1)) (some (sz:Int))).length=_
   have hl0:w.cps.toList.length=w.length:=by simp[Cq]
   rw[StrLaws.sliceText_plain (by refine⟨?_,?_,?_⟩ <;> omega)];show((w.cps.toList.drop _).take _).toArray.size=_;rw[Du,Gu,JN];omega
  have l3:Cq ⟨#[97+e]⟩=1:=rfl;refine Ew (Ca (by rw[Ce]; omega)) ?_;refine q _ _ (Same.refl _) ⟨Te (Te (ZX hw _ _) (ZZ he26)) (ZX hw _ _),?_,?_⟩
  ·rw[Ce,Ce]; omega
  ·rw[Ce,Ce]; omega
 walk_at "";refine Di (fun h1=>?_) (fun h1=>?_)
 ·walk_at ""
  refine Hj (.inl ⟨by decide,by decide⟩) ?_;walk_at "";refine Hj (.inl ⟨by decide,by decide⟩) ?_;walk_at "";obtain⟨e,he,he1,he8⟩ : ∃e:Nat,1+((sz:Int)+3 * (k:Int)) % 8=(e:Int)∧1≤e∧e≤8:=⟨(1+((sz:Int)+3 * (k:Int)) % 8).toNat,by omega,by omega,by omega⟩;rw[he];refine⟨_,e,rfl,by omega,fun z hz hzl=>?_⟩;exact q _ _ (Same.refl _) ⟨hz,by omega,by omega⟩
 walk_at "";refine Di (fun h2=>?_) (fun h2=>?_)
 ·walk_at ""
  refine W0 (by omega) ?_;refine q _ _ (Same.refl _) ⟨ZX hw _ _,?_,?_⟩
  ·rcases YcM w (1+((sz:Int)+(k:Int)) % 8) with⟨a,b⟩ | ⟨a,b,c⟩ | ⟨a,b⟩ <;> omega
  ·have:=Txt.slice_le w none (some (1+((sz:Int)+(k:Int)) % 8))
   omega
 walk_at "";refine Di (fun h3=>?_) (fun h3=>?_)
 ·walk_at ""
  refine BR (by simp) fun l1 H1 s1 n1 e1=>?_;walk_at "";obtain⟨e,he,he10⟩ : ∃e:Nat,((sz:Int)+(k:Int)) % 10=(e:Int)∧e < 10:=⟨(((sz:Int)+(k:Int)) % 10).toNat,by omega,by omega⟩;rw[he];obtain⟨z,hz,ok⟩:=ZFT e he10;obtain⟨o1,o2,o3⟩:=ZED ok;exact By e1 (ZEx hz) (q _ _ s1 ⟨o1,o2,by omega⟩)
 ·walk_at ""
  refine BR (by simp) fun l1 H1 s1 n1 e1=>?_;walk_at "";obtain⟨e,he,he10⟩ : ∃e:Nat,((sz:Int)+(k:Int)) % 8=(e:Int)∧e < 8:=⟨(((sz:Int)+(k:Int)) % 8).toNat,by omega,by omega⟩;rw[he];obtain⟨z,hz,ok⟩:=ZFM e he10;obtain⟨o1,o2,o3⟩:=ZED ok;refine By e1 (ZEx hz) ?_;walk_at "";obtain⟨d,hd⟩:=ZvK (z:=w) (k:=k) (by omega);refine Ox (Ca (by omega)) (Lj hd) ?_;have hd2:=hw d (Dm hd);have l3:Cq ⟨#[d]⟩=1:=rfl;refine Ew (Ca (by omega)) ?_;refine q _ _ s1 ⟨Te o1 (fun x hx=>?_),by rw[Ce]; omega,by rw[Ce]; omega⟩;have hx:x∈[d]:=hx;rw[Ck.mp hx];exact hd2
unseal PE PA PS PSs
noncomputable def ZGM:Sp:=fun vs H Q _=>∃(z:Str) (l:Ab) (ns:List Str),vs=[.str z,.ref l]∧H l=some (.lst (ns.map V.str))∧ns.length≤5∧Nm8 z∧∀z' H',Same H H'→Nm8 z'→z'∉ns→z'∉FW→Q (.str z') H'
theorem ZCQ:FW.length=8:=rfl
theorem ZDa (T:Txt K mg t):FnS P w K mg base 1 "_law_fresh" ["_law_name_here","_law_names_here"] (ZGM):=by
 refine⟨_,_,T.Rr.ok ZiH (fun vs H Q E h=>?_) (fun cdv A outer s H vs Q E hr h=>?_),T.Znr,T.Rr.kp,T.ZnG⟩
 ·obtain⟨z,l,ns,rfl,hl,hn5,⟨hz,hz1,hz2⟩,q⟩:=h
  rfl
 obtain⟨z,l,ns,rfl,hl,hn5,⟨hz,hz1,hz2⟩,q⟩:=h;obtain⟨c,hc,ez⟩:=ZzN hz1 hz;generalize eu:Txt.slice z none (some (-1))=u at ez
 have hu:Lt u:=by rw[←eu]; exact ZX hz _ _
 have hul:u.length+1=z.length:=by rw[ez]; unfold rot; rw[Ce]; rfl
 have hrl:∀j,(rot u c j).length=u.length+1:=fun j=>by unfold rot; rw[Ce]; rfl
 refine⟨_,(Ai (ss 2 ZiH.nd Am)
   (Ai (lw Cz (PW.pt (Fp (Ay Jt (pv 0) (pv 1) (by with_unfolding_all rfl)) (Fy (Ay Jt (pv 0) (Eh (O1 (O1 Af))) (by with_unfolding_all rfl)))))
   (Ah (ss 0 ZiH.nd (Aj BJ (Iz IW (pv 0) JW (Ho (JT Lh Ag))) (Bm Bo (pv 2) (Aj Cv (Aj BJ (CG HB YcK YcL ZAK (pv 2) (Ac (Bm Bo (pv 0) (JT Lh Ag) (fun _ _=>rfl)) Af)) Ag) Ag) (fun _ _=>rfl))))))
   (Ah (Av (pv 0))))),?_⟩
 walk_at "rd0";refine⟨fun m σ H'=>∃j,m+j=14∧j≤13∧Same H H'∧(∀i,i < j→rot u c i∈ns++FW)∧σ=[some (.str (rot u c j)),some (.ref l),some (.str "abcdefghijklmnopqrstuvwxyz")],⟨14,0,rfl,by omega,Same.refl _,fun i hi=>absurd hi (by omega),by rw[←ez]⟩,?_⟩;rintro m σ H1 ⟨j,hm,hj,s1,hin,rfl⟩
 have go:rot u c j∈ns++FW→j+1≤13:=fun h=>by
  have:=ZBg (rot u c) (j+1) (ns++FW) (fun i hi=>by
   rcases(show i=j∨i < j by omega) with rfl | h'
   ·exact h
   ·exact hin i h') (fun i i' h1 h2=>ZI0 h1 (by omega))
  rw[CZ,ZCQ]at this;omega
 have step:∀(H2:Hp),Same H1 H2→rot u c j∈ns++FW→∃N:St→Hp→Prop,(∀σ' H',N σ' H'→∃m',m' < m∧∃j,m'+j=14∧j≤13∧Same H H'∧(∀i,i < j→rot u c i∈ns++FW)∧σ'=[some (.str (rot u c j)),some (.ref l),some (.str "abcdefghijklmnopqrstuvwxyz")])∧∀σ' H',σ'=[some (.str (rot u c (j+1))),some (.ref l),some (.str "abcdefghijklmnopqrstuvwxyz")]→Same H H'→N σ' H':=fun H2 s2 h=>by
  have:=go h;refine⟨fun σ' H'=>Same H H'∧σ'=[some (.str (rot u c (j+1))),some (.ref l),some (.str "abcdefghijklmnopqrstuvwxyz")],fun σ' H' ⟨a,b⟩=>⟨m - 1,by omega,j+1,by omega,this,a,fun i hi=>?_,b⟩,fun σ' H' a b=>⟨b,a⟩⟩
  rcases(show i=j∨i < j by omega) with rfl | h'
  ·exact h
  ·exact hin i h'
 have nxt:Txt.slice (rot u c j) none (some (-1))++(⟨#[97+(c+j+1) % 26]⟩ : Str)=rot u c (j+1):=by rw[ZBr]; rfl
 have h1:=hrl j;walk_at ""
 have bod:∀(H2:Hp) (N:St→Hp→Prop) (rt:VK) (bk:St→Hp→Prop),Same H1 H2→(∀σ' H',σ'=[some (.str (rot u c (j+1))),some (.ref l),some (.str "abcdefghijklmnopqrstuvwxyz")]→Same H H'→N σ' H')→tAsg (tOp Js (tSl (rSlA K) (tVar 0) nu (oh (tUn (rU fun i=>V.int (-i)) (tC (.int 1))))) (tOp (rIx K) (tVar 2) (tOp (rI (fun x j=>0 < j) fun i j=>V.int (i % j)) (tOp Js (tBM K "str" ZIR (tVar 2) (HH (tOp (rIx K) (tVar 0) (tUn (rU fun i=>V.int (-i)) (tC (.int 1)))) tNil)) (tC (.int 1))) (tC (.int 26))))) (Ir 0) { nx:=N,rt:=rt,bk:=bk,ct:=N } [some (.str (rot u c j)),some (.ref l),some (.str "abcdefghijklmnopqrstuvwxyz")] H2:=fun H2 N rt bk s2 n2=>by
  walk_at "";refine W0 (by omega) ?_;walk_at "";refine⟨tyS,?_⟩;walk_at "";refine Ox (Ca (by omega)) (ZDq u c j) ?_;walk_at "";refine⟨_,_,rfl,rfl,?_⟩;walk_at "";have e0:Txt.find "abcdefghijklmnopqrstuvwxyz" ⟨#[97+(c+j) % 26]⟩=(((c+j) % 26:Nat):Int):=ZCY _ (by omega);rw[e0]
  have e1:((((c+j) % 26:Nat):Int)+1) % 26=(((c+j+1) % 26:Nat):Int):=by omega
  rw[e1];refine Ox (by decide) (Lj (ZAz _ (by omega))) ?_;have l3:=Txt.slice_le (rot u c j) none (some (-1));refine Ew (Ca (by show _+1≤_; omega)) ?_;walk_at "";exact n2 _ _ (by rw[nxt]) (s1.trans s2)
 have memD:rot u c j∈ns++FW→Lt (rot u c j):=fun _=>Te hu (ZZ (by omega));walk_at "";refine Z1 (.inl (s1 _ _ hl)) ?_;walk_at "";refine Di (fun hA=>?_) (fun hA=>?_)
 ·obtain⟨N,n1,n2⟩:=step H1 (Same.refl _) (Yag _ hA)
  refine Cg rfl ⟨N,n1,?_⟩;exact bod H1 N _ _ (Same.refl _) n2
 ·walk_at ""
  refine Ey (by simp) fun l1 H2 s2 n2 e2=>?_;refine Z1 (ns:=FW) (.inr e2) ?_;walk_at "";refine Di (fun hB=>?_) (fun hB=>?_)
  ·obtain⟨N,n1,n2⟩:=step H2 s2 (Hu _ hB)
   refine⟨N,n1,?_⟩;exact bod H2 N _ _ s2 n2
  ·walk_at ""
   exact q _ _ (s1.trans s2) ⟨Te hu (ZZ (by omega)),by omega,by omega⟩ hA hB
noncomputable def ZGQ:Sp:=fun vs H Q _=>∃(m:Nat) (c:Int),vs=[.int (m:Int),.int c]∧m≤6∧∀(l:Ab) (ns:List Str) (H':Hp),Same H H'→H l=none→H' l=some (.lst (ns.map V.str))→ns.length=m→(∀z∈ns,Nm8 z∧z∉FW)→ns.Nodup→Q (.ref l) H'
theorem ZDb (T:Txt K mg t):FnS P w K mg base 5 "_law_names" ["_law_many","_law_cell"] (ZGQ):=by
 refine⟨_,_,T.Rv.ok ZiI (fun vs H Q E h=>?_) (fun cdv A outer s H vs Q E hr h=>?_),T.Zns,T.Rv.kp,T.ZnH⟩
 ·obtain⟨m,c,rfl,hm6,q⟩:=h
  rfl
 obtain⟨m,c,rfl,hm6,q⟩:=h;have Zvg:=ZGa (P:=P) (w:=w) (base:=base) T;have ZsY:=ZDa (P:=P) (w:=w) (base:=base) T
 refine⟨_,(Ai (ss 2 ZiI.nd (Br Af))
   (Ai (Dd Cz rfl (Hn rfl T.B.range (Ac (pv 0) Af)) (sg 3 ZiI.nd)
   (Ah (Dc (CG Ds Eg Em Ea (pv 2) (Ac (Bj ZsY hr (Ac (Bj Zvg hr (Ac (pv 3) (Ac (pv 1) Af))) (Ac (pv 2) Af))) Af)))))
   (Ah (Av (pv 2))))),?_⟩
 walk_at "rd0";refine BR (by simp) fun l H1 s1 n1 e1=>?_;walk_at "";refine⟨_,rfl,by omega,by omega,?_⟩;rw[show((m:Int)).toNat=m by omega];refine Kw (n:=m) (fun i σ H'=>∃(ns:List Str) (v:Option V),Same H H'∧H' l=some (.lst (ns.map V.str))∧ns.length=i∧(∀z∈ns,Nm8 z∧z∉FW)∧ns.Nodup∧σ=[some (.int (m:Int)),some (.int c),some (.ref l),v]) ⟨[],_,s1,e1,rfl,(fun z hz=>by cases hz),Wm,rfl⟩ ?_ ?_
 ·rintro i σ H2 hi ⟨ns,v,s2,e2,hl2,hn2,hd2,rfl⟩
  walk_at "";refine⟨tyL e2,?_⟩;walk_at "";refine⟨i,c,rfl,by omega,fun z H3 s3 hz=>?_⟩;walk_at "";refine⟨z,l,ns,rfl,s3 _ _ e2,by omega,hz,fun z' H4 s4 hz4 hn4 hk4=>?_⟩;walk_at "";refine Eu (s4 _ _ (s3 _ _ e2)) (by rw[Ax]; omega) fun H5 b5 e5=>?_;walk_at "";refine⟨ns++[z'],_,b5.same n1 (s2.trans (s3.trans s4)),by rw[e5,Cp]; rfl,by rw[CZ]; simp[hl2],fun y hy=>?_,?_,rfl⟩
  ·rcases Er.mp hy with h | h
   ·exact hn2 y h
   ·rw[Ck.mp h]; exact⟨hz4,hk4⟩
  ·rw[Uj]
   refine⟨hd2,by simp,fun a ha b hb e=>?_⟩;rw[Ck.mp hb]at e;rw[e]at ha;exact hn4 ha
 ·rintro σ H2 ⟨ns,v,s2,e2,hl2,hn2,hd2,rfl⟩
  walk_at "";exact q l ns H2 s2 n1 e2 hl2 hn2 hd2
end
theorem NT {ns:List Str} {k:Nat} (h:k < ns.length):ns[k]?=some (ns.getD k BK):=by
 rw[Gd,Dr h];rfl
theorem ZJ1 {z:Str} (h:Nm8 z) (hk:z∉FW):z∉(["yes","no","not","(",")"]:List Str):=by
 unfold FW at hk;simp only [Bu,Fl,or_false,not_or]at hk ⊢;refine⟨hk.2.2.2.2.1,hk.2.2.2.2.2.1,hk.2.2.1,?_,?_⟩
 ·rintro rfl
  have:=h.1 40 (by decide);omega
 ·rintro rfl
  have:=h.1 41 (by decide);omega
theorem ZIn {zs:List Str} (h:∀z∈zs,Nm8 z∧z∉FW) (nd:zs.Nodup):NmsOk zs zs id zs.length:=
 ⟨fun k hk=>Vw nd (NT hk),fun k hk=>by
  have:=h _ (Dm (NT hk))
  exact ZJ1 this.1 this.2⟩
theorem ZAP {z:Str} (h:Nm8 z):NmL z∧z.length≤8:=⟨⟨fun e=>by
 have a:=h.2.1
 have b:z.cps.toList.length=z.length:=by simp[Cq]
 rw[e]at b;simp at b
 omega,h.1⟩,h.2.2⟩
theorem ZF1 {zs:List Str} (h:∀z∈zs,Nm8 z) {k:Nat} (hk:k < zs.length):NmL (zs.getD k BK)∧(zs.getD k BK).length≤8:=ZAP (h _ (Dm (NT hk)))
theorem ZHg {x:Str} (h:∀d∈x.cps.toList,al d=true):Asc x:=fun c hc=>by
 have:=h c hc;unfold al isL isM at this;simp only [Uh,Fi,decide_eq_true_iff,beq_iff_eq]at this;omega
section
variable {P:Bp} {w:Bg} {K:Ao} {mg:Str→Option Ae} {base:Aq} {t:Ad} {n:Nat}
end
theorem ZrY {Pz:Str→Prop} {k:Str} (hk:Pz k):∀{ps:List (List Str)},(∀p∈ps,∀z∈p,Pz z)→∀z∈jnW k ps,Pz z
 | [],_,z,h=>by cases h
 | [p],hp,z,h=>hp p Dg z h
 | p::q::r,hp,z,h=>by
  have h:z∈p++k::jnW k (q::r):=h
  rcases Er.mp h with h | h
  ·exact hp p Dg z h
  ·rcases Bu.mp h with rfl | h
   ·exact hk
   ·exact ZrY hk (fun x hx=>hp x (CW _ hx)) z h
theorem ZrZ (k:Str) {B:Nat}:∀{ps:List (List Str)},(∀p∈ps,p.length≤B)→(jnW k ps).length≤(B+1) * ps.length
 | [],_=>De _
 | [p],h=>by have:=h p Dg; show p.length≤_; simp only [Gv]; omega
 | p::q::r,h=>by
  have a:=h p Dg;have b:=ZrZ k (ps:=q::r) fun x hx=>h x (CW _ hx);show(p++k::jnW k (q::r)).length≤_;rw[CZ,CT,CT (a:=p),Yba];omega
theorem ZpB {α β γ:Type} {R:β→γ→Prop} {f:α→β} {g:α→γ}:∀{as:List α},(∀a∈as,R (f a) (g a))→Bs R (as.map f) (as.map g)
 | [],_=>.nil
 | a::as,h=>.cons (h a Dg) (ZpB fun x hx=>h x (CW _ hx))
structure NmA (ns:List Str):Prop where
 nm:∀z∈ns,Nm8 z∧z∉FW
 nd:ns.Nodup
 n1:1≤ns.length
 n6:ns.length≤6
theorem NmA.lm {ns:List Str} (A:NmA ns):LmpW ns:=by
 refine⟨A.n1,A.n6,fun z hz=>⟨?_,(A.nm z hz).1.2.2⟩,A.nd⟩;obtain⟨a,b⟩:=A.nm z hz
 obtain⟨x1,x2,x3⟩ : z≠"("∧z≠")"∧z≠",":=by
  refine⟨?_,?_,?_⟩
  ·rintro rfl; have:=a.1 40 (by decide); omega
  ·rintro rfl; have:=a.1 41 (by decide); omega
  ·rintro rfl; have:=a.1 44 (by decide); omega
 unfold noNm;unfold FW at b;simp only [Bu,Fl,or_false,not_or]at b ⊢;exact⟨b.1,b.2.1,b.2.2.1,b.2.2.2.1,b.2.2.2.2.1,b.2.2.2.2.2.1,b.2.2.2.2.2.2.1,b.2.2.2.2.2.2.2,x1,x2,x3⟩
theorem NmA.wd {ns:List Str} (A:NmA ns):∀z∈ns,WdS z:=fun z hz=>⟨Wd.let (ZAP (A.nm z hz).1).1,(ZAP (A.nm z hz).1).2⟩
theorem NmA.get {ns:List Str} (A:NmA ns) {k:Nat} (hk:k < ns.length):ns.getD k BK∈ns:=Dm (NT hk)
inductive EnT
 | st (g:Tr)
 | bd (g:Tr)
 | mv (v:Tr×List (Nat×Tr))
structure OkM17 (m:Nat) (v:Tr×List (Nat×Tr)):Prop where
 gd:okT m v.1=true∧nT v.1≤51
 cs:∀c∈v.2,(okT m c.2=true∧nT c.2≤51)∧c.1 < m
 nd:(v.2.map Ge).Nodup
 l1:1≤v.2.length
 l6:v.2.length≤6
noncomputable def fm17 (v:Tr×List (Nat×Tr)):Fm×List (Nat×Fm):=(fmT id v.1,v.2.map fun c=>(c.1,fmT id c.2))
noncomputable def pc17 (ns:List Str) (c:Nat×Tr):List Str:=ns.getD c.1 BK::("is" : Str)::wdG true ns c.2
noncomputable def enW (ns:List Str):EnT→List Str
 | .st g=>"start"::wdG true ns g
 | .bd g=>"bad"::wdG true ns g
 | .mv v=>"move"::(wdG true ns v.1++("then" : Str)::jnW "," (v.2.map (pc17 ns)))
theorem Zxg (k:Str):∀(ps:List (List Str)) (p:List Str),jnW k (ps++[p])=if ps=[] then p else jnW k ps++k::p
 | [],p=>rfl
 | [q],p=>rfl
 | q::r::ps,p=>by
  have ih:=Zxg k (r::ps) p;rw[if_neg (by simp)]at ih ⊢;show q++k::jnW k (r::ps++[p])=(q++k::jnW k (r::ps))++k::p;rw[ih];simp
noncomputable def OkE (m:Nat):EnT→Prop
 | .st g=>okT m g=true∧nT g≤51
 | .bd g=>okT m g=true∧nT g≤51
 | .mv v=>OkM17 m v
theorem bu {ns:List Str} (A:NmA ns) {tr:Tr} (h:okT ns.length tr=true):∀z∈wdG true ns tr,WdX z:=fun z hz=>
 (Tu Vt (m:=ns.length) (fun k hk=>A.wd _ (A.get hk)) tr h z hz).x
def ZG9 (z:Str):Prop:=WdS z∧z≠"then"∧z≠","
theorem Vy {ns:List Str} (A:NmA ns) {tr:Tr} (h:okT ns.length tr=true):∀z∈wdG true ns tr,ZG9 z:=by
 refine Tu (fun z hz=>?_) (m:=ns.length) (fun k hk=>?_) tr h
 ·refine⟨Vt z hz,?_,?_⟩
  ·rintro rfl; exact absurd hz (by decide)
  ·rintro rfl; exact absurd hz (by decide)
 ·have hm:=A.get hk
  refine⟨A.wd _ hm,fun e=>(A.nm _ hm).2 (by rw[e]; decide),fun e=>?_⟩;have:=(A.nm _ hm).1.1 44 (by rw[e]; decide);omega
theorem rd17 {ns:List Str} (A:NmA ns) {tr:Tr} (h:okT ns.length tr=true):Hk ns (wdG true ns tr)=some (fmT id tr):=ZBq (ZIn A.nm A.nd) h
theorem wl17 {ns:List Str} {tr:Tr} (h:nT tr≤51):(wdG true ns tr).length≤201:=by
 have:=K3 true ns tr;omega
theorem mv17 {ns:List Str} (A:NmA ns) {v:Tr×List (Nat×Tr)} (o:OkM17 ns.length v):MvRd ns (wdG true ns v.1) (jnW "," (v.2.map (pc17 ns))) (fm17 v):=by
 have hc:v.2.map (pc17 ns)≠[]:=fun e=>by have:=o.l1; rw[List.map_eq_nil_iff]at e; rw[e]at this; simp at this
 have pw:∀p∈v.2.map (pc17 ns),∀z∈p,ZG9 z∨z = "is":=fun p hp z hz=>by
  obtain⟨c,hc',rfl⟩:=Fx.mp hp;obtain⟨oc,hk⟩:=o.cs c hc';have hm:=A.get hk;have hz:z∈ns.getD c.1 BK::("is" : Str)::wdG true ns c.2:=hz
  rcases Bu.mp hz with rfl | hz
  ·refine .inl ⟨A.wd _ hm,fun e=>(A.nm _ hm).2 (by rw[e]; decide),fun e=>?_⟩
   have:=(A.nm _ hm).1.1 44 (by rw[e]; decide);omega
  rcases Bu.mp hz with rfl | hz
  ·exact .inr rfl
  ·exact .inl (Vy A oc.1 z hz)
 have ep:En (jnW "," (v.2.map (pc17 ns)))=v.2.map (pc17 ns):=ZyZ hc fun p hp hm=>by
  rcases pw p hp _ hm with h | h
  ·exact h.2.2 rfl
  ·exact absurd h (by decide)
 have hl6:=o.l6
 have pl:∀p∈v.2.map (pc17 ns),p.length≤203:=fun p hp=>by
  obtain⟨c,hc',rfl⟩:=Fx.mp hp;have:=wl17 (ns:=ns) (o.cs c hc').1.2;show(wdG true ns c.2).length+2≤_;omega
 have pp:∀p∈En (jnW "," (v.2.map (pc17 ns))),∀z∈p,JB z:=fun p hp z hz=>by
  rw[ep]at hp
  rcases pw p hp z hz with h | rfl
  ·exact TQ h.1
  ·exact TQ ⟨.inr (.inr ⟨by decide,by decide⟩),by decide⟩
 refine⟨⟨?_,?_,?_,?_⟩,rd17 A o.gd.1,?_,?_,fun z hz=>TQ (Vy A o.gd.1 z hz).1,pp⟩
 ·intro h
  rcases Bu.mp h with h | h
  ·exact absurd h (by decide)
  ·exact(Vy A o.gd.1 _ h).2.1 rfl
 ·intro h
  have:=ZrY (Pz:=fun z=>z≠"then") (k:=",") (by decide) (ps:=v.2.map (pc17 ns)) (fun p hp z hz=>by
   rcases pw p hp z hz with h | rfl
   ·exact h.2.1
   ·decide) _ h
  exact this rfl
 ·have a:=wl17 (ns:=ns) o.gd.2
  have b:=ZrZ "," pl;rw[Ax]at b;have c:(203+1) * v.2.length≤204 * 6:=Wo _ hl6;simp only [CT];omega
 ·intro p hp
  rw[ep]at hp;obtain⟨c,hc',rfl⟩:=Fx.mp hp;exact⟨by show 2≤(wdG true ns c.2).length+2; omega,rfl⟩
 ·rw[ep]
  exact ZpB fun c hc'=>⟨_,_,rfl,Vw A.nd (NT (o.cs c hc').2),rd17 A (o.cs c hc').1.1⟩
 ·show((v.2.map fun c=>(c.1,fmT id c.2)).map Ge).Nodup
  rw[K9];exact o.nd
noncomputable def entF:EnT→Ent
 | .st g=>.st (fmT id g)
 | .bd g=>.bd (fmT id g)
 | .mv v=>.mv (fm17 v)
theorem ZJP {ns:List Str} (A:NmA ns) {e:EnT} (ok:OkE ns.length e):EntW ns (enW ns e) (entF e):=by
 cases e with
 | st g=>exact .st (rd17 A ok.1) (fun z hz=>TQ (Vy A ok.1 z hz).1) (by have:=wl17 (ns:=ns) ok.2; omega)
 | bd g=>exact .bd (rd17 A ok.1) (fun z hz=>TQ (Vy A ok.1 z hz).1) (by have:=wl17 (ns:=ns) ok.2; omega)
 | mv v=>exact .mv (mv17 A ok)
mutual
theorem FmE.tr {t:Ad} {H:Hp} {π:Nat→Nat}:∀(tr:Tr) (D:Nat) (p:Ab),nT tr≤D→FmE t H p (fmT π tr)→FmAt t H D p (fmT π tr)
 | .lamp k,0,p,h,_=>absurd h (by simp[nT])
 | .lamp k,D+1,p,_,⟨n,h⟩=>by
  cases n with
  | zero=>exact absurd h id
  | succ n=>exact h
 | .sure c,0,p,h,_=>absurd h (by simp[nT])
 | .sure c,D+1,p,_,⟨n,h⟩=>by
  cases n with
  | zero=>exact absurd h id
  | succ n=>exact h
 | .neg g,0,p,h,_=>absurd h (by simp[nT])
 | .neg g,D+1,p,hD,⟨n,h⟩=>by
  cases n with
  | zero=>exact absurd h id
  | succ n=>
   have hn:nT (.neg g)=1+nT g:=rfl;obtain⟨dx,q,e,hq⟩:=h;exact⟨dx,q,e,FmE.tr g D q (by omega) ⟨n,hq⟩⟩
 | .wrap g,D,p,hD,h=>by
  have hn:nT (.wrap g)=1+nT g:=rfl;exact FmE.tr g D p (by omega) h
 | .join v gs,0,p,h,_=>absurd h (by simp[nT])
 | .join v gs,D+1,p,hD,⟨n,h⟩=>by
  cases n with
  | zero=>exact absurd h id
  | succ n=>
   have hn:nT (.join v gs)=1+nTL gs:=rfl;obtain⟨dx,tp,ps,e,e2,hq⟩:=h;exact⟨dx,tp,ps,e,e2,FmE.trL gs D ps (by omega) (BV (fun a b h=>⟨n,h⟩) hq)⟩
theorem FmE.trL {t:Ad} {H:Hp} {π:Nat→Nat}:∀(gs:List Tr) (D:Nat) (ps:List Ab),nTL gs≤D→Bs (FmE t H) ps (fmTL π gs)→Bs (FmAt t H D) ps (fmTL π gs)
 | [],D,_,_,.nil=>.nil
 | g::gs,D,_,hD,.cons h r=>by
  have hn:nTL (g::gs)=nT g+nTL gs:=by simp[nTL]
  exact .cons (FmE.tr g D _ (by omega) h) (FmE.trL gs D _ (by omega) r)
end
noncomputable def nwK:Nat→Str
 | 0=>"not"
 | _=>"wrap"
noncomputable def nwT:Nat→Tr→Tr
 | 0,t=>.neg t
 | _,t=>.wrap t
theorem ZEC {j:Nat} (h:j < 2):([.str "not",.str "wrap"]:List V)[j]?=some (.str (nwK j)):=by
 match j,h with
 | 0,_=>rfl
 | 1,_=>rfl
theorem ZEA {S:Ab→Prop} {H:Hp} {n j:Nat} {p l q:Ab} {tr:Tr} (hj:j < 2) (e:H p=some (.tup [.str (nwK j),.ref l])) (sl:S l) (e2:H l=some (.lst [.ref q])) (h:TwAt S H n q tr):TwAt S H (n+1) p (nwT j tr):=by
 match j,hj with
 | 0,_=>exact⟨l,q,e,sl,e2,h⟩
 | 1,_=>exact⟨l,q,e,sl,e2,h⟩
theorem ZEB (m j:Nat) (tr:Tr):okT m (nwT j tr)=okT m tr:=by
 cases j <;> rfl
theorem ZIp (j:Nat) (tr:Tr):nT (nwT j tr)=1+nT tr:=by
 cases j <;> rfl
noncomputable def o3of (i:Nat):W3:=if i=1 then .e else if i=2 then .a else .o
theorem ZIq {i:Nat} (h:i < 4):([.str "or",.str "either",.str "and",.str "or"]:List V)[i]?=some (.str (kw3 (o3of i))):=by
 match i,h with
 | 0,_=>rfl
 | 1,_=>rfl
 | 2,_=>rfl
 | 3,_=>rfl
noncomputable def depB:Nat→Nat
 | 0=>1
 | n+1=>1+3 * depB n
seal PE PA PS PSs
section
variable {P:Bp} {w:Bg} {K:Ao} {mg:Str→Option Ae} {base:Aq} {t:Ad} {n:Nat}
noncomputable def ZGN (n:Nat):Sp:=fun vs H Q _=>∃(c:Int) (m:Nat),vs=[.int c,.int (m:Int),.int (n:Int)]∧1≤m∧m≤6∧∀p tr H',Same H H'→TwAt (fun l=>H l=none) H' (n+1) p tr→okT m tr=true→nT tr≤depB n→Q (.ref p) H'
theorem Zzg (T:Txt K mg t):∀n:Nat,FnS P w K mg base (n+1) "_law_grown" ["_law_cell","_law_many","_law_deep"] (ZGN n):=by
 intro n
 induction n with
 | zero=>
  refine⟨_,_,T.J2.ok HN (fun vs H Q E h=>?_) (fun cdv A outer s H vs Q E hr h=>?_),T.ZF,T.J2.kp,T.ZG⟩
  ·obtain⟨c,m,rfl,_⟩:=h
   rfl
  obtain⟨c,m,rfl,h1,h6,q⟩:=h;have JF:FnS P w K mg base 0 "_law_grown" ["_law_cell","_law_many","_law_deep"] (fun _ _ _ _=>False):=⟨_,_,⟨fun vs H Q E h=>h.elim,fun A outer s H args us vs Q E _ _ _ _ h=>h.elim⟩,T.ZF,T.J2.kp,T.ZG⟩
  refine⟨_,(Ai (ss 3 HN.nd (Aj Cv (pv 0) Ag))
   (Ai (ss 4 HN.nd (Aj Eo (pv 0) Ag))
   (Ai (Bl (PW.pt (Fp (Ay (BL hr.units) (pv 2) Ag (Bd _)) (Fy (Ay Jo (pv 3) Ag (Bd _)))))
   (Ah (Av (Eh (Ac Am (Ac (Aj Cv (pv 4) (pv 1)) Af)))))
   Bq)
   (Ai (Bl (Ay (BL hr.units) (pv 3) Ag (Bd _))
   (Ah (Av (Eh (Ac Am (Ac (Jp (BL hr.units) (Aj Cv (pv 4) Ag) Ag (Bd _)) Af)))))
   Bq)
   (Ai (Bl (PW.pt (Fp (Ay (BL hr.units) (pv 3) Ag (Bd _)) (Fy (Ay (BL hr.units) (pv 3) Ag (Bd _)))))
   (Ah (Av (Eh (Ac (Bm Bo (Br (Ac Am (Ac Am Af))) (Aj Fq (pv 3) Ag) (fun _ _=>rfl)) (Ac (Br (Ac (Bj JF hr (Ac (pv 4) (Ac (pv 1) (Ac (Aj Fq (pv 2) Ag) Af)))) Af)) Af)))))
   Bq)
   (Ai (ss 5 HN.nd (Br Af))
   (Ai (Dd Cz rfl (Hn rfl T.B.range (Ac (Aj BJ Ag (Aj Eo (Aj Cv (pv 4) Ag) Ag)) Af)) (sg 6 HN.nd)
   (Ai (Dc (CG Ds Eg Em Ea (pv 5) (Ac (Bj JF hr (Ac (Aj BJ (Aj Cv (Aj Eo (pv 4) Ag) Ag) (Aj GZ Ag (pv 6))) (Ac (pv 1) (Ac (Aj Fq (pv 2) Ag) Af)))) Af)))
   (Ah (ss 4 HN.nd (Aj Eo (pv 4) Ag)))))
   (Ah (Av (Eh (Ac (Bm Bo (Br (Ac Am (Ac Am (Ac Am (Ac Am Af))))) (Aj Fq (pv 3) Ag) (fun _ _=>rfl)) (Ac (pv 5) Af)))))))))))),?_⟩
  obtain⟨k,hk,hkm⟩ : ∃k:Nat,(c / 10) % (m:Int)=(k:Int)∧k < m:=by
   have v1:=Uk (c / 10) (show(m:Int)≠0 by omega);have v2:=Ul (c / 10) (show(0:Int) < (m:Int) by omega);exact⟨(c / 10 % (m:Int)).toNat,by omega,by omega⟩
  walk_at "rd0";refine Cg (by decide) ?_;walk_at "";refine Cg rfl ?_;walk_at "";rw[hk];refine Ey (by simp) fun p H1 s1 n1 e2=>?_;exact q p (.lamp k) H1 s1 e2 (decide_eq_true hkm) (Bv _)
 | succ n ih=>
  have JF:=ih;refine⟨_,_,T.J2.ok HN (fun vs H Q E h=>?_) (fun cdv A outer s H vs Q E hr h=>?_),T.ZF,T.J2.kp,T.ZG⟩
  ·obtain⟨c,m,rfl,_⟩:=h
   rfl
  obtain⟨c,m,rfl,h1,h6,q⟩:=h
  refine⟨_,(Ai (ss 3 HN.nd (Aj Cv (pv 0) Ag))
   (Ai (ss 4 HN.nd (Aj Eo (pv 0) Ag))
   (Ai (Bl (PW.pt (Fp (Ay (BL hr.units) (pv 2) Ag (Bd _)) (Fy (Ay Jo (pv 3) Ag (Bd _)))))
   (Ah (Av (Eh (Ac Am (Ac (Aj Cv (pv 4) (pv 1)) Af)))))
   Bq)
   (Ai (Bl (Ay (BL hr.units) (pv 3) Ag (Bd _))
   (Ah (Av (Eh (Ac Am (Ac (Jp (BL hr.units) (Aj Cv (pv 4) Ag) Ag (Bd _)) Af)))))
   Bq)
   (Ai (Bl (PW.pt (Fp (Ay (BL hr.units) (pv 3) Ag (Bd _)) (Fy (Ay (BL hr.units) (pv 3) Ag (Bd _)))))
   (Ah (Av (Eh (Ac (Bm Bo (Br (Ac Am (Ac Am Af))) (Aj Fq (pv 3) Ag) (fun _ _=>rfl)) (Ac (Br (Ac (Bj JF hr (Ac (pv 4) (Ac (pv 1) (Ac (Aj Fq (pv 2) Ag) Af)))) Af)) Af)))))
   Bq)
   (Ai (ss 5 HN.nd (Br Af))
   (Ai (Dd Cz rfl (Hn rfl T.B.range (Ac (Aj BJ Ag (Aj Eo (Aj Cv (pv 4) Ag) Ag)) Af)) (sg 6 HN.nd)
   (Ai (Dc (CG Ds Eg Em Ea (pv 5) (Ac (Bj JF hr (Ac (Aj BJ (Aj Cv (Aj Eo (pv 4) Ag) Ag) (Aj GZ Ag (pv 6))) (Ac (pv 1) (Ac (Aj Fq (pv 2) Ag) Af)))) Af)))
   (Ah (ss 4 HN.nd (Aj Eo (pv 4) Ag)))))
   (Ah (Av (Eh (Ac (Bm Bo (Br (Ac Am (Ac Am (Ac Am (Ac Am Af))))) (Aj Fq (pv 3) Ag) (fun _ _=>rfl)) (Ac (pv 5) Af)))))))))))),?_⟩
  have md:∀z:Int,∃k:Nat,z % (m:Int)=(k:Int)∧k < m:=fun z=>by
   have v1:=Uk z (show(m:Int)≠0 by omega);have v2:=Ul z (show(0:Int) < (m:Int) by omega);exact⟨(z % (m:Int)).toNat,by omega,by omega⟩
  have c0:=Uk c (show(10:Int)≠0 by decide);have c9:=Ul c (show(0:Int) < 10 by decide);obtain⟨k,hk,hkm⟩:=md (c / 10)
  have e1:((n+1:Nat):Int) - 1=(n:Int):=by omega
  walk_at "rd0";generalize c % 10=kd at c0 c9 ⊢;generalize c / 10=mo at hk ⊢;walk_at "";refine Ba (decide_eq_false (by omega)) ?_;walk_at "";refine Di (fun h3=>?_) (fun h3=>?_)
  ·walk_at ""
   rw[hk];refine Ey (by simp) fun p H1 s1 n1 e2=>?_;exact q p (.lamp k) H1 s1 e2 (decide_eq_true hkm) (by show 1≤1+_; omega)
  walk_at "";refine Di (fun h4=>?_) (fun h4=>?_)
  ·walk_at ""
   refine Ey (by simp) fun p H1 s1 n1 e2=>?_;exact q p (.sure (decide (mo % 2=0))) H1 s1 e2 rfl (by show 1≤1+_; omega)
  walk_at ""
  by_cases h5:kd=4∨kd=5
  ·obtain⟨j,hj,hj2⟩ : ∃j:Nat,kd - 4=(j:Int)∧j < 2:=⟨(kd - 4).toNat,by omega,by omega⟩
   refine(fun(key : ?G5)=>?main5) ?key5
   case main5=>
    rcases h5 with h5 | h5
    ·refine Cg (decide_eq_true h5) ?_
     refine Cg rfl ?_;exact key
    ·refine Ba (decide_eq_false (by omega)) ?_
     walk_at "";refine Cg (decide_eq_true h5) ?_;exact key
   walk_at "";refine BR (by simp) fun l0 H0 s0 n0 e0=>?_;walk_at "";rw[hj];refine By (j:=j) (v:=.str (nwK j)) e0 (ZEC hj2) ?_;walk_at "";refine⟨mo,m,by rw[e1],h1,h6,fun q1 tr H1 s1 t1 ok1 nt1=>?_⟩;walk_at "";refine BR (by simp) fun l H2 s2 n2 e2=>?_;walk_at "";refine Ey (by simp) fun p H3 s3 n3 e3=>?_;have t3:TwAt (fun l=>H l=none) H3 (n+1) q1 tr:=(t1.same (s2.trans s3)).imp (fun _ _ e=>e) fun _ _ z e=>⟨s0.free z,e⟩;exact q p (nwT j tr) H3 (s0.trans (s1.trans (s2.trans s3))) (ZEA hj2 e3 ((s0.trans s1).free n2) (s3 _ _ e2) t3) (by rw[ZEB]; exact ok1) (by rw[ZIp]; show 1+nT tr≤1+3 * depB n; omega)
  refine Ba (decide_eq_false (by omega)) ?_;walk_at "";refine Ba (decide_eq_false (by omega)) ?_;obtain⟨j,hj,hj3⟩ : ∃j:Nat,kd - 6=(j:Int)∧j < 4:=⟨(kd - 6).toNat,by omega,by omega⟩;obtain⟨z,hz,hz2⟩ : ∃z:Nat,2+mo % 5 / 3=(z:Int)∧2≤z∧z≤3:=⟨(2+mo % 5 / 3).toNat,by omega,by omega,by omega⟩;walk_at "";refine BR (by simp) fun pl H1 s1 n1 e2=>?_;walk_at "";rw[hz];refine⟨_,rfl,by omega,by omega,?_⟩;rw[show((z:Int)).toNat=z by omega];refine Kw (n:=z) (fun i σ H'=>∃(ps:List Ab) (gs:List Tr) (r:Int) (v7:Option V),Same H H'∧H' pl=some (.lst (ps.map V.ref))∧ps.length=i∧Bs (TwAt (fun l=>H l=none∧l≠pl) H' (n+1)) ps gs∧(∀g∈gs,okT m g=true)∧nTL gs≤i * depB n∧σ=[some (.int c),some (.int (m:Int)),some (.int ((n+1:Nat):Int)),some (.int kd),some (.int r),some (.ref pl),v7]) ⟨[],[],_,_,s1,e2,rfl,.nil,(fun g hg=>by cases hg),De _,rfl⟩ ?_ ?_
  ·rintro i σ H2 hi ⟨ps,gs,r,v7,s2,e3,hpl,pp,okg,ntg,rfl⟩
   walk_at "";refine⟨tyL e3,?_⟩;walk_at "";refine Hj (.inl ⟨by decide,by decide⟩) ?_;walk_at "";refine⟨_,m,by rw[e1],h1,h6,fun q1 tr H3 s3 t3 ok3 nt3=>?_⟩;walk_at "";refine Eu (s3 _ _ e3) (by rw[Ax]; omega) fun H4 b4 e4=>?_;walk_at "";have e33:=s3 _ _ e3
   have npl:H3 pl≠none:=fun z=>by rw[z]at e33; cases e33
   refine⟨ps++[q1],gs++[tr],_,_,b4.same n1 (s2.trans s3),by rw[e4,Cp]; rfl,by rw[CZ,hpl]; rfl,?_,?_,?_,rfl⟩
   ·refine Ie (BV (fun _ _ h=>h.imp (fun p xs e=>b4 _ _ (Ci (s3 _ _ e) e33 (by intro z; cases z)) (s3 _ _ e)) (fun l xs sl e=>⟨sl,b4 _ _ sl.2 (s3 _ _ e)⟩)) pp) (.cons (t3.imp (fun p xs e=>b4 _ _ (Ci e e33 (by intro z; cases z)) e) (fun l xs sl e=>⟨⟨s2.free sl,fun z=>by rw[z,e3]at sl; cases sl⟩,b4 _ _ (fun z=>by rw[z,e3]at sl; cases sl) e⟩)) .nil)
   ·intro g hg
    rcases Er.mp hg with hg | hg
    ·exact okg g hg
    ·rw[Ck.mp hg]; exact ok3
   ·rw[Zm0,aj,YcN]; omega
  ·rintro σ H2 ⟨ps,gs,r,v7,s2,e3,hpl,pp,okg,ntg,rfl⟩
   walk_at "";refine BR (by simp) fun l3 H3 s3 n3 e4=>?_;walk_at "";rw[hj];refine By e4 (ZIq hj3) ?_;walk_at "";refine Ey (by simp) fun p H4 s4 n4 e5=>?_;have hgl:=Dj pp;refine q p (.join (o3of j) gs) H4 (s2.trans (s3.trans s4)) ⟨pl,ps,e5,n1,(s3.trans s4) _ _ e3,BV (fun _ _ h=>(h.same (s3.trans s4)).imp (fun _ _ e=>e) fun _ _ z e=>⟨z.1,e⟩) pp⟩ ?_ ?_
   ·simp only [okT,Fi,decide_eq_true_iff]
    refine⟨by omega,?_⟩;rw[ak,GK];exact fun g hg=>okg g hg
   ·show 1+nTL gs≤1+3 * depB n
    have:z * depB n≤3 * depB n:=Ybd _ hz2.2;omega
end
unseal PE PA PS PSs
seal PE PA PS PSs
section
variable {P:Bp} {w:Bg} {K:Ao} {mg:Str→Option Ae} {base:Aq} {t:Ad} {n:Nat}
noncomputable def ZGL:Sp:=fun vs H Q _=>∃(bag:Ab) (c:Int) (k:Nat),vs=[.ref bag,.int (k:Int)]∧H bag=some (.lst [.int c])∧0 < k∧k≤1000∧∀(d:Nat) (c':Int) (H':Hp),But bag H H'→H' bag=some (.lst [.int c'])→d < k→Q (.int (d:Int)) H'
theorem Zxv (T:Txt K mg t):FnS P w K mg base 1 "_law_digit" ["_law_bag","_law_many"] (ZGL):=by
 refine⟨_,_,T.Rx.ok Zmp (fun vs H Q E h=>?_) (fun cdv A outer s H vs Q E hr h=>?_),T.Znq,T.Rx.kp,T.ZnF⟩
 ·obtain⟨bag,c,k,rfl,hb,hk0,hk1,q⟩:=h
  rfl
 obtain⟨bag,c,k,rfl,hb,hk0,hk1,q⟩:=h
 obtain⟨d,hd,hdk⟩ : ∃d:Nat,c % (k:Int)=(d:Int)∧d < k:=by
  have a:=Uk c (show(k:Int)≠0 by omega);have b:=Ul c (show(0:Int) < (k:Int) by omega);exact⟨(c % (k:Int)).toNat,by omega,by omega⟩
 refine⟨_,(Ai (ss 2 Zmp.nd (Aj Cv (Bm Bo (pv 0) Ag (fun _ _=>rfl)) (pv 1)))
   (Ai (Kr (Aj Eo (Bm Bo (pv 0) Ag (fun _ _=>rfl)) (pv 1)) (lr (pv 0) Ag o5))
   (Ah (Av (pv 2))))),?_⟩
 walk_at "rd0";refine By (j:=0) hb (v:=.int c) rfl ?_;walk_at "";rw[hd];refine By (j:=0) hb (v:=.int c) rfl ?_;walk_at "";refine t7 (j:=0) hb (by simp) fun H' b e=>?_;walk_at "";exact q d _ H' b e hdk
noncomputable def ZJb (n:Nat):Sp:=fun vs H Q _=>∃(bag:Ab) (c:Int) (m:Nat),vs=[.ref bag,.int (m:Int),.int (n:Int)]∧H bag=some (.lst [.int c])∧1≤m∧m≤6∧∀p tr c' H',But bag H H'→H' bag=some (.lst [.int c'])→TwAt (fun l=>H l=none) H' (n+1) p tr→okT m tr=true→nT tr≤depB n→Q (.ref p) H'
theorem ZDO (T:Txt K mg t):∀n:Nat,FnS P w K mg base (n+2) "_law_any_tree" ["_law_bag","_law_many","_law_deep"] (ZJb n):=by
 intro n;have Kc:=Zxv (P:=P) (w:=w) (base:=base) T
 induction n with
 | zero=>
  refine⟨_,_,T.J3.ok O3 (fun vs H Q E h=>?_) (fun cdv A outer s H vs Q E hr h=>?_),T.ZJ,T.J3.kp,T.ZK⟩
  ·obtain⟨bag,c,m,rfl,_⟩:=h
   rfl
  obtain⟨bag,c,m,rfl,hb,h1,h6,q⟩:=h;have JG:FnS P w K mg base 0 "_law_any_tree" ["_law_bag","_law_many","_law_deep"] (fun _ _ _ _=>False):=⟨_,_,⟨fun vs H Q E h=>h.elim,fun A outer s H args us vs Q E _ _ _ _ h=>h.elim⟩,T.ZJ,T.J3.kp,T.ZK⟩
  refine⟨_,(Ai (ss 3 O3.nd (Bj Kc hr (Ac (pv 0) (Ac (Bm Bo (Br (Ac Ag (Ac Ag Af))) (Gg Ow rfl T.B.int Lq (Ac (Jp Iw (pv 2) Ag (Bd _)) Af)) (fun _ _=>rfl)) Af))))
   (Ai (Bl (Ay (BL hr.units) (pv 3) Ag (Bd _))
   (Ah (Av (Eh (Ac Am (Ac (Bj Kc hr (Ac (pv 0) (Ac (pv 1) Af))) Af)))))
   Bq)
   (Ai (Bl (Ay Jo (pv 3) Ag (Bd _))
   (Ah (Av (Eh (Ac Am (Ac (Jp (BL hr.units) (pv 3) Ag (Bd _)) Af)))))
   Bq)
   (Ai (Bl (Ay Jo (pv 3) Ag (Bd _))
   (Ah (Av (Eh (Ac (Bm Bo (Br (Ac Am (Ac Am Af))) (Aj Fq (pv 3) Ag) (fun _ _=>rfl)) (Ac (Br (Ac (Bj JG hr (Ac (pv 0) (Ac (pv 1) (Ac (Aj Fq (pv 2) Ag) Af)))) Af)) Af)))))
   Bq)
   (Ai (ud 4 O3.nd (sc:=Az U5) (N:=["_law_bag","_law_many","_law_deep","_law_kind","_law_parts"]) (ns:=["_law_bag","_law_many","_law_deep"]) (ix:=[0,1,2]) rfl rfl (by decide +kernel) rfl (Hn rfl T.B.range (Ac (Aj BJ Ag (Bj Kc hr (Ac (pv 0) (Ac Ag Af)))) Af)) (fun _ _ _ _=>WY) (fun _ _ _ _=>(Bj JG hr (Ac (pv 1) (Ac (pv 2) (Ac (Aj Fq (pv 3) Ag) Af))))))
   (Ah (Av (Eh (Ac (Bm Bo (Br (Ac Am (Ac Am (Ac Am Af)))) (Aj Fq (pv 3) Ag) (fun _ _=>rfl)) (Ac (pv 4) Af)))))))))),?_⟩
  walk_at "rd0";refine BR (by simp) fun l0 H0 s0 n0 e0=>?_;walk_at "";refine By (j:=0) e0 (v:=.int 3) rfl ?_;walk_at "";refine⟨bag,c,3,rfl,s0 _ _ hb,by decide,by decide,fun d c1 H1 b1 e1 hd=>?_⟩;walk_at "";refine Di (fun h0=>?_) (fun h0=>?_)
  ·walk_at ""
   refine⟨bag,c1,m,rfl,e1,by omega,by omega,fun d2 c2 H2 b2 e2 hd2=>?_⟩;walk_at "";refine Ey (by simp) fun p H3 s3 n3 e3=>?_;exact q p (.lamp d2) c2 H3 (fun b u hb' e=>s3 _ _ (b2 _ _ hb' (b1 _ _ hb' (s0 _ _ e)))) (s3 _ _ e2) e3 (decide_eq_true hd2) (Bv _)
  walk_at "";refine Cg (decide_eq_true (by omega)) ?_;walk_at "";refine Ey (by simp) fun p H3 s3 n3 e3=>?_;exact q p (.sure (decide ((d:Int)=1))) c1 H3 (fun b u hb' e=>s3 _ _ (b1 _ _ hb' (s0 _ _ e))) (s3 _ _ e1) e3 rfl (Bv _)
 | succ n ih=>
  have JG:=ih;refine⟨_,_,T.J3.ok O3 (fun vs H Q E h=>?_) (fun cdv A outer s H vs Q E hr h=>?_),T.ZJ,T.J3.kp,T.ZK⟩
  ·obtain⟨bag,c,m,rfl,_⟩:=h
   rfl
  obtain⟨bag,c,m,rfl,hb,h1,h6,q⟩:=h
  have e9:((n+1:Nat):Int) - 1=(n:Int):=by omega
  refine⟨_,(Ai (ss 3 O3.nd (Bj Kc hr (Ac (pv 0) (Ac (Bm Bo (Br (Ac Ag (Ac Ag Af))) (Gg Ow rfl T.B.int Lq (Ac (Jp Iw (pv 2) Ag (Bd _)) Af)) (fun _ _=>rfl)) Af))))
   (Ai (Bl (Ay (BL hr.units) (pv 3) Ag (Bd _))
   (Ah (Av (Eh (Ac Am (Ac (Bj Kc hr (Ac (pv 0) (Ac (pv 1) Af))) Af)))))
   Bq)
   (Ai (Bl (Ay Jo (pv 3) Ag (Bd _))
   (Ah (Av (Eh (Ac Am (Ac (Jp (BL hr.units) (pv 3) Ag (Bd _)) Af)))))
   Bq)
   (Ai (Bl (Ay Jo (pv 3) Ag (Bd _))
   (Ah (Av (Eh (Ac (Bm Bo (Br (Ac Am (Ac Am Af))) (Aj Fq (pv 3) Ag) (fun _ _=>rfl)) (Ac (Br (Ac (Bj JG hr (Ac (pv 0) (Ac (pv 1) (Ac (Aj Fq (pv 2) Ag) Af)))) Af)) Af)))))
   Bq)
   (Ai (ud 4 O3.nd (sc:=Az U5) (N:=["_law_bag","_law_many","_law_deep","_law_kind","_law_parts"]) (ns:=["_law_bag","_law_many","_law_deep"]) (ix:=[0,1,2]) rfl rfl (by decide +kernel) rfl (Hn rfl T.B.range (Ac (Aj BJ Ag (Bj Kc hr (Ac (pv 0) (Ac Ag Af)))) Af)) (fun _ _ _ _=>WY) (fun _ _ _ _=>(Bj JG hr (Ac (pv 1) (Ac (pv 2) (Ac (Aj Fq (pv 3) Ag) Af))))))
   (Ah (Av (Eh (Ac (Bm Bo (Br (Ac Am (Ac Am (Ac Am Af)))) (Aj Fq (pv 3) Ag) (fun _ _=>rfl)) (Ac (pv 4) Af)))))))))),?_⟩
  walk_at "rd0";refine BR (by simp) fun l0 H0 s0 n0 e0=>?_;walk_at "";rw[decide_eq_true (show((n+1:Nat):Int) > 0 by omega)];refine By (j:=1) e0 (v:=.int 8) rfl ?_;walk_at "";refine⟨bag,c,8,rfl,s0 _ _ hb,by decide,by decide,fun d c1 H1 b1 e1 hd=>?_⟩;have c1':But bag H H1:=fun b u hb' e=>b1 _ _ hb' (s0 _ _ e);walk_at "";refine Di (fun h0=>?_) (fun h0=>?_)
  ·walk_at ""
   refine⟨bag,c1,m,rfl,e1,by omega,by omega,fun d2 c2 H2 b2 e2 hd2=>?_⟩;walk_at "";refine Ey (by simp) fun p H3 s3 n3 e3=>?_;exact q p (.lamp d2) c2 H3 (fun b u hb' e=>s3 _ _ (b2 _ _ hb' (c1' _ _ hb' e))) (s3 _ _ e2) e3 (decide_eq_true hd2) (by show 1≤1+_; omega)
  walk_at "";refine Di (fun h3=>?_) (fun h3=>?_)
  ·walk_at ""
   refine Ey (by simp) fun p H3 s3 n3 e3=>?_;exact q p (.sure (decide ((d:Int)=1))) c1 H3 (fun b u hb' e=>s3 _ _ (c1' _ _ hb' e)) (s3 _ _ e1) e3 rfl (by show 1≤1+_; omega)
  walk_at "";refine Di (fun h5=>?_) (fun h5=>?_)
  ·obtain⟨j,hj,hj2⟩ : ∃j:Nat,(d:Int) - 3=(j:Int)∧j < 2:=⟨d - 3,by omega,by omega⟩
   walk_at "";refine BR (by simp) fun l2 H2 s2 n2 e2=>?_;walk_at "";rw[hj];refine By (j:=j) (v:=.str (nwK j)) e2 (ZEC hj2) ?_;walk_at "";refine⟨bag,c1,m,by rw[e9],s2 _ _ e1,h1,h6,fun q1 tr c3 H3 b3 e3 t3 ok3 nt3=>?_⟩;walk_at "";refine BR (by simp) fun l H4 s4 n4 e4=>?_;walk_at "";refine Ey (by simp) fun p H5 s5 n5 e5=>?_
   have nb:∀x,H2 x=none→H x=none:=fun x hx=>by
    cases e:H x with
    | none=>rfl
    | some u=>
     by_cases z:x=bag
     ·rw[z,s2 _ _ e1]at hx; cases hx
     ·rw[s2 _ _ (c1' _ _ z e)]at hx; cases hx
   have nb3:∀x,H3 x=none→H x=none:=fun x hx=>by
    cases e:H x with
    | none=>rfl
    | some u=>
     by_cases z:x=bag
     ·rw[z,e3]at hx; cases hx
     ·rw[b3 _ _ z (s2 _ _ (c1' _ _ z e))]at hx; cases hx
   have t5:TwAt (fun l=>H l=none) H5 (n+1) q1 tr:=(t3.same (s4.trans s5)).imp (fun _ _ e=>e) fun _ _ z e=>⟨nb _ z,e⟩;exact q p (nwT j tr) c3 H5 (fun b u hb' e=>(s4.trans s5) _ _ (b3 _ _ hb' (s2 _ _ (c1' _ _ hb' e)))) ((s4.trans s5) _ _ e3) (ZEA hj2 e5 (nb3 _ n4) (s5 _ _ e4) t5) (by rw[ZEB]; exact ok3) (by rw[ZIp]; show 1+nT tr≤1+3 * depB n; omega)
  obtain⟨j,hj,hj3⟩ : ∃j:Nat,(d:Int) - 5=(j:Int)∧j < 3:=⟨d - 5,by omega,by omega⟩;walk_at "";refine⟨bag,c1,2,rfl,e1,by decide,by decide,fun d2 c2 H2 b2 e2 hd2=>?_⟩;have c2':But bag H H2:=fun b u hb' e=>b2 _ _ hb' (c1' _ _ hb' e)
  have nb:∀x,H2 x=none→H x=none:=fun x hx=>by
   cases e:H x with
   | none=>rfl
   | some u=>
    by_cases z:x=bag
    ·rw[z,e2]at hx; cases hx
    ·rw[c2' _ _ z e]at hx; cases hx
  walk_at "";rw[show(2:Int)+(d2:Int)=((2+d2:Nat):Int) by omega];refine⟨_,rfl,by omega,by omega,?_⟩;rw[JM];refine ZCr (fun i ys acc H'=>But bag H2 H'∧(∃c',H' bag=some (.lst [.int c']))∧H' acc=some (.lst ys)∧∃(ps:List Ab) (gs:List Tr),ys=ps.map V.ref∧ps.length=i∧Bs (TwAt (fun l=>H2 l=none∧l≠acc) H' (n+1)) ps gs∧(∀g∈gs,okT m g=true)∧nTL gs≤i * depB n) (fun H'=>ZxX 0 (2+d2) H') (by simp; omega) ?_ ?_ ?_
  ·intro acc hacc
   have s:=HJ hacc (.lst []);exact⟨fun b o _ e=>s _ _ e,⟨c2,s _ _ e2⟩,Cm,[],[],rfl,rfl,.nil,(fun g hg=>by cases hg),De _⟩
  ·rintro i x ys acc H3 hx hacc ⟨b3,⟨c3,e3⟩,ea,ps,gs,rfl,hl,pp,okg,ntg⟩ _ R kk
   obtain⟨hi,rfl⟩:=ZtC hx;have nab:acc≠bag:=(Bw e2 hacc).symm;simp only [subS,Dq,Gx];walk_at "";refine kk true H3 (fun z=>by cases z) fun _ R2 k2=>?_;walk_at "";refine⟨bag,c3,m,by rw[e9],e3,h1,h6,fun q1 tr c4 H4 b4 e4 t4 ok4 nt4=>?_⟩;refine k2 _ H4 (b4 _ _ nab ea) fun H5 b5 e5=>?_;have ea4:=b4 _ _ nab ea
   have fr1:∀x,H3 x=none→H2 x=none:=fun x hx=>by
    cases e:H2 x with
    | none=>rfl
    | some u=>
     by_cases z:x=bag
     ·rw[z,e3]at hx; cases hx
     ·rw[b3 _ _ z e]at hx; cases hx
   have fr:∀x,H3 x=none→H2 x=none∧x≠acc:=fun x hx=>⟨fr1 x hx,fun z=>by rw[z,ea]at hx; cases hx⟩;refine⟨fun b o hb' e=>b5 _ _ (Bw e hacc) (b4 _ _ hb' (b3 _ _ hb' e)),⟨c4,b5 _ _ nab.symm e4⟩,e5,ps++[q1],gs++[tr],by rw[Cp]; rfl,by rw[CZ,hl]; rfl,?_,?_,?_⟩
   ·refine Ie (BV (fun _ _ h=>h.imp (fun p xs e=>?_) (fun l xs sl e=>⟨sl,b5 _ _ sl.2 (b4 _ _ (Bw e2 sl.1).symm e)⟩)) pp) (.cons (t4.imp (fun p xs e=>b5 _ _ (Ci e ea4 (by intro z; cases z)) e) (fun l xs sl e=>⟨fr _ sl,b5 _ _ (fr _ sl).2 e⟩)) .nil)
    have e':=b4 _ _ (Ci e e3 (by intro z; cases z)) e;exact b5 _ _ (Ci e' ea4 (by intro z; cases z)) e'
   ·intro g hg
    rcases Er.mp hg with hg | hg
    ·exact okg g hg
    ·rw[Ck.mp hg]; exact ok4
   ·rw[Zm0,aj,YcN]; omega
  ·rintro acc ys H3 hacc ⟨b3,⟨c3,e3⟩,ea,ps,gs,rfl,hl,pp,okg,ntg⟩
   rw[Ax,JR]at hl ntg;walk_at "";refine BR (by simp) fun l3 H4 s4 n4 e4=>?_;walk_at "";rw[hj];refine By e4 (ZJC hj3) ?_;walk_at "";refine Ey (by simp) fun p H5 s5 n5 e5=>?_;have hgl:=Dj pp;refine q p (.join (w3of j) gs) c3 H5 (fun b u hb' e=>(s4.trans s5) _ _ (b3 _ _ hb' (c2' _ _ hb' e))) ((s4.trans s5) _ _ e3) ⟨acc,ps,e5,nb _ hacc,(s4.trans s5) _ _ ea,BV (fun _ _ h=>(h.same (s4.trans s5)).imp (fun _ _ e=>e) fun _ _ z e=>⟨nb _ z.1,e⟩) pp⟩ ?_ ?_
   ·simp only [okT,Fi,decide_eq_true_iff]
    refine⟨by omega,?_⟩;rw[ak,GK];exact fun g hg=>okg g hg
   ·show 1+nTL gs≤1+3 * depB n
    have:(2+d2) * depB n≤3 * depB n:=Ybd _ (by omega);omega
structure OkT42 (m:Nat) (tr:Tr):Prop where
 ok:okT m tr=true
 nt:nT tr≤13
noncomputable def ZDF:Sp:=fun vs H Q _=>∃(c:Int) (m:Nat) (b:Bool),vs=[.int c,.int (m:Int),.bl b]∧1≤m∧m≤6∧∀p tr H',Same H H'→TwAt (fun l=>H l=none) H' 3 p tr→OkT42 m tr→Q (.ref p) H'
theorem ZGc (T:Txt K mg t):FnS P w K mg base 6 "_law_tree" ["_law_more","_law_many","_law_free"] (ZDF):=by
 refine⟨_,_,T.Ry.ok ZuS (fun vs H Q E h=>?_) (fun cdv A outer s H vs Q E hr h=>?_),T.ZoF,T.Ry.kp,T.Zpn⟩
 ·obtain⟨c,m,b,rfl,h1,h6,q⟩:=h
  rfl
 obtain⟨c,m,b,rfl,h1,h6,q⟩:=h;have JG:=ZDO (P:=P) (w:=w) (base:=base) T 2;have JF:=Zzg (P:=P) (w:=w) (base:=base) T 2
 refine⟨_,(Ai (Bl (DX (pv 2) (fun _=>rfl))
   (Ah (Av (Bj JG hr (Ac (Br (Ac (pv 0) Af)) (Ac (pv 1) (Ac Ag Af))))))
   Bq)
   (Ah (Av (Bj JF hr (Ac (pv 0) (Ac (pv 1) (Ac Ag Af))))))),?_⟩
 walk_at "rd0"
 cases b with
 | true=>
  refine Cg rfl ?_;walk_at "";refine BR (by simp) fun bag H1 s1 n1 e1=>?_;walk_at "";refine⟨bag,c,m,rfl,e1,h1,h6,fun p tr c' H2 b2 e2 t2 ok2 nt2=>?_⟩;exact q p tr H2 (b2.same n1 s1) (t2.imp (fun _ _ e=>e) fun _ _ z e=>⟨s1.free z,e⟩) ⟨ok2,nt2⟩
 | false=>
  refine Ba rfl ?_;walk_at "";exact⟨c,m,rfl,h1,h6,fun p tr H2 s2 t2 ok2 nt2=>q p tr H2 s2 t2 ⟨ok2,nt2⟩⟩
end
unseal PE PA PS PSs
end LW
open PySem L2
namespace LW
open PySem L2 EM
open List (map_drop map_take take_nil)
structure OkM42 (m:Nat) (v:Tr×List (Nat×Tr)):Prop where
 o:OkM17 m v
 g13:nT v.1≤13
 c13:∀c∈v.2,nT c.2≤13
def CgS (S:Ab→Prop) (ns:List Str) (H:Hp) (h:Ab) (c:Nat×Tr):Prop:=∃p,H h=some (.tup [.str (ns.getD c.1 BK),.ref p])∧TwAt S H 3 p c.2
def ChA (H0:Hp) (ns:List Str) (H:Hp) (p:Ab) (v:Tr×List (Nat×Tr)):Prop:=∃g l hs,H p=some (.tup [.ref g,.ref l])∧H0 l=none∧H l=some (.lst (hs.map V.ref))∧TwAt (fun l=>H0 l=none) H 3 g v.1∧Bs (CgS (fun l=>H0 l=none) ns H) hs v.2
theorem CgS.imp {S S':Ab→Prop} {ns:List Str} {H H':Hp} (ht:∀p xs,H p=some (.tup xs)→H' p=some (.tup xs)) (hl:∀l xs,S l→H l=some (.lst xs)→S' l∧H' l=some (.lst xs)) {h:Ab} {c:Nat×Tr} (x:CgS S ns H h c):CgS S' ns H' h c:=by
 obtain⟨p,e,t⟩:=x;exact⟨p,ht _ _ e,t.imp ht hl⟩
theorem ZIl {a m:Int} {i k:Nat} (hm:0 < m) (hk:k < i) (hi:(i:Int) < m):(a+(k:Int)) % m≠(a+(i:Int)) % m:=fun e=>by
 have z:=Int.emod_eq_emod_iff_emod_sub_eq_zero.mp e.symm;rw[show a+(i:Int) - (a+(k:Int))=(i:Int) - (k:Int) by omega,Int.emod_eq_of_lt (by omega) (by omega)]at z;omega
seal PE PA PS PSs
section
variable {P:Bp} {w:Bg} {K:Ao} {mg:Str→Option Ae} {base:Aq} {t:Ad} {n:Nat}
abbrev IvC (ns:List Str) (c:Int) (nl cl:Ab) (m:Nat) (H:Hp) (i:Nat) (σ:St) (H':Hp):Prop:=∃(hs:List Ab) (cs:List (Nat×Tr)) (v4:Option V),Same H H'∧H' cl=some (.lst (hs.map V.ref))∧cs.length=i∧Bs (CgS (fun l=>H l=none∧l≠cl) ns H') hs cs∧(∀d∈cs,(okT m d.2=true∧nT d.2≤13)∧∃k,k < i∧(d.1:Int)=(c / 3+(k:Int)) % (m:Int))∧(cs.map Ge).Nodup∧σ=[some (.int c),some (.ref nl),some (.int (m:Int)),some (.ref cl),v4]
noncomputable def ZJd:Sp:=fun vs H Q _=>∃(c:Int) (nl:Ab) (ns:List Str),vs=[.int c,.ref nl]∧H nl=some (.lst (ns.map V.str))∧1≤ns.length∧ns.length≤6∧∀p v H',Same H H'→ChA H ns H' p v→OkM42 ns.length v→Q (.ref p) H'
theorem ZyQ (T:Txt K mg t):FnS P w K mg base 5 "_law_changes" ["_law_more","_law_names_here"] (ZJd):=by
 refine⟨_,_,T.RC.ok Xh (fun vs H Q E h=>?_) (fun cdv A outer s H vs Q E hr h=>?_),T.ZkD,T.RC.kp,T.ZkK⟩
 ·obtain⟨c,nl,ns,rfl,hn,h1,h6,q⟩:=h
  rfl
 obtain⟨c,nl,ns,rfl,hn,h1,h6,q⟩:=h;have JF:=Zzg (P:=P) (w:=w) (base:=base) T 2;have d13:depB 2=13:=rfl
 refine⟨_,(Ai (ss 2 Xh.nd (Dh Ed rfl T.B.len Ec (Ac (pv 1) Af)))
   (Ai (ss 3 Xh.nd (Br Af))
   (Ai (Dd Cz rfl (Hn rfl T.B.range (Ac (Aj BJ Ag (Aj Cv (Aj Eo (pv 0) Ag) (pv 2))) Af)) (sg 4 Xh.nd)
   (Ah (Dc (CG Ds Eg Em Ea (pv 3) (Ac (Eh (Ac (Bm Bo (pv 1) (Aj Cv (Aj BJ (Aj Eo (pv 0) Ag) (pv 4)) (pv 2)) (fun _ _=>rfl)) (Ac (Bj JF hr (Ac (Aj BJ (Aj Eo (pv 0) (Aj BJ Ag (Aj GZ Ag (pv 4)))) (Aj GZ Ag (pv 4))) (Ac (pv 2) (Ac Ag Af)))) Af))) Af)))))
   (Ah (Av (Eh (Ac (Bj JF hr (Ac (pv 0) (Ac (pv 2) (Ac Ag Af)))) (Ac (pv 3) Af)))))))),?_⟩
 walk_at "rd0";rw[Ax];generalize hm:ns.length=m at h1 h6 q ⊢
 have md:∀z:Int,∃k:Nat,z % (m:Int)=(k:Int)∧k < m:=fun z=>by
  have v1:=Uk z (show(m:Int)≠0 by omega);have v2:=Ul z (show(0:Int) < (m:Int) by omega);exact⟨(z % (m:Int)).toNat,by omega,by omega⟩
 walk_at "";refine BR (by simp) fun cl H1 s1 n1 e1=>?_;walk_at "";obtain⟨k0,hk0,hk0m⟩:=md (c / 7);rw[hk0,show(1:Int)+(k0:Int)=((1+k0:Nat):Int) by omega];refine⟨_,rfl,by omega,by omega,?_⟩;rw[JM];refine Kw (n:=1+k0) (IvC ns c nl cl m H) ⟨[],[],_,s1,e1,rfl,.nil,(fun d hd=>by cases hd),Wm,rfl⟩ ?_ ?_
 ·rintro i σ H2 hi ⟨hs,cs,v4,s2,e2,hcl,pp,okc,nd,rfl⟩
  obtain⟨k,hk,hkm⟩:=md (c / 3+(i:Int));have hln:=Dj pp;walk_at "";refine⟨tyL e2,?_⟩;walk_at "";rw[hk];refine By (j:=k) (s2 _ _ hn) (v:=.str (ns.getD k BK)) (by rw[El,NT (show k < ns.length by omega)]; rfl) ?_;walk_at "";refine Hj (.inl ⟨by decide,by decide⟩) ?_;walk_at "";refine Hj (.inl ⟨by decide,by decide⟩) ?_;walk_at "";refine⟨_,m,rfl,h1,h6,fun q1 tr H3 s3 t3 ok3 nt3=>?_⟩;walk_at "";refine Ey (by simp) fun h H4 s4 n4 e4=>?_;walk_at "";have e24:=(s3.trans s4) _ _ e2;refine Eu e24 (by rw[Ax]; omega) fun H5 b5 e5=>?_;walk_at "";refine⟨hs++[h],cs++[(k,tr)],_,b5.same n1 (s2.trans (s3.trans s4)),by rw[e5,Cp]; rfl,by rw[CZ,hcl]; rfl,?_,?_,?_,rfl⟩
  ·refine Ie (BV (fun _ _ x=>x.imp (fun p xs e=>b5 _ _ (Ci ((s3.trans s4) _ _ e) e24 (by intro z; cases z)) ((s3.trans s4) _ _ e)) (fun l xs sl e=>⟨sl,b5 _ _ sl.2 ((s3.trans s4) _ _ e)⟩)) pp) (.cons ⟨q1,b5 _ _ (Ci e4 e24 (by intro z; cases z)) e4,(t3.same s4).imp (fun p xs e=>b5 _ _ (Ci e e24 (by intro z; cases z)) e) (fun l xs sl e=>?_)⟩ .nil)
   have hcl':l≠cl:=fun z=>by rw[z,e2]at sl; cases sl
   exact⟨⟨s2.free sl,hcl'⟩,b5 _ _ hcl' e⟩
  ·intro d hd
   rcases Er.mp hd with hd | hd
   ·obtain⟨a,k',h1',h2'⟩:=okc d hd
    exact⟨a,k',by omega,h2'⟩
   ·rw[Ck.mp hd]
    exact⟨⟨ok3,by show nT tr≤13; omega⟩,i,by omega,by rw[hk]⟩
  ·rw[Cp,Uj]
   refine⟨nd,by simp,fun x hx y hy e=>?_⟩;obtain⟨d,hd,rfl⟩:=Fx.mp hx;obtain⟨_,k',h1',h2'⟩:=okc d hd
   have hy:y=k:=by simpa using hy
   subst e;refine ZIl (a:=c / 3) (m:=(m:Int)) (i:=i) (k:=k') (by omega) h1' (by omega) ?_;rw[←h2',hk,hy]
 ·rintro σ H2 ⟨hs,cs,v4,s2,e2,hcl,pp,okc,nd,rfl⟩
  walk_at "";refine⟨_,m,rfl,h1,h6,fun q1 tr H3 s3 t3 ok3 nt3=>?_⟩;walk_at "";refine Ey (by simp) fun p H4 s4 n4 e4=>?_;refine q p (tr,cs) H4 (s2.trans (s3.trans s4)) ⟨q1,cl,hs,e4,n1,(s3.trans s4) _ _ e2,(t3.same s4).imp (fun _ _ e=>e) (fun _ _ sl e=>⟨s2.free sl,e⟩),BV (fun _ _ x=>x.imp (fun _ _ e=>(s3.trans s4) _ _ e) (fun _ _ sl e=>⟨sl.1,(s3.trans s4) _ _ e⟩)) pp⟩ ⟨⟨⟨ok3,by show nT tr≤51; omega⟩,fun d hd=>⟨⟨(okc d hd).1.1,Ex (okc d hd).1.2 (by decide)⟩,?_⟩,nd,by show 1≤cs.length; omega,by show cs.length≤6; omega⟩,by show nT tr≤13; omega,fun d hd=>(okc d hd).1.2⟩;obtain⟨_,k',_,h2'⟩:=okc d hd;obtain⟨k'',e'',l''⟩:=md (c / 3+(k':Int));omega
end
unseal PE PA PS PSs
theorem ZwD (ns:List Str):((Im ns.length).map fun k=>ns.getD k BK)=ns:=by
 apply List.ext_getElem?;intro i;rw[El]
 by_cases h:i < ns.length
 ·rw[ik h,NT h]
  rfl
 ·rw[jo (by rw[JR]; omega),jo (by omega)]
  rfl
theorem Zps {α β:Type} (f:α→β):∀(l:List α) (k:Nat),(l.map f).eraseIdx k=(l.eraseIdx k).map f
 | [],_=>rfl
 | _::_,0=>rfl
 | x::r,k+1=>by
  show f x::(r.map f).eraseIdx k=f x::(r.eraseIdx k).map f;rw[Zps f r k]
theorem Zrm {α:Type}:∀(l:List α) (k:Nat) (h:k < l.length),(l[k]::l.eraseIdx k).Perm l
 | x::r,0,_=>.refl _
 | x::r,k+1,h=>by
  have h':k < r.length:=by simpa using h
  exact(List.Perm.swap x _ _).trans ((Zrm r k h').cons x)
seal PE PA PS PSs
section
variable {P:Bp} {w:Bg} {K:Ao} {mg:Str→Option Ae} {base:Aq} {t:Ad} {n:Nat}
abbrev IvD (ns:List Str) (bag nl g nf cl:Ab) (m:Nat) (tr0:Tr) (H:Hp) (i:Nat) (σ:St) (H':Hp):Prop:=∃(hs:List Ab) (cs:List (Nat×Tr)) (ix:List Nat) (c':Int) (v5 v6:Option V),But bag H H'∧H' bag=some (.lst [.int c'])∧H' nf=some (.lst ((ix.map fun k=>ns.getD k BK).map V.str))∧H' cl=some (.lst (hs.map V.ref))∧cs.length=i∧ix.length+i=m∧TwAt (fun l=>H l=none∧l≠cl∧l≠nf) H' 3 g tr0∧Bs (CgS (fun l=>H l=none∧l≠cl∧l≠nf) ns H') hs cs∧(∀d∈cs,(okT m d.2=true∧nT d.2≤13)∧d.1 < m)∧(∀k∈ix,k < m)∧(cs.map Ge++ix).Nodup∧σ=[some (.ref bag),some (.ref nl),some (.ref g),some (.ref nf),some (.ref cl),v5,v6]
noncomputable def ZGI:Sp:=fun vs H Q _=>∃(bag nl:Ab) (c:Int) (ns:List Str),vs=[.ref bag,.ref nl]∧H bag=some (.lst [.int c])∧H nl=some (.lst (ns.map V.str))∧nl≠bag∧1≤ns.length∧ns.length≤6∧∀p v H',But bag H H'→ChA H ns H' p v→OkM42 ns.length v→Q (.ref p) H'
theorem ZqF (T:Txt K mg t):FnS P w K mg base 6 "_law_any_changes" ["_law_bag","_law_names_here"] (ZGI):=by
 refine⟨_,_,T.RD.ok O4 (fun vs H Q E h=>?_) (fun cdv A outer s H vs Q E hr h=>?_),T.ZgD,T.RD.kp,T.Zg4⟩
 ·obtain⟨bag,nl,c,ns,rfl,hb,hn,nnb,h1,h6,q⟩:=h
  rfl
 obtain⟨bag,nl,c,ns,rfl,hb,hn,nnb,h1,h6,q⟩:=h;have Kc:=Zxv (P:=P) (w:=w) (base:=base) T;have JG:=ZDO (P:=P) (w:=w) (base:=base) T 2;have d13:depB 2=13:=rfl
 refine⟨_,(Ai (ss 2 O4.nd (Bj JG hr (Ac (pv 0) (Ac (Dh Ed rfl T.B.len Ec (Ac (pv 1) Af)) (Ac Ag Af)))))
   (Ai (ss 3 O4.nd (Gg UJ rfl T.B.list Ov (Ac (pv 1) Af)))
   (Ai (ss 4 O4.nd (Br Af))
   (Ai (Dd Cz rfl (Hn rfl T.B.range (Ac (Aj BJ Ag (Bj Kc hr (Ac (pv 0) (Ac (Dh Ed rfl T.B.len Ec (Ac (pv 1) Af)) Af)))) Af)) (sg 5 O4.nd)
   (Ai (ss 6 O4.nd (CG Ds T8 jy ZC5 (pv 3) (Ac (Bj Kc hr (Ac (pv 0) (Ac (Dh Ed rfl T.B.len Ec (Ac (pv 3) Af)) Af))) Af)))
   (Ah (Dc (CG Ds Eg Em Ea (pv 4) (Ac (Eh (Ac (pv 6) (Ac (Bj JG hr (Ac (pv 0) (Ac (Dh Ed rfl T.B.len Ec (Ac (pv 1) Af)) (Ac Ag Af)))) Af))) Af))))))
   (Ah (Av (Eh (Ac (pv 2) (Ac (pv 4) Af))))))))),?_⟩
 walk_at "rd0";rw[Ax];walk_at "";refine⟨bag,c,ns.length,rfl,hb,h1,h6,fun g tr0 c1 H1 b1 e1 t1 ok1 nt1=>?_⟩;walk_at "";refine UT (.inl (SqL.of (b1 _ _ nnb hn))) fun nf H2 s2 n2 e2=>?_;walk_at "";refine BR (by simp) fun cl H3 s3 n3 e3=>?_;walk_at "";have c3:But bag H H3:=fun b u hb' e=>(s2.trans s3) _ _ (b1 _ _ hb' e);refine IV (c3 _ _ nnb hn) ?_;rw[Ax];walk_at "";refine⟨bag,c1,ns.length,rfl,(s2.trans s3) _ _ e1,by omega,by omega,fun d2 c4 H4 b4 e4 hd2=>?_⟩;have nfb:nf≠bag:=(Bw e1 n2).symm;have clb:cl≠bag:=(Bw (s2 _ _ e1) n3).symm;have ncf:cl≠nf:=(Bw e2 n3).symm;have c4':But bag H H4:=fun b u hb' e=>b4 _ _ hb' (c3 _ _ hb' e)
 have fr:∀x,H1 x=none→H x=none:=fun x hx=>by
  cases e:H x with
  | none=>rfl
  | some u=>
   by_cases z:x=bag
   ·rw[z,e1]at hx; cases hx
   ·rw[b1 _ _ z e]at hx; cases hx
 have nf0:H nf=none:=fr _ n2;have cl0:H cl=none:=fr _ (s2.free n3);generalize hm:ns.length=m at h1 h6 q hd2 ok1 ⊢;have t4:TwAt (fun l=>H l=none∧l≠cl∧l≠nf) H4 3 g tr0:=t1.imp (fun p xs e=>b4 _ _ (Ci ((s2.trans s3) _ _ e) ((s2.trans s3) _ _ e1) (by intro z; cases z)) ((s2.trans s3) _ _ e)) (fun l xs sl e=>⟨⟨sl,Bw e (s2.free n3),Bw e n2⟩,b4 _ _ (Bw hb sl).symm ((s2.trans s3) _ _ e)⟩);walk_at "";rw[show(1:Int)+(d2:Int)=((1+d2:Nat):Int) by omega];refine⟨_,rfl,by omega,by omega,?_⟩;rw[JM]
 have inn:H4 nf=some (.lst (((Im m).map fun k=>ns.getD k BK).map V.str)):=by
  rw[←hm,ZwD];exact b4 _ _ nfb (s3 _ _ e2)
 refine Kw (n:=1+d2) (IvD ns bag nl g nf cl m tr0 H) ⟨[],[],Im m,c4,_,_,c4',e4,inn,b4 _ _ clb e3,rfl,by rw[JR]; rfl,t4,.nil,(fun d hd=>by cases hd),(fun k hk=>N8.mp hk),List.nodup_range,rfl⟩ ?_ ?_
 ·rintro i σ H5 hi ⟨hs,cs,ix,c5,v5,v6,b5,e5,en5,ec5,hcl,hix,t5,pp,okc,okx,nd,rfl⟩
  have hln:=Dj pp;walk_at "";refine⟨tyL en5,?_⟩;walk_at "";rw[Ax,Ax];walk_at "";refine⟨bag,c5,ix.length,rfl,e5,by omega,by omega,fun d c6 H6 b6 e6 hd=>?_⟩;have en6:=b6 _ _ nfb en5;have ec6:=b6 _ _ clb ec5;refine ZFF en6 (y:=.str (ns.getD ix[d] BK)) (by rw[El,El,Dr hd]; rfl) (by rw[Ax,Ax]; omega) fun H7 b7 e7=>?_;walk_at "";have ec7:=b7 _ _ ncf ec6;have e7':=b7 _ _ nfb.symm e6;refine⟨tyL ec7,?_⟩;walk_at ""
  have n57:∀x,H7 x=none→H x=none:=fun x hx=>by
   cases e:H x with
   | none=>rfl
   | some u=>
    by_cases z:x=bag
    ·rw[z,e7']at hx; cases hx
    ·rw[b7 _ _ (Bw e nf0) (b6 _ _ z (b5 _ _ z e))]at hx; cases hx
  refine IV (b7 _ _ (Bw hn nf0) (b6 _ _ nnb (b5 _ _ nnb hn))) ?_;rw[Ax,hm];walk_at "";refine⟨bag,c6,m,rfl,e7',h1,h6,fun q1 tr c8 H8 b8 e8 t8 ok8 nt8=>?_⟩;walk_at "";refine Ey (by simp) fun h H9 s9 n9 e9=>?_;walk_at "";have ec9:=s9 _ _ (b8 _ _ clb ec7);refine Eu ec9 (by rw[Ax]; omega) fun Ha ba ea=>?_;walk_at ""
  have tupk:∀p xs,H5 p=some (.tup xs)→Ha p=some (.tup xs):=fun p xs e=>by
   have z6:=b6 _ _ (Ci e e5 (by intro z; cases z)) e;have z7:=b7 _ _ (Ci z6 en6 (by intro z; cases z)) z6;have z9:=s9 _ _ (b8 _ _ (Ci z7 e7' (by intro z; cases z)) z7);exact ba _ _ (Ci z9 ec9 (by intro z; cases z)) z9
  have lstk:∀l xs,(H l=none∧l≠cl∧l≠nf)→H5 l=some (.lst xs)→(H l=none∧l≠cl∧l≠nf)∧Ha l=some (.lst xs):=fun l xs sl e=>⟨sl,ba _ _ sl.2.1 (s9 _ _ (b8 _ _ (Bw hb sl.1).symm (b7 _ _ sl.2.2 (b6 _ _ (Bw hb sl.1).symm e))))⟩
  have nf9:H9 nf=some (.lst ((((ix.eraseIdx d).map fun k=>ns.getD k BK)).map V.str)):=by
   rw[Zps,Zps]at e7;exact s9 _ _ (b8 _ _ nfb e7)
  refine⟨hs++[h],cs++[(ix[d],tr)],ix.eraseIdx d,c8,_,_,fun b u hb' e=>ba _ _ (Bw e cl0) (s9 _ _ (b8 _ _ hb' (b7 _ _ (Bw e nf0) (b6 _ _ hb' (b5 _ _ hb' e))))),ba _ _ clb.symm (s9 _ _ e8),ba _ _ ncf.symm nf9,by rw[ea,Cp]; rfl,by rw[CZ,hcl]; rfl,by rw[List.length_eraseIdx,if_pos hd]; omega,t5.imp tupk lstk,?_,?_,?_,?_,rfl⟩
  ·refine Ie (BV (fun _ _ x=>x.imp tupk lstk) pp) (.cons ⟨q1,ba _ _ (Ci e9 ec9 (by intro z; cases z)) e9,(t8.same s9).imp (fun p xs e=>ba _ _ (Ci e ec9 (by intro z; cases z)) e) (fun l xs sl e=>?_)⟩ .nil)
   have k1:l≠cl:=fun z=>by rw[z,ec7]at sl; cases sl
   have k2:l≠nf:=fun z=>by rw[z,e7]at sl; cases sl
   exact⟨⟨n57 _ sl,k1,k2⟩,ba _ _ k1 e⟩
  ·intro x hx
   rcases Er.mp hx with hx | hx
   ·exact okc x hx
   ·rw[Ck.mp hx]
    exact⟨⟨ok8,by show nT tr≤13; omega⟩,okx _ (jf hd)⟩
  ·exact fun k hk=>okx k (List.mem_of_mem_eraseIdx hk)
  ·rw[Cp,Gp]
   exact((List.Perm.append_left _ (Zrm _ _ hd)).nodup_iff).mpr nd
 ·rintro σ H5 ⟨hs,cs,ix,c5,v5,v6,b5,e5,en5,ec5,hcl,hix,t5,pp,okc,okx,nd,rfl⟩
  walk_at "";refine Ey (by simp) fun p H6 s6 n6 e6=>?_;exact q p (tr0,cs) H6 (fun b u hb' e=>s6 _ _ (b5 _ _ hb' e)) ⟨g,cl,hs,e6,cl0,s6 _ _ ec5,(t5.same s6).imp (fun _ _ e=>e) (fun _ _ sl e=>⟨sl.1,e⟩),BV (fun _ _ x=>x.imp (fun _ _ e=>s6 _ _ e) (fun _ _ sl e=>⟨sl.1,s6 _ _ e⟩)) pp⟩ ⟨⟨⟨ok1,by show nT tr0≤51; omega⟩,fun d hd=>⟨⟨(okc d hd).1.1,Ex (okc d hd).1.2 (by decide)⟩,(okc d hd).2⟩,(Uj.mp nd).1,by show 1≤cs.length; omega,by show cs.length≤6; omega⟩,by show nT tr0≤13; omega,fun d hd=>(okc d hd).1.2⟩
end
unseal PE PA PS PSs
mutual
theorem wt_T (π:Nat→Nat):∀t:Tr,fWt (fmT π t)+1≤2 * nT t
 | .lamp k=>by simp[fmT,fWt,nT]
 | .sure c=>by simp[fmT,fWt,nT]
 | .neg t=>by
  have:=wt_T π t;simp only [fmT,fWt,nT];omega
 | .wrap t=>by
  have:=wt_T π t;simp only [fmT,nT];omega
 | .join v ts=>by
  have:=ZJE π ts;simp only [fmT,fWt,nT];omega
theorem ZJE (π:Nat→Nat):∀ts:List Tr,fWtL (fmTL π ts)≤2 * nTL ts
 | []=>by simp[fmTL,fWtL]
 | t::ts=>by
  have:=wt_T π t;have:=ZJE π ts;simp only [fmTL,fWtL,nTL];omega
end
mutual
theorem bw {π:Nat→Nat} {m B:Nat} (h6:∀k,k < m→π k < B):∀t:Tr,okT m t=true→(fmT π t).low B=true
 | .lamp k,h=>decide_eq_true (h6 k (by simpa [okT] using h))
 | .sure c,_=>rfl
 | .neg t,h=>bw h6 t (by simpa [okT] using h)
 | .wrap t,h=>bw h6 t (by simpa [okT] using h)
 | .join v ts,h=>by
  simp only [okT,Fi,decide_eq_true_iff]at h;show(Fm.join v (fmTL π ts)).low B=true;rw[Zxn,GK];exact ZEs h6 ts h.2
theorem ZEs {π:Nat→Nat} {m B:Nat} (h6:∀k,k < m→π k < B):∀ts:List Tr,okTL m ts=true→∀f∈fmTL π ts,f.low B=true
 | [],_,f,hf=>by simp[fmTL]at hf
 | t::ts,h,f,hf=>by
  simp only [okTL,Fi]at h;have hf:f∈fmT π t::fmTL π ts:=hf
  rcases Bu.mp hf with rfl | hf
  ·exact bw h6 t h.1
  ·exact ZEs h6 ts h.2 f hf
end
theorem K5 {l b:Ab} {xs zs:List V} {H:Hp} {Q:VK} (h1:H l=some (.lst xs)) (h2:H b=some (.lst zs)) (z:xs.length+zs.length≤1000000) (k:∀(p:Ab) (H':Hp),Same H H'→H p=none→H' p=some (.lst (xs++zs))→Q (.ref p) H'):Js (.ref l) (.ref b) H Q:=ZDY h1 h2 (Ca z) fun p hp=>k p _ (HJ hp _) hp Cm
theorem NmA.nmL {ns:List Str} (A:NmA ns) {k:Nat} (hk:k < ns.length):NmL (ns.getD k BK)∧(ns.getD k BK).length≤8:=ZF1 (fun z hz=>(A.nm z hz).1) hk
theorem sh42 {ns:List Str} (A:NmA ns) {tr:Tr} (h:okT ns.length tr=true) {x:Str} (e:cl1 x=glue ((wdG false ns tr).map cl1)):x=Dk ns (fmT id tr):=
 az (e.trans (au (ns':=ns) (ns:=ns) (π:=id) (m:=ns.length) (fun k hk=>rfl) (fun k hk=>(A.nmL hk).1) tr h).2.symm)
theorem wt42 {tr:Tr} (h:nT tr≤13):fWt (fmT id tr)≤100:=by
 have:=wt_T id tr;omega
theorem bx {ns:List Str} (A:NmA ns) {tr:Tr} (h:nT tr≤13):(Dk ns (fmT id tr)).length≤2000:=by
 have a:=NQ (ns:=ns) (fun z hz=>(A.nm z hz).1.2.2) (fmT id tr);have b:=wt42 h;omega
noncomputable def tlW (ns:List Str) (cs:List (Nat×Tr)):List Str:=if cs=[] then [] else("then" : Str)::jnW "," (cs.map (pc17 ns))
theorem ZxS (ns:List Str) (cs:List (Nat×Tr)) (c:Nat×Tr):tlW ns (cs++[c])=tlW ns cs++(if cs=[] then("then" : Str) else ",")::pc17 ns c:=by
 unfold tlW;rw[if_neg (by simp),Cp,Dq,Gx,Zxg]
 by_cases h:cs=[]
 ·subst h
  rfl
 ·rw[if_neg (by simpa using h),if_neg h,if_neg h]
  simp
seal PE PA PS PSs
section
variable {P:Bp} {w:Bg} {K:Ao} {mg:Str→Option Ae} {base:Aq} {t:Ad} {n:Nat}
abbrev IvE (ns:List Str) (c:Int) (nl:Ab) (b:Bool) (g cl pc:Ab) (hs:List Ab) (v:Tr×List (Nat×Tr)) (H:Hp) (i:Nat) (σ:St) (H':Hp):Prop:=∃(ac:Ab) (v8 v9:Option V),Same H H'∧H ac=none∧H' ac=some (.lst ((("move" : Str)::(wdG true ns v.1++tlW ns (v.2.take i))).map V.str))∧H' pc=some (.lst (((v.2.take i).map fun c=>Ka ns (c.1,fmT id c.2)).map V.str))∧H' cl=some (.lst (hs.map V.ref))∧TwAt (· ≠ pc) H' 3 g v.1∧Bs (CgS (· ≠ pc) ns H') hs v.2∧(wdG true ns v.1++tlW ns (v.2.take i)).length≤300 * (i+1)∧σ=[some (.int c),some (.ref nl),some (.bl b),some (.ref g),some (.ref cl),some (.ref ac),some (.ref pc),some (.str (if i=0 then "then" else ",")),v8,v9]
noncomputable def ZDw:Sp:=fun vs H Q _=>∃(c:Int) (nl:Ab) (ns:List Str) (b:Bool),vs=[.int c,.ref nl,.bl b]∧H nl=some (.lst (ns.map V.str))∧NmA ns∧∀p l v H',Same H H'→H l=none→H' p=some (.tup [.ref l,.str (shM ns (fm17 v))])→H' l=some (.lst ((enW ns (.mv v)).map V.str))→OkM42 ns.length v→Q (.ref p) H'
theorem ZF9 (T:Txt K mg t):FnS P w K mg base 10 "_law_move" ["_law_more","_law_names_here","_law_free"] (ZDw):=by
 refine⟨_,_,T.RG.ok HQ (fun vs H Q E h=>?_) (fun cdv A outer s H vs Q E hr h=>?_),T.ZoC,T.RG.kp,T.Zpk⟩
 ·obtain⟨c,nl,ns,b,rfl,hn,A,q⟩:=h
  rfl
 obtain⟨c,nl,ns,b,rfl,hn,A,q⟩:=h;have Zqa:=ZyQ (P:=P) (w:=w) (base:=base) T;have ZlC:=ZqF (P:=P) (w:=w) (base:=base) T;have JD:=bj (P:=P) (w:=w) (base:=base) T 3;have bz:=Zzi (P:=P) (w:=w) (base:=base) (n:=3) T;have h1:=A.n1;have h6:=A.n6
 refine⟨_,(Ai (Kr (Bj Zqa hr (Ac (pv 0) (Ac (pv 1) Af))) (Iv rfl (Fb (sg 3 HQ.nd) (Fb (sg 4 HQ.nd) Iu))))
   (Ai (Bl (DX (pv 2) (fun _=>rfl))
   (Ah (Kr (Bj ZlC hr (Ac (Br (Ac (pv 0) Af)) (Ac (pv 1) Af))) (Iv rfl (Fb (sg 3 HQ.nd) (Fb (sg 4 HQ.nd) Iu)))))
   Bq)
   (Ai (ss 5 HQ.nd (Aj BJ (Br (Ac Am Af)) (Bj JD hr (Ac (pv 3) (Ac (pv 1) (Ac Fo Af))))))
   (Ai (ss 6 HQ.nd (Br Af))
   (Ai (ss 7 HQ.nd Am)
   (Ai (Dd Cz rfl (Et (pv 4)) (Iv rfl (Fb (sg 8 HQ.nd) (Fb (sg 9 HQ.nd) Iu)))
   (Ai (ss 5 HQ.nd (Aj BJ (Aj BJ (pv 5) (Br (Ac (pv 7) (Ac (pv 8) (Ac Am Af))))) (Bj JD hr (Ac (pv 9) (Ac (pv 1) (Ac Fo Af))))))
   (Ai (Dc (CG Ds Eg Em Ea (pv 6) (Ac (Aj BJ (Aj BJ (pv 8) Am) (Bj bz hr (Ac (pv 9) (Ac (pv 1) Af)))) Af)))
   (Ah (ss 7 HQ.nd Am)))))
   (Ah (Av (Eh (Ac (pv 5) (Ac (Aj BJ (Aj BJ (Aj BJ Am (Bj bz hr (Ac (pv 3) (Ac (pv 1) Af)))) Am) (CG HB Ld Le KC Am (Ac (pv 6) Af))) Af))))))))))),?_⟩
 walk_at "rs0";refine Hq ?_;walk_at "rs";refine⟨c,nl,ns,rfl,hn,h1,h6,fun p0 v0 H0 s0 C0 ok0=>?_⟩;obtain⟨g0,l0,hs0,e0,f0,el0,t0,pp0⟩:=C0;refine Jb e0 ?_
 dsimp only
 refine GF (fun σ H'=>∃(g cl:Ab) (hs:List Ab) (v:Tr×List (Nat×Tr)),Same H H'∧H cl=none∧H' cl=some (.lst (hs.map V.ref))∧TwAt (fun l=>H l=none) H' 3 g v.1∧Bs (CgS (fun l=>H l=none) ns H') hs v.2∧OkM42 ns.length v∧σ=[some (.int c),some (.ref nl),some (.bl b),some (.ref g),some (.ref cl),none,none,none,none,none]) ?_ ?_
 rotate_left
 ·intro Kn hK
  walk_at "rs"
  cases b with
  | false=>
   refine Ba rfl ?_;walk_at "rs";exact hK _ _ ⟨g0,l0,hs0,v0,s0,f0,el0,t0,pp0,ok0,rfl⟩
  | true=>
   refine Cg rfl ?_;walk_at "rs";refine BR (by simp) fun bag H1 s1 n1 e1=>?_;walk_at "rs";have hn1:=(s0.trans s1) _ _ hn;refine⟨bag,nl,c,ns,rfl,e1,hn1,Bw (s0 _ _ hn) n1,h1,h6,fun p2 v2 H2 b2 C2 ok2=>?_⟩;obtain⟨g2,l2,hs2,e2,f2,el2,t2,pp2⟩:=C2;refine Jb e2 ?_;have s01:=s0.trans s1;exact hK _ _ ⟨g2,l2,hs2,v2,b2.same (s0.free n1) s01,s01.free f2,el2,t2.imp (fun _ _ e=>e) (fun _ _ sl e=>⟨s01.free sl,e⟩),BV (fun _ _ x=>x.imp (fun _ _ e=>e) (fun _ _ sl e=>⟨s01.free sl,e⟩)) pp2,ok2,rfl⟩
 clear pp0 t0 el0 f0 e0 ok0 s0;rintro σ H1 ⟨g,cl,hs,v,s1,ncl,ecl,t1,pp1,ok,rfl⟩;have hln:=Dj pp1;have l6:=ok.o.l6;walk_at "";refine BR (by simp) fun a2 H2 s2 n2 e2=>?_;walk_at "";refine⟨g,nl,true,v.1,ns,rfl,(t1.same s2).any,(s1.trans s2) _ _ hn,ok.o.gd.1,by have:=ok.g13; omega,fun a3 H3 s3 n3 e3=>?_⟩;have w0:=wl17 (ns:=ns) ok.o.gd.2;refine K5 (s3 _ _ e2) e3 (by rw[Ax]; simp; omega) fun a4 H4 s4 n4 e4=>?_;walk_at "";refine BR (by simp) fun pc H5 s5 n5 e5=>?_;walk_at "";have s15:=s2.trans (s3.trans (s4.trans s5));have c5:=s1.trans s15;have npc:H pc=none:=(s1.trans (s2.trans (s3.trans s4))).free n5;have e45:H5 a4=some (.lst ((("move" : Str)::wdG true ns v.1).map V.str)):=s5 _ _ e4;have clpc:cl≠pc:=Bw ((s2.trans (s3.trans s4)) _ _ ecl) n5;have t5:TwAt (· ≠ pc) H5 3 g v.1:=t1.imp (fun _ _ e=>s15 _ _ e) (fun l xs _ e=>⟨Bw ((s2.trans (s3.trans s4)) _ _ e) n5,s15 _ _ e⟩);have pp5:Bs (CgS (· ≠ pc) ns H5) hs v.2:=BV (fun _ _ x=>x.imp (fun _ _ e=>s15 _ _ e) (fun l xs _ e=>⟨Bw ((s2.trans (s3.trans s4)) _ _ e) n5,s15 _ _ e⟩)) pp1;have ecl5:=s15 _ _ ecl;have c5n:=c5 _ _ hn;clear pp1 t1;refine seqL (xs:=hs.map V.ref) (IvE ns c nl b g cl pc hs v H) ⟨a4,_,_,c5,(s1.trans (s2.trans s3)).free n4,by rw[e45]; simp[tlW],by rw[e5]; rfl,ecl5,t5,pp5,by simp[tlW]; omega,rfl⟩ (fun i σ H' _ hp=>by obtain⟨_,_,_,_,_,_,_,h,_⟩:=hp; exact SqL.of h) ?_ ?_
 ·rintro i x σ H6 hx ⟨ac,v8,v9,s6,nac,ea,ep,ecl6,t6,pp6,hwl,rfl⟩
  obtain⟨h,rfl,hh⟩:=FQ hx;obtain⟨d,hd,p,eh,tp⟩:=Jf pp6 hh;have hdm:=Dm hd;have okd:=ok.o.cs d hdm;have d13:=ok.c13 d hdm;have hi:=(Ej.mp hd).1;have wd:=wl17 (ns:=ns) okd.1.2;have hn6:=s6 _ _ hn;refine Jb eh ?_;walk_at "";refine BR (by simp) fun a7 H7 s7 n7 e7=>?_;walk_at "";refine K5 (s7 _ _ ea) e7 (by simp; simp at hwl; omega) fun a8 H8 s8 n8 e8=>?_;walk_at "";have s68:=s7.trans s8;refine⟨p,nl,true,d.2,ns,rfl,(tp.same s68).any,s68 _ _ hn6,okd.1.1,by omega,fun a9 H9 s9 n9 e9=>?_⟩;refine K5 (s9 _ _ e8) e9 (by simp; simp at hwl; omega) fun aa Ha sa na ea'=>?_;walk_at "";have s6a:=s68.trans (s9.trans sa);refine⟨tyL (s6a _ _ ep),?_⟩;walk_at "";have nm8:=(A.nmL okd.2).2;have h12:=bx A d13;refine Ew (Ca (by have:Cq " is " = 4:=rfl; omega)) ?_;walk_at "";refine⟨p,nl,d.2,ns,rfl,(tp.same s6a).any,s6a _ _ hn6,okd.1.1,by omega,fun k hk=>A.nmL hk,fun z Hb sb hz=>?_⟩;have ez:=sh42 A okd.1.1 hz;subst ez;refine Ew (Ca (by rw[Ce]; have:Cq " is " = 4:=rfl; omega)) ?_;walk_at "";have s6b:=s6a.trans sb;have epb:=s6b _ _ ep;refine Eu epb (by simp; omega) fun Hc bc ec=>?_;walk_at "";have tk:=Ff hd;have acpc:aa≠pc:=(Bw ((s68.trans s9) _ _ ep) na).symm;refine⟨aa,some (.str (ns.getD d.1 BK)),some (.ref p),bc.same npc (s6.trans s6b),(s6.trans (s68.trans s9)).free na,?_,?_,bc _ _ clpc (s6b _ _ ecl6),t6.imp (fun q xs e=>bc _ _ (Ci (s6b _ _ e) epb (by intro z; cases z)) (s6b _ _ e)) (fun l xs sl e=>⟨sl,bc _ _ sl (s6b _ _ e)⟩),BV (fun _ _ x=>x.imp (fun q xs e=>bc _ _ (Ci (s6b _ _ e) epb (by intro z; cases z)) (s6b _ _ e)) (fun l xs sl e=>⟨sl,bc _ _ sl (s6b _ _ e)⟩)) pp6,?_,?_⟩
  ·rw[bc _ _ acpc (sb _ _ ea'),tk,ZxS]
   have hti:(v.2.take i=[]) ↔ i=0:=by
    constructor
    ·intro h
     have:=congrArg K7 h;rw[Gu,Gw]at this;omega
    ·rintro rfl
     rfl
   by_cases h0:i=0
   ·rw[if_pos h0,if_pos (hti.mpr h0)]
    simp[pc17]
   ·rw[if_neg h0,if_neg (fun h=>h0 (hti.mp h))]
    simp[pc17]
  ·rw[ec,tk,Cp,Cp]
   rfl
  ·rw[tk,ZxS]
   simp[pc17];simp at hwl;omega
  ·rw[if_neg (by omega)]
 ·rintro σ H6 ⟨ac,v8,v9,s6,nac,ea,ep,ecl6,t6,pp6,hwl,rfl⟩
  have hn6:=s6 _ _ hn;have tf:v.2.take (hs.map V.ref).length=v.2:=Ub (by rw[Ax]; omega);rw[tf]at ea ep hwl;walk_at "";have h12:=bx A ok.g13;refine⟨g,nl,v.1,ns,rfl,t6.any,hn6,ok.o.gd.1,by have:=ok.g13; omega,fun k hk=>A.nmL hk,fun z Hb sb hz=>?_⟩;have ez:=sh42 A ok.o.gd.1 hz;subst ez;have k5:Cq "move " = 5:=rfl;have k6:Cq " then " = 6:=rfl;refine Ew (Ca (by omega)) ?_;walk_at "";refine Ew (Ca (by rw[Ce]; omega)) ?_;walk_at "";refine⟨tyS,?_⟩;walk_at ""
  have jb:=TF (B:=2012) (z:=", ") (ts:=v.2.map fun c=>Ka ns (c.1,fmT id c.2)) (fun y hy=>by
   obtain⟨d,hd,rfl⟩:=Fx.mp hy;have a:=(A.nmL (ok.o.cs d hd).2).2;have b:=bx A (ok.c13 d hd);show(_++_++_:Str).length≤_;rw[Ce,Ce];have:Cq " is " = 4:=rfl;show(ns.getD d.1 BK).length+_+(Dk ns (fmT id d.2)).length≤_
   omega) (by decide) (by decide) (by rw[Ax]; omega)
  refine⟨_,pc,_,rfl,rfl,SqL.of (sb _ _ ep),jb.1,?_⟩;refine Ew (Ca (by rw[Ce,Ce]; have:=jb.2; omega)) ?_;walk_at "";refine Ey (by simp) fun p Hc sc nc ec=>?_;have l1:=ok.o.l1;refine q p ac v Hc (s6.trans (sb.trans sc)) nac ?_ ?_ ok
  ·rw[ec]
   show _=some (HO.tup [V.ref ac,V.str (("move " : Str)++Dk ns (fmT id v.1)++" then "++Txt.join ", " ((v.2.map fun c=>(c.1,fmT id c.2)).map (Ka ns)))]);rw[K9];rfl
  ·rw[(sb.trans sc) _ _ ea]
   have hne:v.2≠[]:=fun e=>by rw[e]at l1; simp at l1
   unfold tlW;rw[if_neg hne];rfl
end
unseal PE PA PS PSs
noncomputable def stL (ns:List Str) (f:Fm):Str:=("start " : Str)++Dk ns f
noncomputable def bdL (ns:List Str) (f:Fm):Str:=("bad " : Str)++Dk ns f
structure MdW (H:Hp) (mo a0 a1 a2 a3:Ab) (M:Mc):Prop where
 em:H mo=some (.lst [.ref a0,.ref a1,.ref a2,.ref a3])
 e0:H a0=some (.lst (M.ns.map V.str))
 e1:H a1=some (.lst ((M.ss.map (stL M.ns)).map V.str))
 e2:H a2=some (.lst ((M.bs.map (bdL M.ns)).map V.str))
 e3:H a3=some (.lst ((M.us.map (shM M.ns)).map V.str))
 n01:a0≠a1
 n02:a0≠a2
 n03:a0≠a3
 n12:a1≠a2
 n13:a1≠a3
 n23:a2≠a3
theorem cg {H:Hp} {mo a:Ab} {x:Ab} {xs:List V} {ys:List Str} (h:H mo=some (.lst (.ref x::xs))) (h':H a=some (.lst (ys.map V.str))):mo≠a:=Ci h h' fun z=>by
 cases ys with
 | nil=>cases z
 | cons y r=>cases z
theorem MdW.no {H:Hp} {mo a0 a1 a2 a3:Ab} {M:Mc} (D:MdW H mo a0 a1 a2 a3 M):mo≠a0∧mo≠a1∧mo≠a2∧mo≠a3:=⟨cg D.em D.e0,cg D.em D.e1,cg D.em D.e2,cg D.em D.e3⟩
theorem MdW.same {H H':Hp} {mo a0 a1 a2 a3:Ab} {M:Mc} (D:MdW H mo a0 a1 a2 a3 M) (s:Same H H'):MdW H' mo a0 a1 a2 a3 M:=⟨s _ _ D.em,s _ _ D.e0,s _ _ D.e1,s _ _ D.e2,s _ _ D.e3,D.n01,D.n02,D.n03,D.n12,D.n13,D.n23⟩
noncomputable def lnI (M:Mc) (i:Nat):List Str:=[("lamps " : Str)++Txt.join " " M.ns]++(if 1≤i then M.ss.map (stL M.ns) else [])++(if 2≤i then M.bs.map (bdL M.ns) else [])++(if 3≤i then M.us.map (shM M.ns) else [])
theorem ZyN {M:Mc} (n6:M.ns.length≤6) (n8:∀z∈M.ns,z.length≤8):Kp " " M.ns=true∧(Txt.join " " M.ns).length≤180:=TF (B:=8) n8 (by decide) (by decide) (by omega)
seal PE PA PS PSs
section
variable {P:Bp} {w:Bg} {K:Ao} {mg:Str→Option Ae} {base:Aq} {t:Ad} {n:Nat}
noncomputable def ZBP (t:Ad):Sp:=fun vs H Q _=>∃(mo a0 a1 a2 a3:Ab) (M:Mc),vs=[.ref mo]∧MdW H mo a0 a1 a2 a3 M∧McOk t M∧∀H',Same H H'→Q (.str (Txt.join "; " (Ik M.ns M.ss M.bs M.us))) H'
theorem Zxw (T:Txt K mg t):FnS P w K mg base 1 "_law_shown" ["_law_model"] ((ZBP t)):=by
 refine⟨_,_,T.RJ.ok Xi (fun vs H Q E h=>?_) (fun cdv A outer s H vs Q E hr h=>?_),T.Znu,T.RJ.kp,T.ZnJ⟩
 ·obtain⟨mo,a0,a1,a2,a3,M,rfl,D,ok,q⟩:=h
  rfl
 obtain⟨mo,a0,a1,a2,a3,M,rfl,D,ok,q⟩:=h;have nj:=ZyN ok.n6 ok.n8;have k6:Cq "lamps " = 6:=rfl
 refine⟨_,(Ai (ss 1 Xi.nd (Br (Ac (Aj BJ Am (CG HB Ld Le KC Am (Ac (Bm Bo (pv 0) Ag (fun _ _=>rfl)) Af))) Af)))
   (Ai (Dd Cz rfl (mj rfl T.B.range (Ac Ag (Ac Ag Af))) (sg 2 Xi.nd)
   (Ah (ss 1 Xi.nd (Aj BJ (pv 1) (Bm Bo (pv 0) (pv 2) (fun _ _=>rfl))))))
   (Ah (Av (CG HB Ld Le KC Am (Ac (pv 1) Af)))))),?_⟩
 walk_at "rd0";refine⟨tyS,?_⟩;walk_at "";refine By (j:=0) D.em (v:=.ref a0) rfl ?_;walk_at "";refine⟨_,a0,_,rfl,rfl,SqL.of D.e0,nj.1,?_⟩;refine Ew (Ca (by omega)) ?_;walk_at "";refine BR (by simp) fun l1 H1 s1 n1 e1=>?_;walk_at "";refine⟨1,4,rfl,by omega,?_⟩;rw[show((4:Int) - 1).toNat=3 by decide];have c1:=ok.c1;have c2:=ok.c2;have c3:=ok.c3;refine Uq (fun i σ H'=>∃(ac:Ab) (v2:Option V),Same H H'∧H' ac=some (.lst ((lnI M i).map V.str))∧σ=[some (.ref mo),some (.ref ac),v2]) ⟨l1,_,s1,by rw[e1]; simp[lnI],rfl⟩ ?_ ?_
 ·rintro i σ H2 hi ⟨ac,v2,s2,ea,rfl⟩
  have D2:=D.same s2;rw[show(1:Int)+(i:Int)=((i+1:Nat):Int) by omega];walk_at ""
  obtain rfl | rfl | rfl:i=0∨i=1∨i=2:=by omega
  ·refine By (j:=1) D2.em (v:=.ref a1) rfl ?_
   walk_at "";refine K5 ea D2.e1 (by simp[lnI]; omega) fun p H3 s3 n3 e3=>?_;walk_at "";exact⟨p,_,s2.trans s3,by rw[e3]; simp[lnI],rfl⟩
  ·refine By (j:=2) D2.em (v:=.ref a2) rfl ?_
   walk_at "";refine K5 ea D2.e2 (by simp[lnI]; omega) fun p H3 s3 n3 e3=>?_;walk_at "";exact⟨p,_,s2.trans s3,by rw[e3]; simp[lnI],rfl⟩
  ·refine By (j:=3) D2.em (v:=.ref a3) rfl ?_
   walk_at "";refine K5 ea D2.e3 (by simp[lnI]; omega) fun p H3 s3 n3 e3=>?_;walk_at "";exact⟨p,_,s2.trans s3,by rw[e3]; simp[lnI],rfl⟩
 ·rintro σ H2 ⟨ac,v2,s2,ea,rfl⟩
  have el:lnI M 3=Ik M.ns M.ss M.bs M.us:=by
   unfold lnI Ik stL bdL;simp
  rw[el]at ea;walk_at "";refine⟨tyS,?_⟩;walk_at "";refine⟨_,ac,_,rfl,rfl,SqL.of ea,Zpf ok,?_⟩;exact q H2 s2
noncomputable def ZBC:Sp:=fun vs H Q _=>∃(mo:Ab) (x0 x1 x2 x3:V) (c:Int),vs=[.ref mo,.int c]∧H mo=some (.lst [x0,x1,x2,x3])∧∀p l a0 a1 a2 a3 ns H',But mo H H'→MdW H' mo a0 a1 a2 a3 ⟨ns,[],[],[]⟩ →(∀y∈[a0,a1,a2,a3],H y=none)→NmA ns→H' p=some (.tup [.ref l,.str "ok"])→H' l=some (.lst ((("lamps" : Str)::ns).map V.str))→Q (.ref p) H'
theorem Zxu (T:Txt K mg t):FnS P w K mg base 7 "_law_begun" ["_law_model","_law_cell"] (ZBC):=by
 refine⟨_,_,T.RK.ok Zmo (fun vs H Q E h=>?_) (fun cdv A outer s H vs Q E hr h=>?_),T.Znp,T.RK.kp,T.ZnE⟩
 ·obtain⟨mo,x0,x1,x2,x3,c,rfl,hm,q⟩:=h
  rfl
 obtain⟨mo,x0,x1,x2,x3,c,rfl,hm,q⟩:=h;have ZsZ:=ZDb (P:=P) (w:=w) (base:=base) T;obtain⟨k,hk,hk6⟩ : ∃k:Nat,c % 6=(k:Int)∧k < 6:=⟨(c % 6).toNat,by omega,by omega⟩
 refine⟨_,(Ai (Kr (Bj ZsZ hr (Ac (Aj BJ Ag (Aj Cv (pv 1) Ag)) (Ac (Aj Eo (pv 1) Ag) Af))) (lr (pv 0) Ag o5))
   (Ai (Dd Cz rfl (mj rfl T.B.range (Ac Ag (Ac Ag Af))) (sg 2 Zmo.nd)
   (Ah (Kr (Br Af) (lr (pv 0) (pv 2) o5))))
   (Ah (Av (Eh (Ac (Aj BJ (Br (Ac Am Af)) (Bm Bo (pv 0) Ag (fun _ _=>rfl))) (Ac Am Af))))))),?_⟩
 walk_at "rd0";rw[hk,show(1:Int)+(k:Int)=((1+k:Nat):Int) by omega];refine⟨1+k,_,rfl,by omega,fun a0 ns H1 s1 n1 e1 hnl hnm hnd=>?_⟩;walk_at "";refine t7 (j:=0) (s1 _ _ hm) (by simp) fun H2 b2 e2=>?_;walk_at "";have A:NmA ns:=⟨hnm,hnd,by omega,by omega⟩;have n0m:a0≠mo:=(Bw hm n1).symm;refine⟨1,4,rfl,by omega,?_⟩;rw[show((4:Int) - 1).toNat=3 by decide];refine Uq (fun i σ H'=>∃(as:List Ab) (v2:Option V),as.length=i∧But mo H H'∧H' mo=some (.lst (.ref a0::(as.map V.ref++[x1,x2,x3].drop i)))∧H' a0=some (.lst (ns.map V.str))∧(∀a∈as,H a=none∧H' a=some (.lst [])∧a≠a0)∧as.Nodup∧σ=[some (.ref mo),some (.int c),v2]) ⟨[],_,rfl,fun b u hb e=>b2 _ _ hb (s1 _ _ e),by rw[e2]; rfl,b2 _ _ n0m e1,(fun a ha=>by cases ha),Wm,rfl⟩ ?_ ?_
 ·rintro i σ H3 hi ⟨as,v2,hal,b3,em3,e03,hA,nd,rfl⟩
  rw[show(1:Int)+(i:Int)=((i+1:Nat):Int) by omega];walk_at "";refine BR (by simp) fun a H4 s4 n4 e4=>?_;walk_at "";have em4:=s4 _ _ em3;refine t7 (j:=i+1) em4 (by simp; omega) fun H5 b5 e5=>?_;walk_at "";have nam:a≠mo:=(Bw em3 n4).symm
  have na:H a=none:=by
   cases e:H a with
   | none=>rfl
   | some u=>rw[b3 _ _ nam e]at n4; cases n4
  refine⟨as++[a],_,by rw[CZ,hal]; rfl,fun b u hb e=>b5 _ _ hb (s4 _ _ (b3 _ _ hb e)),?_,b5 _ _ n0m (s4 _ _ e03),?_,?_,rfl⟩
  ·rw[e5]
   clear hA b3 em3 em4 nd e5;subst hal;rcases as with _|⟨_,_|⟨_,_|⟨_,_⟩⟩⟩;rfl;rfl;rfl;simp at hi;omega
  ·intro y hy
   rcases Er.mp hy with hy | hy
   ·obtain⟨h1,h2,h3⟩:=hA y hy
    exact⟨h1,b5 _ _ (Ci h2 em3 (by intro z; cases z)) (s4 _ _ h2),h3⟩
   ·rw[Ck.mp hy]
    exact⟨na,b5 _ _ nam e4,(Bw e03 n4).symm⟩
  ·rw[Uj]
   refine⟨nd,by simp,fun y hy y' hy' e=>?_⟩;rw[Ck.mp hy']at e;rw[e]at hy;rw[(hA a hy).2.1]at n4
   cases n4
 ·rintro σ H3 ⟨as,v2,hal,b3,em3,e03,hA,nd,rfl⟩
  obtain⟨a1,a2,a3,rfl⟩ : ∃a1 a2 a3,as=[a1,a2,a3]:=by
   match as,hal with
   | [a1,a2,a3],_=>exact⟨a1,a2,a3,rfl⟩
  simp only [EY,Bu,Fl,or_false,not_or,Wm,not_false_eq_true,and_true]at nd;have k1:=hA a1 (by simp);have k2:=hA a2 (by simp);have k3:=hA a3 (by simp);have D:MdW H3 mo a0 a1 a2 a3 ⟨ns,[],[],[]⟩:=⟨em3,e03,k1.2.1,k2.2.1,k3.2.1,k1.2.2.symm,k2.2.2.symm,k3.2.2.symm,nd.1.1,nd.1.2,nd.2⟩;walk_at "";refine BR (by simp) fun l4 H4 s4 n4 e4=>?_;walk_at "";refine By (j:=0) (s4 _ _ em3) (v:=.ref a0) rfl ?_;walk_at "";refine K5 e4 (s4 _ _ e03) (by simp; omega) fun l5 H5 s5 n5 e5=>?_;walk_at "";refine Ey (by simp) fun p H6 s6 n6 e6=>?_;have s36:=s4.trans (s5.trans s6);refine q p l5 a0 a1 a2 a3 ns H6 (fun b u hb e=>s36 _ _ (b3 _ _ hb e)) (D.same s36) ?_ A e6 (s6 _ _ e5);intro y hy;simp only [Bu,Fl,or_false]at hy
  rcases hy with rfl | rfl | rfl | rfl
  ·exact n1
  ·exact k1.1
  ·exact k2.1
  ·exact k3.1
noncomputable def ZJ9 (t:Ad):Sp:=fun vs H Q _=>∃(x l:Ab) (ws:List Str) (due:Str) (c:Int) (o o':Option Mc),vs=[.ref x,.ref l,.str due,.int c]∧DkW t H x o∧H l=some (.lst (ws.map V.str))∧ws≠[]∧(∀z∈ws,WdX z)∧ws.length≤900∧Say t o ws o' due∧∀H',But x H H'→DkW t H' x o'→Q (.bl true) H'
theorem ZyO (T:Txt K mg t):FnS P w K mg base 78 "_law_answers" ["_law_desk","_law_some","_law_due","_law_seed"] ((ZJ9 t)):=by
 refine⟨_,_,T.RM.ok ZjN (fun vs H Q E h=>?_) (fun cdv A outer s H vs Q E hr h=>?_),T.ZkB,T.RM.kp,T.ZkI⟩
 ·obtain⟨x,l,ws,due,c,o,o',rfl,D,hl,hne,hw,hz,S,q⟩:=h
  rfl
 obtain⟨x,l,ws,due,c,o,o',rfl,D,hl,hne,hw,hz,S,q⟩:=h;have Zrv:=ZAW (P:=P) (w:=w) (base:=base) T;have D_say:=ZB8 (P:=P) (w:=w) (base:=base) T
 refine⟨_,(Ai (ss 4 ZjN.nd (Eb D_say hr (pv 0) (Ac (Bj Zrv hr (Ac (pv 1) (Ac (pv 3) Af))) Af)))
   (Ah (Av (km (Dh WQ rfl T.B.isinstance WR (Ac (pv 4) (Ac (Wt (v:=.ty "str") rfl T.B.str ZHl rfl) Af))) (kh (Jp (BL hr.units) (pv 4) (pv 2) (Bd _))))))),?_⟩
 walk_at "rd0"
 have ob:∃dx v,H x=some (.ins t.CP dx (dkF v)):=by
  cases o with
  | none=>obtain⟨dx,e⟩:=D; exact⟨dx,_,e⟩
  | some M=>obtain⟨dx,m,e,_⟩:=D; exact⟨dx,_,e⟩
 obtain⟨dx,v,ob⟩:=ob;refine⟨x,_,_,_,rfl,ob,rfl,rfl,?_⟩;walk_at "";refine⟨l,ws,c,rfl,hl,hw,hz,fun z z1 z2 z3=>?_⟩;walk_at "";refine⟨ob,x,z,o,o',ws,due,rfl,D,⟨ZHg z1,z2,GK.mpr z1,z3,hne⟩,S,fun H1 b1 D1=>?_⟩;walk_at "";refine Cg rfl ?_;walk_at "";rw[decide_eq_true rfl];exact q H1 b1 D1
end
unseal PE PA PS PSs
noncomputable def srtN:Srt→Nat
 | .s=>1
 | .b=>2
 | .m=>3
noncomputable def adS (a1 a2 a3:Ab):Srt→Ab
 | .s=>a1
 | .b=>a2
 | .m=>a3
noncomputable def Mc.lns (M:Mc):Srt→List Str
 | .s=>M.ss.map (stL M.ns)
 | .b=>M.bs.map (bdL M.ns)
 | .m=>M.us.map (shM M.ns)
theorem ZFW (M:Mc) (s:Srt):(M.lns s).length=M.num s:=by
 cases s <;> simp[Mc.lns,Mc.num]
theorem MdW.get {H:Hp} {mo a0 a1 a2 a3:Ab} {M:Mc} (D:MdW H mo a0 a1 a2 a3 M) (s:Srt):([.ref a0,.ref a1,.ref a2,.ref a3]:List V)[srtN s]?=some (.ref (adS a1 a2 a3 s))∧H (adS a1 a2 a3 s)=some (.lst ((M.lns s).map V.str)):=by
 cases s
 ·exact⟨rfl,D.e1⟩
 ·exact⟨rfl,D.e2⟩
 ·exact⟨rfl,D.e3⟩
theorem MdW.put {H H':Hp} {mo a0 a1 a2 a3:Ab} {M M':Mc} (D:MdW H mo a0 a1 a2 a3 M) {s:Srt} (b:But (adS a1 a2 a3 s) H H') (e:H' (adS a1 a2 a3 s)=some (.lst ((M'.lns s).map V.str))) (hn:M'.ns=M.ns) (ho:∀s',s'≠s→M'.lns s'=M.lns s'):MdW H' mo a0 a1 a2 a3 M':=by
 obtain⟨m0,m1,m2,m3⟩:=D.no
 cases s with
 | s=>
  have h2:=ho .b (by intro z; cases z);have h3:=ho .m (by intro z; cases z);exact⟨b _ _ m1 D.em,by rw[hn]; exact b _ _ D.n01 D.e0,e,by rw[show(M'.bs.map (bdL M'.ns))=M.bs.map (bdL M.ns) from h2]; exact b _ _ D.n12.symm D.e2,by rw[show(M'.us.map (shM M'.ns))=M.us.map (shM M.ns) from h3]; exact b _ _ D.n13.symm D.e3,D.n01,D.n02,D.n03,D.n12,D.n13,D.n23⟩
 | b=>
  have h1:=ho .s (by intro z; cases z);have h3:=ho .m (by intro z; cases z);exact⟨b _ _ m2 D.em,by rw[hn]; exact b _ _ D.n02 D.e0,by rw[show(M'.ss.map (stL M'.ns))=M.ss.map (stL M.ns) from h1]; exact b _ _ D.n12 D.e1,e,by rw[show(M'.us.map (shM M'.ns))=M.us.map (shM M.ns) from h3]; exact b _ _ D.n23.symm D.e3,D.n01,D.n02,D.n03,D.n12,D.n13,D.n23⟩
 | m=>
  have h1:=ho .s (by intro z; cases z);have h2:=ho .b (by intro z; cases z);exact⟨b _ _ m3 D.em,by rw[hn]; exact b _ _ D.n03 D.e0,by rw[show(M'.ss.map (stL M'.ns))=M.ss.map (stL M.ns) from h1]; exact b _ _ D.n13 D.e1,by rw[show(M'.bs.map (bdL M'.ns))=M.bs.map (bdL M.ns) from h2]; exact b _ _ D.n23 D.e2,e,D.n01,D.n02,D.n03,D.n12,D.n13,D.n23⟩
theorem ZFc (M:Mc) (s:Srt):(M.cut s).lns s=(M.lns s).dropLast∧(M.cut s).ns=M.ns∧∀s',s'≠s→(M.cut s).lns s'=M.lns s':=by
 cases s
 ·exact⟨Ybe ..,rfl,fun s' h=>by cases s'; exact absurd rfl h; rfl; rfl⟩
 ·exact⟨Ybe ..,rfl,fun s' h=>by cases s'; rfl; exact absurd rfl h; rfl⟩
 ·exact⟨Ybe ..,rfl,fun s' h=>by cases s'; rfl; rfl; exact absurd rfl h⟩
theorem McOk.cut {t:Ad} {M:Mc} (o:McOk t M) (s:Srt):McOk t (M.cut s):=by
 cases s
 ·exact⟨o.n1,o.n6,o.n8,fun f hf=>o.k1 f ((Wq _).subset hf),o.k2,o.k3,o.nd,by show M.ss.dropLast.length≤8; rw[T9]; have:=o.c1; omega,o.c2,o.c3⟩
 ·exact⟨o.n1,o.n6,o.n8,o.k1,fun f hf=>o.k2 f ((Wq _).subset hf),o.k3,o.nd,o.c1,by show M.bs.dropLast.length≤8; rw[T9]; have:=o.c2; omega,o.c3⟩
 ·exact⟨o.n1,o.n6,o.n8,o.k1,o.k2,fun v hv=>o.k3 v ((Wq _).subset hv),fun v hv=>o.nd v ((Wq _).subset hv),o.c1,o.c2,by show M.us.dropLast.length≤8; rw[T9]; have:=o.c3; omega⟩
noncomputable def srtE:EnT→Srt
 | .st _=>.s
 | .bd _=>.b
 | .mv _=>.m
noncomputable def ZId (ns:List Str):EnT→Str
 | .st g=>stL ns (fmT id g)
 | .bd g=>bdL ns (fmT id g)
 | .mv v=>shM ns (fm17 v)
noncomputable def Vz (m:Nat):EnT→Prop
 | .st g=>OkT42 m g
 | .bd g=>OkT42 m g
 | .mv v=>OkM42 m v
theorem Vz.e {m:Nat} {e:EnT} (h:Vz m e):OkE m e:=by
 cases e with
 | st g=>exact⟨h.ok,Ex h.nt (by decide)⟩
 | bd g=>exact⟨h.ok,Ex h.nt (by decide)⟩
 | mv v=>exact h.o
theorem ZE7 (M:Mc) (e:EnT):(M.add (entF e)).lns (srtE e)=M.lns (srtE e)++[ZId M.ns e]∧(M.add (entF e)).ns=M.ns∧∀s',s'≠srtE e→(M.add (entF e)).lns s'=M.lns s':=by
 cases e
 ·exact⟨Cp ..,rfl,fun s' h=>by cases s'; exact absurd rfl h; rfl; rfl⟩
 ·exact⟨Cp ..,rfl,fun s' h=>by cases s'; rfl; exact absurd rfl h; rfl⟩
 ·exact⟨Cp ..,rfl,fun s' h=>by cases s'; rfl; rfl; exact absurd rfl h⟩
theorem ZE6 (M:Mc) (e:EnT):M.cnt (entF e)=M.num (srtE e):=by cases e <;> rfl
theorem cj {t:Ad} {ns:List Str} {tr:Tr} (h:okT ns.length tr=true) (h13:nT tr≤13):okS t ns (fmT id tr):=
 ⟨fun H p x=>FmE.tr tr 61 p (by omega) x,bw (fun k hk=>hk) tr h,wt42 h13⟩
theorem McOk.add {t:Ad} {M:Mc} (o:McOk t M) {e:EnT} (h:Vz M.ns.length e) (h8:M.num (srtE e) < 8):McOk t (M.add (entF e)):=by
 cases e with
 | st g=>exact⟨o.n1,o.n6,o.n8,fun f hf=>(Er.mp hf).elim (o.k1 f) fun hf=>by rw[Ck.mp hf]; exact cj h.ok h.nt,o.k2,o.k3,o.nd,by show(M.ss++[_]).length≤8; have h8:M.ss.length < 8:=h8; simp; omega,o.c2,o.c3⟩
 | bd g=>exact⟨o.n1,o.n6,o.n8,o.k1,fun f hf=>(Er.mp hf).elim (o.k2 f) fun hf=>by rw[Ck.mp hf]; exact cj h.ok h.nt,o.k3,o.nd,o.c1,by show(M.bs++[_]).length≤8; have h8:M.bs.length < 8:=h8; simp; omega,o.c3⟩
 | mv v=>
  refine⟨o.n1,o.n6,o.n8,o.k1,o.k2,fun u hu=>(Er.mp hu).elim (o.k3 u) fun hu=>?_,fun u hu=>(Er.mp hu).elim (o.nd u) fun hu=>?_,o.c1,o.c2,by show(M.us++[_]).length≤8; have h8:M.us.length < 8:=h8; simp; omega⟩
  ·rw[Ck.mp hu]
   refine⟨cj h.o.gd.1 h.g13,fun c hc=>?_,by show(v.2.map _).length≤6; rw[Ax]; exact h.o.l6⟩;have hc:c∈v.2.map fun c=>(c.1,fmT id c.2):=hc;obtain⟨c',hc',rfl⟩:=Fx.mp hc;exact⟨cj (h.o.cs c' hc').1.1 (h.c13 c' hc'),(h.o.cs c' hc').2⟩
  ·rw[Ck.mp hu]
   show((v.2.map fun c=>(c.1,fmT id c.2)).map Ge).Nodup;rw[K9];exact h.o.nd
theorem ZB4:WdX "start"∧WdX "bad"∧WdX "move"∧WdX "then"∧WdX "is"∧WdX ","∧WdX "lamps"∧WdX "show"∧WdX "drop"∧WdX "always"∧WdX "yes":=by
 refine⟨?_,?_,?_,?_,?_,?_,?_,?_,?_,?_,?_⟩ <;> exact⟨by unfold Wd3; decide,by decide⟩
theorem ZHs {ns:List Str} (A:NmA ns) {e:EnT} (h:OkE ns.length e):∀z∈enW ns e,WdX z:=by
 obtain⟨w1,w2,w3,w4,w5,w6,_⟩:=ZB4
 cases e with
 | st g=>exact fun z hz=>(Bu.mp hz).elim (fun e=>e ▸ w1) (bu A h.1 z)
 | bd g=>exact fun z hz=>(Bu.mp hz).elim (fun e=>e ▸ w2) (bu A h.1 z)
 | mv v=>
  intro z hz
  rcases Bu.mp hz with rfl | hz
  ·exact w3
  rcases Er.mp hz with hz | hz
  ·exact bu A h.gd.1 z hz
  rcases Bu.mp hz with rfl | hz
  ·exact w4
  refine ZrY (Pz:=WdX) w6 (fun p hp z hz=>?_) z hz;obtain⟨c,hc,rfl⟩:=Fx.mp hp
  rcases Bu.mp hz with rfl | hz
  ·exact(A.wd _ (A.get (h.cs c hc).2)).x
  rcases Bu.mp hz with rfl | hz
  ·exact w5
  ·exact bu A (h.cs c hc).1.1 z hz
theorem ZFg {ns:List Str} {e:EnT} (h:Vz ns.length e):(enW ns e).length≤900∧enW ns e≠[]:=by
 have wl:∀tr:Tr,nT tr≤13→(wdG true ns tr).length≤60:=fun tr h=>by
  have:=K3 true ns tr;omega
 cases e with
 | st g=>exact⟨by show(_::_).length≤900; have:=wl g h.nt; simp; omega,by simp[enW]⟩
 | bd g=>exact⟨by show(_::_).length≤900; have:=wl g h.nt; simp; omega,by simp[enW]⟩
 | mv v=>
  refine⟨?_,by simp[enW]⟩;have a:=wl v.1 h.g13
  have b:=ZrZ "," (B:=62) (ps:=v.2.map (pc17 ns)) (fun p hp=>by
   obtain⟨c,hc,rfl⟩:=Fx.mp hp;have:=wl c.2 (h.c13 c hc);show(_::_::_).length≤62;simp
   omega)
  have c:=h.o.l6;rw[Ax]at b;show(_::(_++_::_)).length≤900;simp;omega
seal PE PA PS PSs
section
variable {P:Bp} {w:Bg} {K:Ao} {mg:Str→Option Ae} {base:Aq} {t:Ad} {n:Nat}
def OffM (mo a1 a2 a3:Ab) (H H':Hp):Prop:=∀b u,b≠mo→b≠a1→b≠a2→b≠a3→H b=some u→H' b=some u
theorem OffM.of {mo a1 a2 a3:Ab} {H H':Hp} (s:Same H H'):OffM mo a1 a2 a3 H H':=fun b u _ _ _ _ e=>s b u e
theorem OffM.put {mo a1 a2 a3:Ab} {H H' H'':Hp} (s:Same H H') {r:Srt} (b:But (adS a1 a2 a3 r) H' H''):OffM mo a1 a2 a3 H H'':=fun x u h1 h2 h3 h4 e=>b x u (by cases r <;> assumption) (s x u e)
structure DdW (t:Ad) (H:Hp) (mo a0 a1 a2 a3:Ab) (M:Mc) (p:Ab) (H':Hp) (l:Ab) (ws:List Str) (due:Str) (b0 b1 b2 b3:Ab) (M':Mc):Prop where
 off:OffM mo a1 a2 a3 H H'
 md:MdW H' mo b0 b1 b2 b3 M'
 ad:∀y∈[b0,b1,b2,b3],y∈[a0,a1,a2,a3]∨H y=none
 ok:McOk t M'
 nm:NmA M'.ns
 say:Say t (some M) ws (some M') due
 ne:ws≠[]
 wd:∀z∈ws,WdX z
 wl:ws.length≤900
 ep:H' p=some (.tup [.ref l,.str due])
 el:H' l=some (.lst (ws.map V.str))
theorem McOk.new {t:Ad} {ns:List Str} (A:NmA ns):McOk t ⟨ns,[],[],[]⟩:=
 ⟨A.n1,A.n6,fun z hz=>(A.nm z hz).1.2.2,(fun f hf=>by cases hf),(fun f hf=>by cases hf),(fun f hf=>by cases hf),(fun f hf=>by cases hf),De _,De _,De _⟩
noncomputable def ZJh (t:Ad):Sp:=fun vs H Q _=>∃(mo a0 a1 a2 a3:Ab) (M:Mc) (c:Int) (b:Bool),vs=[.ref mo,.int c,.bl b]∧MdW H mo a0 a1 a2 a3 M∧McOk t M∧NmA M.ns∧∀p H' l ws due b0 b1 b2 b3 M',DdW t H mo a0 a1 a2 a3 M p H' l ws due b0 b1 b2 b3 M'→Q (.ref p) H'
theorem ZDu (k:Nat) (hk:k < 7) (m3:Nat) (h3:m3 < 3):∃sv:Nat,([.int 1,.int 2,.int 3,.int 3,.int (1+(m3:Int)),.int 3,.int 0]:List V)[k]?=some (.int (sv:Int))∧(k≠6→∃s:Srt,sv=srtN s):=by
 match k,hk with
 | 0,_=>exact⟨1,rfl,fun _=>⟨.s,rfl⟩⟩
 | 1,_=>exact⟨2,rfl,fun _=>⟨.b,rfl⟩⟩
 | 2,_=>exact⟨3,rfl,fun _=>⟨.m,rfl⟩⟩
 | 3,_=>exact⟨3,rfl,fun _=>⟨.m,rfl⟩⟩
 | 4,_=>
  match m3,h3 with
  | 0,_=>exact⟨1,rfl,fun _=>⟨.s,rfl⟩⟩
  | 1,_=>exact⟨2,rfl,fun _=>⟨.b,rfl⟩⟩
  | 2,_=>exact⟨3,rfl,fun _=>⟨.m,rfl⟩⟩
 | 5,_=>exact⟨3,rfl,fun _=>⟨.m,rfl⟩⟩
 | 6,_=>exact⟨0,rfl,fun h=>absurd rfl h⟩
theorem ZGU (s:Srt):([.str "start",.str "bad",.str "move"]:List V)[srtN s - 1]?=some (.str s.wd):=by cases s <;> rfl
theorem ZIo {t:Ad} {M:Mc} (o:McOk t M) (s:Srt):M.num s≤8:=by
 cases s
 ·exact o.c1
 ·exact o.c2
 ·exact o.c3
abbrev IvM (M:Mc) (s:Srt) (mo:Ab) (c:Int) (b:Bool) (k:Nat) (mr:Int) (H0:Hp) (σ:St) (H':Hp):Prop:=∃(l:Ab) (e:EnT) (v8 v9:Option V),Same H0 H'∧H0 l=none∧H' l=some (.lst ((enW M.ns e).map V.str))∧Vz M.ns.length e∧srtE e=s∧σ=[some (.ref mo),some (.int c),some (.bl b),some (.int (k:Int)),some (.int mr),some (.int ((srtN s:Nat):Int)),some (.ref l),some (.str (ZId M.ns e)),v8,v9]
theorem ZF8 (T:Txt K mg t):FnS P w K mg base 14 "_law_deed" ["_law_model","_law_cell","_law_free"] ((ZJh t)):=by
 refine⟨_,_,T.RL.ok Jv (fun vs H Q E h=>?_) (fun cdv A outer s H vs Q E hr h=>?_),T.ZoB,T.RL.kp,T.Zpj⟩
 ·obtain⟨mo,a0,a1,a2,a3,M,c,b,rfl,D,ok,A,q⟩:=h
  rfl
 obtain⟨mo,a0,a1,a2,a3,M,c,b,rfl,D,ok,A,q⟩:=h;have ZiX:=Zxu (P:=P) (w:=w) (base:=base) T;have ZiY:=Zxw (P:=P) (w:=w) (base:=base) T;have Zvf:=ZF9 (P:=P) (w:=w) (base:=base) T;have Zvh:=ZGc (P:=P) (w:=w) (base:=base) T;have JD:=bj (P:=P) (w:=w) (base:=base) T 3;have bz:=Zzi (P:=P) (w:=w) (base:=base) (n:=3) T;obtain⟨x1,x2,x3,x4,x5,x6,x7,x8,x9,x10,x11⟩:=ZB4;have adm:∀y∈[a0,a1,a2,a3],y∈[a0,a1,a2,a3]∨H y=none:=fun y hy=>.inl hy;obtain⟨k,hk,hk8⟩ : ∃k:Nat,c % 8=(k:Int)∧k < 8:=⟨(c % 8).toNat,by omega,by omega⟩;obtain⟨m3,hm3,m33⟩ : ∃m3:Nat,c / 8 % 3=(m3:Int)∧m3 < 3:=⟨(c / 8 % 3).toNat,by omega,by omega⟩
 refine⟨_,(Ai (ss 3 Jv.nd (Aj Cv (pv 1) Ag))
   (Ai (ss 4 Jv.nd (Aj Eo (pv 1) Ag))
   (Ai (Bl (PW.pt (Gf (Ay (BL hr.units) (pv 3) Ag (Bd _)) (GR (Ay (BL hr.units) (Aj Cv (pv 4) Ag) Ag (Bd _)))))
   (Ah (Av (Bj ZiX hr (Ac (pv 0) (Ac (Aj Eo (pv 4) Ag) Af)))))
   Bq)
   (Ai (Bl (Ay (BL hr.units) (pv 3) Ag (Bd _))
   (Ah (Av (Eh (Ac (Br (Ac Am (Ac Am Af))) (Ac Am Af)))))
   Bq)
   (Ai (ss 5 Jv.nd (Bm Bo (Br (Ac Ag (Ac Ag (Ac Ag (Ac Ag (Ac (Aj BJ Ag (Aj Cv (pv 4) Ag)) (Ac Ag (Ac Ag Af)))))))) (pv 3) (fun _ _=>rfl)))
   (Ai (Bl (PW.pt (Fp (Ay (BL hr.units) (pv 3) Ag (Bd _)) (Fy (PW.pt (Gf (Ay (BL hr.units) (pv 3) Ag (Bd _)) (GR (Ay (BL hr.units) (Dh Ed rfl T.B.len Ec (Ac (Bm Bo (pv 0) (pv 5) (fun _ _=>rfl)) Af)) Ag (Bd _))))))))
   (Ah (Av (Eh (Ac (Br (Ac Am Af)) (Ac (Bj ZiY hr (Ac (pv 0) Af)) Af)))))
   Bq)
   (Ai (Bl (PW.pt (Fp (Ay (BL hr.units) (pv 3) Ag (Bd _)) (Fy (Ay (BL hr.units) (Dh Ed rfl T.B.len Ec (Ac (Bm Bo (pv 0) (pv 5) (fun _ _=>rfl)) Af)) Ag (Bd _)))))
   (Ai (Dc (WD Ds T8 jy o7 (Bm Bo (pv 0) (pv 5) (fun _ _=>rfl))))
   (Ah (Av (Eh (Ac (Br (Ac Am (Ac (Bm Bo (Br (Ac Am (Ac Am (Ac Am Af)))) (Aj Fq (pv 5) Ag) (fun _ _=>rfl)) Af))) (Ac Am Af))))))
   Bq)
   (Ai (Bl (Ay (BL hr.units) (pv 5) Ag (Bd _))
   (Ah (Kr (Bj Zvf hr (Ac (pv 4) (Ac (Bm Bo (pv 0) Ag (fun _ _=>rfl)) (Ac (pv 2) Af)))) (Iv rfl (Fb (sg 6 Jv.nd) (Fb (sg 7 Jv.nd) Iu)))))
   (Ai (ss 8 Jv.nd (Bm Bo (Br (Ac Am (Ac Am Af))) (Aj Fq (pv 5) Ag) (fun _ _=>rfl)))
   (Ai (ss 9 Jv.nd (Bj Zvh hr (Ac (pv 4) (Ac (Dh Ed rfl T.B.len Ec (Ac (Bm Bo (pv 0) Ag (fun _ _=>rfl)) Af)) (Ac (pv 2) Af)))))
   (Ai (ss 6 Jv.nd (Aj BJ (Br (Ac (pv 8) Af)) (Bj JD hr (Ac (pv 9) (Ac (Bm Bo (pv 0) Ag (fun _ _=>rfl)) (Ac Fo Af))))))
   (Ah (ss 7 Jv.nd (Aj BJ (Aj BJ (pv 8) Am) (Bj bz hr (Ac (pv 9) (Ac (Bm Bo (pv 0) Ag (fun _ _=>rfl)) Af))))))))))
   (Ai (Dc (CG Ds Eg Em Ea (Bm Bo (pv 0) (pv 5) (fun _ _=>rfl)) (Ac (pv 7) Af)))
   (Ah (Av (Eh (Ac (pv 6) (Ac Am Af)))))))))))))),?_⟩
 walk_at "rd0";rw[hk];generalize c / 8=mr at hm3 ⊢;walk_at ""
 by_cases h7:k=7
 ·subst h7
  refine Cg (decide_eq_true rfl) ?_;walk_at "";refine Di (fun h4=>?_) (fun h4=>?_)
  ·walk_at ""
   refine⟨mo,_,_,_,_,_,rfl,D.em,fun p l b0 b1 b2 b3 ns H1 bm D1 fr A1 ep el=>?_⟩;exact q p H1 l _ _ b0 b1 b2 b3 _ ⟨fun x u h1 _ _ _ e=>bm _ _ h1 e,D1,fun y hy=>.inr (fr y hy),McOk.new A1,A1,.lamps A1.lm,by simp,fun z hz=>(Bu.mp hz).elim (fun e=>e ▸ x7) fun hz=>(A1.wd z hz).x,by have:=A1.n6; simp; omega,ep,el⟩
  ·walk_at ""
   refine Cg (decide_eq_true rfl) ?_;walk_at "";refine BR (by simp) fun l H1 s1 n1 e1=>?_;walk_at "";refine Ey (by simp) fun p H2 s2 n2 e2=>?_;have s12:=s1.trans s2;exact q p H2 l ["always","yes"] "yes" a0 a1 a2 a3 M ⟨OffM.of s12,D.same s12,adm,ok,A,.ask ok .always,by simp,fun z hz=>(by simp at hz; rcases hz with rfl | rfl; exact x10; exact x11),by decide,e2,s2 _ _ e1⟩
 refine Ba (decide_eq_false (by omega)) ?_;refine Ba rfl ?_;walk_at "";refine Ba (decide_eq_false (by omega)) ?_;walk_at "";rw[hm3];refine BR (by simp) fun l0 H0 s0 n0 e0=>?_;walk_at "";obtain⟨sv,hsv,hsr⟩:=ZDu k (by omega) m3 m33;refine By (j:=k) e0 hsv ?_;walk_at "";have D0:=D.same s0;have f6:k=6→decide ((k:Int)=6)=true:=fun h=>decide_eq_true (by omega);refine(fun(keyS : ?GS)=>?mS) ?kS
 case mS=>
  by_cases h6:k=6
  ·refine Cg (f6 h6) ?_
   refine Cg rfl ?_;walk_at "";exact keyS
  obtain⟨s,hs⟩:=hsr h6;subst hs;have g1:=(D0.get s).1;have g2:=(D0.get s).2;have hlen:=ZFW M s;have hn8:=ZIo ok s
  have s1v:1≤srtN s:=by cases s <;> decide
  have sub1:((srtN s:Nat):Int) - 1=((srtN s - 1:Nat):Int):=by omega
  refine Ba (decide_eq_false (by omega)) ?_;walk_at "";refine(fun(keyP:0 < M.num s→?GP)=>?mP) ?kP
  case mP=>
   by_cases h4:k=4
   ·refine Cg (decide_eq_true (by omega)) ?_
    walk_at "";refine By (j:=srtN s) D0.em g1 ?_;walk_at "";rw[Ax,hlen];walk_at ""
    by_cases hz:M.num s=0
    ·refine Cg (decide_eq_true (by omega)) ?_
     walk_at "";exact keyS
    ·refine Ba (decide_eq_false (by omega)) ?_
     walk_at "";refine Cg (decide_eq_true (by omega)) ?_;refine Cg rfl ?_;walk_at "";exact keyP (by omega)
   refine Ba (decide_eq_false (by omega)) ?_;refine Ba rfl ?_;walk_at "";refine Ba (decide_eq_false (by omega)) ?_;walk_at "";refine By (j:=srtN s) D0.em g1 ?_;walk_at "";rw[Ax,hlen];walk_at ""
   by_cases h8:M.num s=8
   ·refine Cg (decide_eq_true (by omega)) ?_
    walk_at "";exact keyP (by omega)
   refine Ba (decide_eq_false (by omega)) ?_;refine qp ?_
   (try dsimp only)
   have k1:Cq " " = 1:=rfl;refine GF (IvM M s mo c b k mr H0) ?_ ?_
   rotate_left
   ·intro Kn hK
    walk_at ""
    by_cases h3:s=.m
    ·subst h3
     refine Cg (decide_eq_true rfl) ?_;walk_at "";refine By (j:=0) D0.em (v:=.ref a0) rfl ?_;walk_at "";refine⟨mr,a0,M.ns,b,rfl,D0.e0,A,fun p l v H1 s1 nl e1 e2 ok1=>?_⟩;refine Jb e1 ?_;exact hK _ _ ⟨l,.mv v,_,_,s1,nl,e2,ok1,rfl,rfl⟩
    refine Ba (decide_eq_false (by cases s; decide; decide; exact absurd rfl h3)) ?_;walk_at "";refine BR (by simp) fun l1 H1 s1 n1 e1=>?_;walk_at "";rw[sub1];refine By (j:=srtN s - 1) e1 (v:=.str s.wd) (by cases s; rfl; rfl; exact absurd rfl h3) ?_;walk_at "";have D1:=D0.same s1;refine By (j:=0) D1.em (v:=.ref a0) rfl ?_;walk_at "";refine IV D1.e0 ?_;rw[Ax];walk_at "";refine⟨mr,M.ns.length,b,rfl,A.n1,A.n6,fun p tr H2 s2 t2 ok2=>?_⟩;have D2:=D1.same s2
    have wl:(wdG true M.ns tr).length≤60:=by have:=K3 true M.ns tr; have:=ok2.nt; omega
    have n13:=ok2.nt;walk_at "";refine BR (by simp) fun l3 H3 s3 n3 e3=>?_;walk_at "";have D3:=D2.same s3;refine By (j:=0) D3.em (v:=.ref a0) rfl ?_;walk_at "";refine⟨p,a0,true,tr,M.ns,rfl,(t2.same s3).any,D3.e0,ok2.ok,by omega,fun l4 H4 s4 n4 e4=>?_⟩;refine K5 (s4 _ _ e3) e4 (by rw[Ax]; simp; omega) fun l5 H5 s5 n5 e5=>?_;walk_at "";have s25:=s3.trans (s4.trans s5);have D5:=D2.same s25
    have hwd:s.wd.length≤5:=by cases s <;> decide
    have h12:=bx A ok2.nt;refine Ew (Ca (by omega)) ?_;walk_at "";refine By (j:=0) D5.em (v:=.ref a0) rfl ?_;walk_at "";refine⟨p,a0,tr,M.ns,rfl,(t2.same s25).any,D5.e0,ok2.ok,by omega,fun k hk=>A.nmL hk,fun z H6 s6 hz=>?_⟩;have ez:=sh42 A ok2.ok hz;subst ez;refine Ew (Ca (by rw[Ce]; omega)) ?_;walk_at "";have c5:=s1.trans (s2.trans s25)
    cases s with
    | s=>exact hK _ _ ⟨l5,.st tr,_,_,c5.trans s6,(s1.trans (s2.trans (s3.trans s4))).free n5,s6 _ _ e5,ok2,rfl,rfl⟩
    | b=>exact hK _ _ ⟨l5,.bd tr,_,_,c5.trans s6,(s1.trans (s2.trans (s3.trans s4))).free n5,s6 _ _ e5,ok2,rfl,rfl⟩
    | m=>exact absurd rfl h3
   rintro σ H1 ⟨l,e,v8,v9,s1,nl,el,oke,hse,rfl⟩;subst hse;have D1:=D0.same s1;have g1':=(D1.get (srtE e)).1;have g2':=(D1.get (srtE e)).2;walk_at "";refine By (j:=srtN (srtE e)) D1.em g1' ?_;walk_at "";refine⟨tyL g2',?_⟩;walk_at "";refine Eu g2' (by rw[Ax]; omega) fun H2 b2 e2=>?_;walk_at "";refine Ey (by simp) fun p H3 s3 n3 e3=>?_;obtain⟨u1,u2,u3⟩:=ZE7 M e;obtain⟨w1,w2⟩:=ZFg oke;have D2:MdW H2 mo a0 a1 a2 a3 (M.add (entF e)):=D1.put b2 (by rw[u1,e2,Cp]; rfl) u2 u3;have la:l≠adS a1 a2 a3 (srtE e):=(Bw (D0.get (srtE e)).2 nl).symm;exact q p H3 l (enW M.ns e) "ok" a0 a1 a2 a3 (M.add (entF e)) ⟨fun x u h1 h2 h3 h4 e=>s3 _ _ (OffM.put (s0.trans s1) b2 x u h1 h2 h3 h4 e),D2.same s3,adm,ok.add oke (by omega),by rw[u2]; exact A,.ent A.n6 (ZJP A oke.e) (by rw[ZE6]; omega),w2,ZHs A oke.e,w1,e3,s3 _ _ (b2 _ _ la el)⟩
  case kP=>
   intro h0;refine By (j:=srtN s) D0.em g1 ?_;walk_at "";refine⟨tyL g2,?_⟩;walk_at "";obtain⟨zs,z,hzs⟩:=Tq (l:=M.lns s) (fun e=>by rw[e]at hlen; simp at hlen; omega);refine UV (xs:=zs.map V.str) (y:=.str z) (by rw[g2,hzs,Cp]; rfl) fun H1 b1 e1=>?_;walk_at "";refine BR (by simp) fun l2 H2 s2 n2 e2=>?_;walk_at "";rw[sub1];refine By (j:=srtN s - 1) e2 (ZGU s) ?_;walk_at "";refine BR (by simp) fun l3 H3 s3 n3 e3=>?_;walk_at "";refine Ey (by simp) fun p H4 s4 n4 e4=>?_;have s14:=s2.trans (s3.trans s4);obtain⟨u1,u2,u3⟩:=ZFc M s;have D1:MdW H1 mo a0 a1 a2 a3 (M.cut s):=D0.put b1 (by rw[u1,hzs,YbV]; exact e1) u2 u3;refine q p H4 l3 ["drop",s.wd] "ok" a0 a1 a2 a3 (M.cut s) ⟨fun x u h1 h2 h3 h4 e=>s14 _ _ (OffM.put s0 b1 x u h1 h2 h3 h4 e),D1.same s14,adm,ok.cut s,by rw[u2]; exact A,.drop h0 hn8,by simp,fun y hy=>?_,by simp,e4,s4 _ _ e3⟩;simp only [Bu,Fl,or_false]at hy
   rcases hy with rfl | rfl
   ·exact x9
   ·cases s
    ·exact x1
    ·exact x2
    ·exact x3
 case kS=>
  refine BR (by simp) fun l1 H1 s1 n1 e1=>?_;walk_at "";refine⟨mo,a0,a1,a2,a3,M,rfl,D0.same s1,ok,fun H2 s2=>?_⟩;walk_at "";refine Ey (by simp) fun p H3 s3 n3 e3=>?_;have s03:=s0.trans (s1.trans (s2.trans s3));exact q p H3 l1 ["show"] _ a0 a1 a2 a3 M ⟨OffM.of s03,D.same s03,adm,ok,A,.ask ok .show,by simp,fun z hz=>(by rw[Ck.mp hz]; exact x8),by decide,e3,(s2.trans s3) _ _ e1⟩
end
unseal PE PA PS PSs
structure Sd where
 x:Ab
 mo:Ab
 a0:Ab
 a1:Ab
 a2:Ab
 a3:Ab
 o:Option Mc
noncomputable def Df (S:Sd):List Ab:=[S.x,S.mo,S.a0,S.a1,S.a2,S.a3]
section
variable {P:Bp} {w:Bg} {K:Ao} {mg:Str→Option Ae} {base:Aq} {t:Ad} {n:Nat}
structure SideW (t:Ad) (H0 H:Hp) (S:Sd):Prop where
 dk:DkW t H S.x S.o
 em:∃v0 v1 v2 v3,H S.mo=some (.lst [v0,v1,v2,v3])
 st:∀M,S.o=some M→MdW H S.mo S.a0 S.a1 S.a2 S.a3 M∧McOk t M∧NmA M.ns
 fr:∀y∈Df S,H0 y=none
 hv:∀y∈Df S,∃u,H y=some u
theorem DkW.ob {H:Hp} {x:Ab} {o:Option Mc} (h:DkW t H x o):∃dx v,H x=some (.ins t.CP dx (dkF v)):=by
 cases o with
 | none=>obtain⟨dx,e⟩:=h; exact⟨dx,_,e⟩
 | some M=>obtain⟨dx,m,e,_⟩:=h; exact⟨dx,_,e⟩
theorem DkW.keep (T:Txt K mg t) {H H':Hp} {x:Ab} {o:Option Mc} (h:DkW t H x o) (k:∀u,H x=some u→H' x=some u) (ek:ExtK t H H'):DkW t H' x o:=by
 cases o with
 | none=>obtain⟨dx,e⟩:=h; exact⟨dx,k _ e⟩
 | some M=>obtain⟨dx,m,e,w⟩:=h; exact⟨dx,m,k _ e,McW.extK T ek w⟩
theorem SideW.keep (T:Txt K mg t) {H0 H H':Hp} {S:Sd} (W:SideW t H0 H S) (k:∀y u,y∈Df S→H y=some u→H' y=some u) (ek:ExtK t H H'):SideW t H0 H' S:=by
 refine⟨W.dk.keep T (fun u e=>k _ u (by simp[Df]) e) ek,?_,fun M hM=>?_,W.fr,fun y hy=>?_⟩
 ·obtain⟨v0,v1,v2,v3,e⟩:=W.em
  exact⟨v0,v1,v2,v3,k _ _ (by simp[Df]) e⟩
 ·obtain⟨D,ok,nm⟩:=W.st M hM
  exact⟨⟨k _ _ (by simp[Df]) D.em,k _ _ (by simp[Df]) D.e0,k _ _ (by simp[Df]) D.e1,k _ _ (by simp[Df]) D.e2,k _ _ (by simp[Df]) D.e3,D.n01,D.n02,D.n03,D.n12,D.n13,D.n23⟩,ok,nm⟩
 ·obtain⟨u,e⟩:=W.hv y hy
  exact⟨u,k y u hy e⟩
structure LS (t:Ad) (H0 H:Hp) (ds ms:Ab) (S:Nat→Sd):Prop where
 W:∀j,j < 2→SideW t H0 H (S j)
 dis:∀i j,i < 2→j < 2→i≠j→∀y∈Df (S i),y∉Df (S j)
 eds:H ds=some (.lst [.ref (S 0).x,.ref (S 1).x])
 ems:H ms=some (.lst [.ref (S 0).mo,.ref (S 1).mo])
 nds:∀j,j < 2→ds∉Df (S j)
 nms:∀j,j < 2→ms∉Df (S j)
 fds:H0 ds=none
 fms:H0 ms=none
 sm:Same H0 H
theorem LS.same (T:Txt K mg t) {H0 H H':Hp} {ds ms:Ab} {S:Nat→Sd} (L:LS t H0 H ds ms S) (s:Same H H'):LS t H0 H' ds ms S:=
 ⟨fun j hj=>(L.W j hj).keep T (fun y u _ e=>s y u e) (ExtK.of (Ext.of s)),L.dis,s _ _ L.eds,s _ _ L.ems,L.nds,L.nms,L.fds,L.fms,L.sm.trans s⟩
theorem LS.getD {H0 H:Hp} {ds ms:Ab} {S:Nat→Sd} (L:LS t H0 H ds ms S) {j:Nat} (hj:j < 2):([.ref (S 0).x,.ref (S 1).x]:List V)[j]?=some (.ref (S j).x)∧([.ref (S 0).mo,.ref (S 1).mo]:List V)[j]?=some (.ref (S j).mo):=by
 match j,hj with
 | 0,_=>exact⟨rfl,rfl⟩
 | 1,_=>exact⟨rfl,rfl⟩
noncomputable def updS (S:Nat→Sd) (j:Nat) (N:Sd):Nat→Sd:=fun i=>if i=j then N else S i
theorem ZJB {S:Nat→Sd} {j:Nat} {N:Sd} (h:N.x=(S j).x∧N.mo=(S j).mo) (i:Nat):(updS S j N i).x=(S i).x∧(updS S j N i).mo=(S i).mo:=by
 unfold updS
 by_cases e:i=j
 ·rw[if_pos e,e]; exact h
 ·rw[if_neg e]; exact⟨rfl,rfl⟩
theorem LS.step (T:Txt K mg t) {H0 H H1 H2:Hp} {ds ms:Ab} {S:Nat→Sd} {j:Nat} (L:LS t H0 H ds ms S) (hj:j < 2) {b0 b1 b2 b3:Ab} {M':Mc}
  (off:∀b u,b∉Df (S j)→H b=some u→H1 b=some u) (ek:ExtK t H H1) (xk:∃dx v,H1 (S j).x=some (.ins t.CP dx (dkF v))) (md:MdW H1 (S j).mo b0 b1 b2 b3 M') (ad:∀y∈[b0,b1,b2,b3],y∈Df (S j)∨H y=none) (ok:McOk t M') (nm:NmA M'.ns)
  (b:But (S j).x H1 H2) (dk:DkW t H2 (S j).x (some M')):LS t H0 H2 ds ms (updS S j ⟨(S j).x,(S j).mo,b0,b1,b2,b3,some M'⟩):=by
 obtain⟨dx,v,ex⟩:=xk;have ek2:ExtK t H H2:=ek.trans (ExtK.desk b ex)
 have hx:(S j).x∈Df (S j):=by simp[Df]
 have hm:(S j).mo∈Df (S j):=by simp[Df]
 have off2:∀y u,y∉Df (S j)→H y=some u→H2 y=some u:=fun y u hy e=>b _ _ (fun z=>hy (z ▸ hx)) (off y u hy e);have ne1:∀{a:Ab} {xs:List V},H1 a=some (.lst xs)→a≠(S j).x:=fun e=>Ci e ex (by intro z; cases z);have md2:MdW H2 (S j).mo b0 b1 b2 b3 M':=⟨b _ _ (ne1 md.em) md.em,b _ _ (ne1 md.e0) md.e0,b _ _ (ne1 md.e1) md.e1,b _ _ (ne1 md.e2) md.e2,b _ _ (ne1 md.e3) md.e3,md.n01,md.n02,md.n03,md.n12,md.n13,md.n23⟩
 have cn:∀y∈Df ⟨(S j).x,(S j).mo,b0,b1,b2,b3,some M'⟩,y∈Df (S j)∨H y=none:=fun y hy=>by
  simp only [Df,Bu,Fl,or_false]at hy
  rcases hy with rfl | rfl | rfl | rfl | rfl | rfl
  ·exact .inl hx
  ·exact .inl hm
  ·exact ad _ (by simp)
  ·exact ad _ (by simp)
  ·exact ad _ (by simp)
  ·exact ad _ (by simp)
 have Wj:=L.W j hj;have xm:=ZJB (S:=S) (j:=j) (N:=⟨(S j).x,(S j).mo,b0,b1,b2,b3,some M'⟩) ⟨rfl,rfl⟩
 have notin:∀{y:Ab},(∃u,H y=some u)→y∉Df (S j)→y∉Df ⟨(S j).x,(S j).mo,b0,b1,b2,b3,some M'⟩:=fun {y} hu hn hy=>by
  rcases cn y hy with h | h
  ·exact hn h
  ·obtain⟨u,e⟩:=hu
   rw[h]at e
   cases e
 refine⟨fun i hi=>?_,fun i k hi hk hik y hy=>?_,?_,?_,fun i hi=>?_,fun i hi=>?_,L.fds,L.fms,fun y u e=>off2 y u (fun hy=>by rw[Wj.fr y hy]at e; cases e) (L.sm y u e)⟩
 ·by_cases e:i=j
  ·subst e
   unfold updS;rw[if_pos rfl];refine⟨dk,⟨_,_,_,_,md2.em⟩,fun M hM=>?_,fun y hy=>?_,fun y hy=>?_⟩
   ·cases hM
    exact⟨md2,ok,nm⟩
   ·rcases cn y hy with h | h
    ·exact Wj.fr y h
    ·exact L.sm.free h
   ·simp only [Df,Bu,Fl,or_false]at hy
    obtain⟨dx',v',ex'⟩:=dk.ob
    rcases hy with rfl | rfl | rfl | rfl | rfl | rfl
    ·exact⟨_,ex'⟩
    ·exact⟨_,md2.em⟩
    ·exact⟨_,md2.e0⟩
    ·exact⟨_,md2.e1⟩
    ·exact⟨_,md2.e2⟩
    ·exact⟨_,md2.e3⟩
  ·unfold updS
   rw[if_neg e];exact(L.W i hi).keep T (fun y u hy e'=>off2 y u (L.dis i j hi hj e y hy) e') ek2
 ·unfold updS at hy ⊢
  by_cases e:i=j
  ·rw[if_pos e]at hy
   have e2:k≠j:=fun z=>hik (e.trans z.symm);rw[if_neg e2];intro hk'
   rcases cn y hy with h | h
   ·exact L.dis k j hk hj e2 y hk' h
   ·obtain⟨u,eu⟩:=(L.W k hk).hv y hk'
    rw[h]at eu
    cases eu
  ·rw[if_neg e]at hy
   by_cases e2:k=j
   ·rw[if_pos e2]
    exact notin ((L.W i hi).hv y hy) (L.dis i j hi hj e y hy)
   ·rw[if_neg e2]
    exact L.dis i k hi hk hik y hy
 ·rw[(xm 0).1,(xm 1).1]
  exact off2 _ _ (L.nds j hj) L.eds
 ·rw[(xm 0).2,(xm 1).2]
  exact off2 _ _ (L.nms j hj) L.ems
 ·unfold updS
  by_cases e:i=j
  ·rw[if_pos e]
   exact notin ⟨_,L.eds⟩ (L.nds j hj)
  ·rw[if_neg e]
   exact L.nds i hi
 ·unfold updS
  by_cases e:i=j
  ·rw[if_pos e]
   exact notin ⟨_,L.ems⟩ (L.nms j hj)
  ·rw[if_neg e]
   exact L.nms i hi
theorem OffM.ek {H H1:Hp} {mo a0 a1 a2 a3:Ab} {M:Mc} (D:MdW H mo a0 a1 a2 a3 M) (f:OffM mo a1 a2 a3 H H1):ExtK t H H1:=fun x u e h1 _=>
 f x u (fun z=>by rw[z,D.em]at e; exact h1 _ (Dl e).symm) (fun z=>by rw[z,D.e1]at e; exact h1 _ (Dl e).symm) (fun z=>by rw[z,D.e2]at e; exact h1 _ (Dl e).symm) (fun z=>by rw[z,D.e3]at e; exact h1 _ (Dl e).symm) e
end
seal PE PA PS PSs
section
variable {P:Bp} {w:Bg} {K:Ao} {mg:Str→Option Ae} {base:Aq} {t:Ad} {n:Nat}
theorem ZD1 {H:Hp} {Q:VK} (h:∀x H',Same H H'→H x=none→(∃dx,H' x=some (.ins t.CP dx (dkF .non)))→Q (.ref x) H'):MkG t.CP (ZxN t.CP) [] H Q:=by
 intro x dx hx hdx ne;have s2:=Lx hx hdx (.ins t.CP dx []) (.own x);refine⟨x,dx,rfl,Cm,fun H' b e=>⟨rfl,?_⟩⟩;exact h x H' (fun y o z=>b y o (Bw z hx) (s2 y o z)) hx ⟨dx,e⟩
structure Al (H0 H:Hp) (la lb lc:List Ab):Prop where
 ha:∀y∈la,(∃u,H y=some u)∧H0 y=none
 hb:∀y∈lb,(∃u,H y=some u)∧H0 y=none
 hc:∀y∈lc,(∃u,H y=some u)∧H0 y=none
 ab:∀y∈la,y∉lb
 ca:∀y∈lc,y∉la
 cb:∀y∈lc,y∉lb
 sm:Same H0 H
theorem NZ {H0 H H':Hp} {l:List Ab} (h:∀y∈l,(∃u,H y=some u)∧H0 y=none) (s:Same H H'):∀y∈l,(∃u,H' y=some u)∧H0 y=none:=fun y hy=>⟨(h y hy).1.imp fun u e=>s _ _ e,(h y hy).2⟩
theorem Zzu {H0 H H':Hp} {l:List Ab} {z:Ab} (h:∀y∈l,(∃u,H y=some u)∧H0 y=none) (s0:Same H0 H) (s:Same H H') (n:H z=none) (e:∃u,H' z=some u):∀y∈z::l,(∃u,H' y=some u)∧H0 y=none:=fun y hy=>(Bu.mp hy).elim (fun e'=>e' ▸ ⟨e,s0.free n⟩) (NZ h s y)
theorem cu {H0 H:Hp} {l:List Ab} {z:Ab} (h:∀y∈l,(∃u,H y=some u)∧H0 y=none) (n:H z=none):z∉l:=fun hz=>by
 obtain⟨⟨u,e⟩,_⟩:=h z hz;rw[n]at e
 cases e
theorem Zwn {l:List Ab} {y z:Ab} (h:y∉l) (h2:y≠z):y∉z::l:=fun hy=>(Bu.mp hy).elim h2 h
theorem ZE8 {H0 H:Hp} {l:List Ab} {y z:Ab} (h:∀y∈l,(∃u,H y=some u)∧H0 y=none) (hy:y∈l) (n:H z=none):y≠z:=fun e=>cu h n (e ▸ hy)
theorem Al.a {H0 H H':Hp} {la lb lc:List Ab} {z:Ab} (A:Al H0 H la lb lc) (s:Same H H') (n:H z=none) (e:∃u,H' z=some u):Al H0 H' (z::la) lb lc:=
 ⟨Zzu A.ha A.sm s n e,NZ A.hb s,NZ A.hc s,fun y hy=>(Bu.mp hy).elim (fun e=>e ▸ cu A.hb n) (A.ab y),fun y hy=>Zwn (A.ca y hy) (ZE8 A.hc hy n),A.cb,A.sm.trans s⟩
theorem Al.b {H0 H H':Hp} {la lb lc:List Ab} {z:Ab} (A:Al H0 H la lb lc) (s:Same H H') (n:H z=none) (e:∃u,H' z=some u):Al H0 H' la (z::lb) lc:=
 ⟨NZ A.ha s,Zzu A.hb A.sm s n e,NZ A.hc s,fun y hy=>Zwn (A.ab y hy) (ZE8 A.ha hy n),A.ca,fun y hy=>Zwn (A.cb y hy) (ZE8 A.hc hy n),A.sm.trans s⟩
theorem Al.c {H0 H H':Hp} {la lb lc:List Ab} {z:Ab} (A:Al H0 H la lb lc) (s:Same H H') (n:H z=none) (e:∃u,H' z=some u):Al H0 H' la lb (z::lc):=
 ⟨NZ A.ha s,NZ A.hb s,Zzu A.hc A.sm s n e,A.ab,fun y hy=>(Bu.mp hy).elim (fun e=>e ▸ cu A.ha n) (A.ca y),fun y hy=>(Bu.mp hy).elim (fun e=>e ▸ cu A.hb n) (A.cb y),A.sm.trans s⟩
theorem Il {x m a0 a1 a2 a3:Ab} {o:Option Mc}:∀y∈Df ⟨x,m,a0,a1,a2,a3,o⟩,y∈[m,a3,a2,a1,a0,x]:=fun y hy=>by
 simp only [Df,Bu,Fl,or_false]at hy ⊢
 rcases hy with h | h | h | h | h | h
 ·exact .inr (.inr (.inr (.inr (.inr h))))
 ·exact .inl h
 ·exact .inr (.inr (.inr (.inr (.inl h))))
 ·exact .inr (.inr (.inr (.inl h)))
 ·exact .inr (.inr (.inl h))
 ·exact .inr (.inl h)
theorem LS.start {H H':Hp} {ds ms xa pm p0 p1 p2 p3 xb qm q0 q1 q2 q3:Ab} (A:Al H H' [pm,p3,p2,p1,p0,xa] [qm,q3,q2,q1,q0,xb] [ms,ds]) (d1:DkW t H' xa none) (d2:DkW t H' xb none) (m1:∃v0 v1 v2 v3,H' pm=some (.lst [v0,v1,v2,v3])) (m2:∃v0 v1 v2 v3,H' qm=some (.lst [v0,v1,v2,v3]))
  (eds:H' ds=some (.lst [.ref xa,.ref xb])) (ems:H' ms=some (.lst [.ref pm,.ref qm])):LS t H H' ds ms (fun j=>if j=0 then⟨xa,pm,p0,p1,p2,p3,none⟩ else⟨xb,qm,q0,q1,q2,q3,none⟩):=by
 refine⟨fun j hj=>?_,fun i j hi hj hij y hy hy'=>?_,eds,ems,fun j hj hy=>?_,fun j hj hy=>?_,(A.hc ds (by simp)).2,(A.hc ms (by simp)).2,A.sm⟩
 ·by_cases h:j=0
  ·rw[if_pos h]
   exact⟨d1,m1,(fun M hM=>by cases hM),fun y hy=>(A.ha y (Il y hy)).2,fun y hy=>(A.ha y (Il y hy)).1⟩
  ·rw[if_neg h]
   exact⟨d2,m2,(fun M hM=>by cases hM),fun y hy=>(A.hb y (Il y hy)).2,fun y hy=>(A.hb y (Il y hy)).1⟩
 ·by_cases h:i=0
  ·rw[if_pos h]at hy
   rw[if_neg (fun z=>hij (h.trans z.symm))]at hy';exact A.ab y (Il y hy) (Il y hy')
  ·rw[if_neg h]at hy
   have hj0:j=0:=by omega
   rw[if_pos hj0]at hy';exact A.ab y (Il y hy') (Il y hy)
 ·by_cases h:j=0
  ·rw[if_pos h]at hy
   exact A.ca ds (by simp) (Il _ hy)
  ·rw[if_neg h]at hy
   exact A.cb ds (by simp) (Il _ hy)
 ·by_cases h:j=0
  ·rw[if_pos h]at hy
   exact A.ca ms (by simp) (Il _ hy)
  ·rw[if_neg h]at hy
   exact A.cb ms (by simp) (Il _ hy)
abbrev IvL1 (t:Ad) (H:Hp) (sc ds ms:Ab) (i:Nat) (σ:St) (H':Hp):Prop:=∃(S:Nat→Sd) (v3 v4 v5:Option V),LS t H H' ds ms S∧(∀j,j < i→∃M,(S j).o=some M)∧σ=[some (.ref sc),some (.ref ds),some (.ref ms),v3,v4,v5,none,none,none,none,none]
abbrev IvL2 (t:Ad) (H:Hp) (sc ds ms:Ab) (fb:Bool) (_:Nat) (σ:St) (H':Hp):Prop:=∃(S:Nat→Sd) (v3 v4 v5 v8 v9 v10:Option V) (tl:Int),LS t H H' ds ms S∧(∀j,j < 2→∃M,(S j).o=some M)∧σ=[some (.ref sc),some (.ref ds),some (.ref ms),v3,v4,v5,some (.bl fb),some (.int tl),v8,v9,v10]
abbrev IvL3 (t:Ad) (H:Hp) (sc ds ms:Ab) (fb:Bool) (v4 v5 v7 v8 v9 v10:Option V) (_:Nat) (σ:St) (H':Hp):Prop:=∃(S:Nat→Sd) (v3:Option V),LS t H H' ds ms S∧(∀j,j < 2→∃M,(S j).o=some M)∧σ=[some (.ref sc),some (.ref ds),some (.ref ms),v3,v4,v5,some (.bl fb),v7,v8,v9,v10]
theorem ok_law (T:Txt K mg t):FnOk P w K mg base CX0 80 t.f_law t.d_law ["_law_script"] (spLaw K):=by
 refine T.F_law.ok FN (fun vs H Q E h=>?_) (fun cdv A outer s H vs Q E hr h=>?_)
 ·obtain⟨a,ns,rfl,_⟩:=h
  rfl
 obtain⟨sc,ns,rfl,hS,h63,hO,q⟩:=h;have Zkv:=ZyP (P:=P) (w:=w) (base:=base) T;have ZiX:=Zxu (P:=P) (w:=w) (base:=base) T;have Zve:=ZF8 (P:=P) (w:=w) (base:=base) T;have Zhc:=ZyO (P:=P) (w:=w) (base:=base) T;have ZiY:=Zxw (P:=P) (w:=w) (base:=base) T;have ZDP:=ZF4 (P:=P) (w:=w) (base:=base) T;obtain⟨x1,x2,x3,x4,x5,x6,x7,x8,x9,x10,x11⟩:=ZB4
 refine⟨_,(Ai (ss 1 FN.nd (Br (Ac (WP ZDP hr) (Ac (WP ZDP hr) Af))))
   (Ai (ss 2 FN.nd (Br (Ac (Br (Ac (Br Af) (Ac (Br Af) (Ac (Br Af) (Ac (Br Af) Af))))) (Ac (Br (Ac (Br Af) (Ac (Br Af) (Ac (Br Af) (Ac (Br Af) Af))))) Af))))
   (Ai (Dd Cz rfl (Hn rfl T.B.range (Ac Ag Af)) (sg 3 FN.nd)
   (Ai (Kr (Bj ZiX hr (Ac (Bm Bo (pv 2) (pv 3) (fun _ _=>rfl)) (Ac (Aj Eo (Bj Zkv hr (Ac (pv 0) (Ac (pv 3) Af))) Ag) Af))) (Iv rfl (Fb (sg 4 FN.nd) (Fb (sg 5 FN.nd) Iu))))
   (Ah (Bl (HF (DX (Bj Zhc hr (Ac (Bm Bo (pv 1) (pv 3) (fun _ _=>rfl)) (Ac (pv 4) (Ac (pv 5) (Ac (pv 3) Af))))) (fun _=>rfl)))
   (Ah (Av Fo))
   Bq))))
   (Ai (ss 6 FN.nd (Jp (BL hr.units) (Aj Cv (Bj Zkv hr (Ac (pv 0) (Ac Ag Af))) Ag) Ag (Bd _)))
   (Ai (ss 7 FN.nd Ag)
   (Ai (Dd Cz rfl (mj rfl T.B.range (Ac Ag (Ac (Dh (ZzG rfl) rfl T.B.min ZHk (Ac (Dh Ed rfl T.B.len Ec (Ac (pv 0) Af)) (Ac Ag Af))) Af))) (sg 3 FN.nd)
   (Ai (ss 8 FN.nd (Bm Bo (pv 0) (pv 3) (fun _ _=>rfl)))
   (Ai (Bl (HF (DX (pv 6) (fun _=>rfl)))
   (Ai (ss 9 FN.nd (Aj BJ (Aj BJ (Aj Cv (Aj Eo (pv 8) Ag) Ag) (Aj GZ (Aj GZ Ag (pv 3)) (pv 3))) Ag))
   (Ah (ss 8 FN.nd (Aj BJ (Aj Cv (pv 8) Ag) (Aj GZ (Aj Cv (Aj GZ (Aj Cv (Aj GZ (pv 9) Ag) Ag) Ag) Ag) Ag)))))
   Bq)
   (Ai (ss 10 FN.nd (Aj Cv (Aj Eo (pv 8) Ag) Ag))
   (Ai (Bl (Ay (BL hr.units) (Aj Cv (Bm Bo (pv 0) Ag (fun _ _=>rfl)) Ag) Ag (Bd _))
   (Ah (ss 10 FN.nd (Aj Cv (Aj Eo (pv 3) Ag) Ag)))
   Bq)
   (Ai (ss 7 FN.nd (Aj BJ (pv 7) (Gg Ow rfl T.B.int Lq (Ac (Jp (BL hr.units) (Aj Cv (pv 8) Ag) Ag (Bd _)) Af))))
   (Ai (Bl (PW.pt (Gf (Ay (BL hr.units) (Aj Cv (pv 8) Ag) Ag (Bd _)) (GR (Ay Iw (pv 7) Ag (Bd _)))))
   (Ah (ss 8 FN.nd (Aj Fq (pv 8) Ag)))
   Bq)
   (Ai (Kr (Bj Zve hr (Ac (Bm Bo (pv 2) (pv 10) (fun _ _=>rfl)) (Ac (pv 8) (Ac (pv 6) Af)))) (Iv rfl (Fb (sg 4 FN.nd) (Fb (sg 5 FN.nd) Iu))))
   (Ah (Bl (HF (DX (Bj Zhc hr (Ac (Bm Bo (pv 1) (pv 10) (fun _ _=>rfl)) (Ac (pv 4) (Ac (pv 5) (Ac (Aj Eo (pv 8) Ag) Af))))) (fun _=>rfl)))
   (Ah (Av Fo))
   Bq))))))))))
   (Ai (Dd Cz rfl (Hn rfl T.B.range (Ac Ag Af)) (sg 3 FN.nd)
   (Ah (Bl (HF (DX (Bj Zhc hr (Ac (Bm Bo (pv 1) (pv 3) (fun _ _=>rfl)) (Ac (Br (Ac Am Af)) (Ac (Bj ZiY hr (Ac (Bm Bo (pv 2) (pv 3) (fun _ _=>rfl)) Af)) (Ac (pv 3) Af))))) (fun _=>rfl)))
   (Ah (Av Fo))
   Bq)))
   (Ah (Av Fo))))))))),?_⟩
 walk_at "rs0";refine GF (fun σ H'=>∃xa xb ds,Al H H' [xa] [xb] [ds]∧DkW t H' xa none∧DkW t H' xb none∧H' ds=some (.lst [.ref xa,.ref xb])∧σ=[some (.ref sc),some (.ref ds),none,none,none,none,none,none,none,none,none]) ?_ ?_
 rotate_left
 ·intro Kn hK
  walk_at "rs";refine ZD1 fun xa H1 s1 n1 d1=>?_;walk_at "rs";refine ZD1 fun xb H2 s2 n2 d2=>?_;walk_at "rs";refine BR (by simp) fun ds H3 s3 n3 e3=>?_;walk_at "rs";obtain⟨dx1,d1⟩:=d1;obtain⟨dx2,d2⟩:=d2;have A0:Al H H [] [] []:=⟨(fun y hy=>by cases hy),(fun y hy=>by cases hy),(fun y hy=>by cases hy),(fun y hy=>by cases hy),(fun y hy=>by cases hy),(fun y hy=>by cases hy),Same.refl _⟩;exact hK _ _ ⟨xa,xb,ds,((A0.a s1 n1 ⟨_,d1⟩).b s2 n2 ⟨_,d2⟩).c s3 n3 ⟨_,e3⟩,⟨dx1,(s2.trans s3) _ _ d1⟩,⟨dx2,s3 _ _ d2⟩,e3,rfl⟩
 rintro σ H1 ⟨xa,xb,ds,A1,d1,d2,eds,rfl⟩;refine GF (fun σ H'=>∃ms S,LS t H H' ds ms S∧σ=[some (.ref sc),some (.ref ds),some (.ref ms),none,none,none,none,none,none,none,none]) ?_ ?_
 rotate_left
 ·intro Kn hK
  walk_at "rs";refine BR (by simp) fun p0 G0 r0 m0 f0=>?_;walk_at "rs";refine BR (by simp) fun p1 G1 r1 m1 f1=>?_;walk_at "rs";refine BR (by simp) fun p2 G2 r2 m2 f2=>?_;walk_at "rs";refine BR (by simp) fun p3 G3 r3 m3 f3=>?_;walk_at "rs";refine BR (by simp) fun pm G4 r4 m4 f4=>?_;walk_at "rs";refine BR (by simp) fun q0 G5 r5 m5 f5=>?_;walk_at "rs";refine BR (by simp) fun q1 G6 r6 m6 f6=>?_;walk_at "rs";refine BR (by simp) fun q2 G7 r7 m7 f7=>?_;walk_at "rs";refine BR (by simp) fun q3 G8 r8 m8 f8=>?_;walk_at "rs";refine BR (by simp) fun qm G9 r9 m9 f9=>?_;walk_at "rs";refine BR (by simp) fun ms Ga ra ma fa=>?_;walk_at "rs";have A5:=((((A1.a r0 m0 ⟨_,f0⟩).a r1 m1 ⟨_,f1⟩).a r2 m2 ⟨_,f2⟩).a r3 m3 ⟨_,f3⟩).a r4 m4 ⟨_,f4⟩;have Aa:=(((((A5.b r5 m5 ⟨_,f5⟩).b r6 m6 ⟨_,f6⟩).b r7 m7 ⟨_,f7⟩).b r8 m8 ⟨_,f8⟩).b r9 m9 ⟨_,f9⟩).c ra ma ⟨_,fa⟩;have s9a:=r5.trans (r6.trans (r7.trans (r8.trans (r9.trans ra))));have s1a:=r0.trans (r1.trans (r2.trans (r3.trans (r4.trans s9a))));obtain⟨dx1,d1⟩:=d1;obtain⟨dx2,d2⟩:=d2;exact hK _ _ ⟨ms,_,LS.start Aa ⟨dx1,s1a _ _ d1⟩ ⟨dx2,s1a _ _ d2⟩ ⟨_,_,_,_,s9a _ _ f4⟩ ⟨_,_,_,_,ra _ _ f9⟩ (s1a _ _ eds) fa,rfl⟩
 clear A1 d1 d2 eds;rintro σ Ga ⟨ms,S0,L0,rfl⟩;refine GF (fun σ H'=>IvL1 t H sc ds ms 2 σ H') ?_ ?_
 rotate_left
 ·intro Kn hK
  walk_at "rs";refine⟨2,rfl,by omega,by omega,?_⟩;refine Kw (n:=2) (IvL1 t H sc ds ms) ⟨S0,_,_,_,L0,(fun j hj=>absurd hj (Wh _)),rfl⟩ ?_ ?_
  ·rintro i σ H3 hi ⟨S,v3,v4,v5,L,hSt,rfl⟩
   have g1:=(L.getD hi).1;have g2:=(L.getD hi).2;have Wi:=L.W i hi;obtain⟨y0,y1,y2,y3,em⟩:=Wi.em;walk_at "";refine By (j:=i) L.ems g2 ?_;walk_at "";refine⟨sc,ns,i,rfl,L.sm.seq hS,?_⟩;walk_at "";refine⟨(S i).mo,y0,y1,y2,y3,_,rfl,em,fun p l a0 a1 a2 a3 nms H4 bm D4 fr A4 ep el=>?_⟩;refine Jb ep ?_;walk_at "";have off:∀b u,b∉Df (S i)→H3 b=some u→H4 b=some u:=fun b u hb e=>bm _ _ (fun z=>hb (by rw[z]; simp[Df])) e;have ek:ExtK t H3 H4:=fun x u e h1 _=>bm _ _ (fun z=>by rw[z,em]at e; exact h1 _ (Dl e).symm) e
   have xnm:(S i).x≠(S i).mo:=by
    obtain⟨dx,v,ex⟩:=Wi.dk.ob;exact Ci ex em (by intro z; cases z)
   have dk4:=Wi.dk.keep T (fun u e=>bm _ _ xnm e) ek;have eds4:=off _ _ (L.nds i hi) L.eds;refine By (j:=i) eds4 g1 ?_;walk_at "";refine⟨(S i).x,l,_,_,_,(S i).o,_,rfl,dk4,el,by simp,fun z hz=>(Bu.mp hz).elim (fun e=>e ▸ x7) fun hz=>(A4.wd z hz).x,by have:=A4.n6; simp; omega,.lamps A4.lm,fun H5 b5 dk5=>?_⟩;walk_at "";refine Ba rfl ?_;walk_at "";refine⟨_,_,_,_,L.step T hi off ek dk4.ob D4 (fun y hy=>.inr (fr y hy)) (McOk.new A4) A4 b5 dk5,fun j hj=>?_,rfl⟩;unfold updS
   by_cases e:j=i
   ·rw[if_pos e]; exact⟨_,rfl⟩
   ·rw[if_neg e]; exact hSt j (by omega)
  ·rintro σ H3 ⟨S,v3,v4,v5,L,hSt,rfl⟩
   exact hK _ _ ⟨S,v3,v4,v5,L,hSt,rfl⟩
 clear L0 S0;rintro σ H3 ⟨S,v3,v4,v5,L,hSt,rfl⟩;refine Hq ?_;walk_at "rs";refine⟨sc,ns,1,rfl,L.sm.seq hS,?_⟩;walk_at "rs";generalize decide (cell ns 1 % 2=1)=fb;refine Hq ?_;walk_at "rs";refine GF (fun σ H'=>∃(S:Nat→Sd) (v3 v4 v5 v7 v8 v9 v10:Option V),LS t H H' ds ms S∧(∀j,j < 2→∃M,(S j).o=some M)∧σ=[some (.ref sc),some (.ref ds),some (.ref ms),v3,v4,v5,some (.bl fb),v7,v8,v9,v10]) ?_ ?_
 rotate_left
 ·intro Kn hK
  walk_at "rs";refine qu (L.sm.seq hS) ?_;walk_at "rs";rw[Ax];obtain⟨mn,hmn,hml⟩ : ∃mn:Nat,min (ns.length:Int) 60=(mn:Int)∧mn≤ns.length:=⟨min ns.length 60,by omega,by omega⟩;rw[hmn];refine⟨2,_,rfl,by omega,?_⟩;rw[show((mn:Int) - 2).toNat=mn - 2 by omega];refine Uq (IvL2 t H sc ds ms fb) ⟨S,_,_,_,_,_,_,_,L,hSt,rfl⟩ ?_ ?_
  ·clear hSt L S v3 v4 v5 H3
   rintro i σ H4 hi ⟨S,v3,v4,v5,v8,v9,v10,tl,L,hSt,rfl⟩;have hS4:=L.sm.seq hS
   have hget:∀k,k < ns.length→(ns.map V.int)[k]?=some (.int (cell ns k)):=fun k hk=>by
    rw[El,Dr hk];unfold cell;rw[Gd,Dr hk];rfl
   rw[show(2:Int)+(i:Int)=((i+2:Nat):Int) by omega];walk_at "rs";refine Hq ?_;walk_at "rs";refine qz hS4 (hget (i+2) (by omega)) ?_;walk_at "rs";generalize cell ns (i+2)=c0;refine GF (fun σ H'=>H4=H'∧∃(c1:Int) (v9:Option V),σ=[some (.ref sc),some (.ref ds),some (.ref ms),some (.int ((i+2:Nat):Int)),v4,v5,some (.bl fb),some (.int tl),some (.int c1),v9,v10]) ?_ ?_
   rotate_left
   ·intro Kn2 hK2
    walk_at "rs"
    cases fb with
    | true=>
     refine Ba rfl ?_;walk_at "rs";exact hK2 _ _ ⟨rfl,_,_,rfl⟩
    | false=>
     refine Cg rfl ?_;walk_at "";refine Hj (.inl ⟨by decide,by decide⟩) ?_;walk_at "";refine Hj (.inr ⟨by omega,by omega⟩) ?_;walk_at "";refine Hj (.inr ⟨by decide,by decide⟩) ?_;walk_at "";refine Hj (.inr ⟨by decide,by decide⟩) ?_;walk_at "";refine Hj (.inr ⟨by decide,by decide⟩) ?_;walk_at "";exact hK2 _ _ ⟨rfl,_,_,rfl⟩
   rintro σ H5 ⟨rfl,c1,v9',rfl⟩;refine Hq ?_;walk_at "rs";obtain⟨k1,hk1,hk12⟩ : ∃k1:Nat,c1 / 8 % 2=(k1:Int)∧k1 < 2:=⟨(c1 / 8 % 2).toNat,by omega,by omega⟩;rw[hk1];refine GF (fun σ H'=>H4=H'∧∃k2:Nat,k2 < 2∧σ=[some (.ref sc),some (.ref ds),some (.ref ms),some (.int ((i+2:Nat):Int)),v4,v5,some (.bl fb),some (.int tl),some (.int c1),v9',some (.int (k2:Int))]) ?_ ?_
   rotate_left
   ·intro Kn2 hK2
    walk_at "rs";refine qz (j:=0) hS4 (hget 0 (by omega)) ?_;walk_at "rs";refine Di (fun h0=>?_) (fun h0=>?_)
    ·walk_at "rs"
     obtain⟨k3,hk3,hk32⟩ : ∃k3:Nat,((i+2:Nat):Int) / 9 % 2=(k3:Int)∧k3 < 2:=⟨(((i+2:Nat):Int) / 9 % 2).toNat,by omega,by omega⟩;rw[hk3];exact hK2 _ _ ⟨rfl,k3,hk32,rfl⟩
    ·walk_at "rs"
     exact hK2 _ _ ⟨rfl,k1,hk12,rfl⟩
   rintro σ H5 ⟨rfl,k2,hk2,rfl⟩;refine Hq ?_;walk_at "rs";generalize tl+(if decide (c1 % 8=7)=true then(1:Int) else 0)=tl2;refine GF (fun σ H'=>H4=H'∧∃c2:Int,σ=[some (.ref sc),some (.ref ds),some (.ref ms),some (.int ((i+2:Nat):Int)),v4,v5,some (.bl fb),some (.int tl2),some (.int c2),v9',some (.int (k2:Int))]) ?_ ?_
   rotate_left
   ·intro Kn2 hK2
    walk_at "rs";refine Di (fun h0=>?_) (fun h0=>?_)
    ·walk_at "rs"
     refine Di (fun h1=>?_) (fun h1=>?_)
     ·walk_at "rs"
      exact hK2 _ _ ⟨rfl,_,rfl⟩
     ·walk_at "rs"
      exact hK2 _ _ ⟨rfl,_,rfl⟩
    ·refine Ba rfl ?_
     walk_at "rs";exact hK2 _ _ ⟨rfl,_,rfl⟩
   rintro σ H5 ⟨rfl,c2,rfl⟩;have g1:=(L.getD hk2).1;have g2:=(L.getD hk2).2;have Wi:=L.W k2 hk2;obtain⟨M,hM⟩:=hSt k2 hk2;have D:=(Wi.st M hM).1;have ok:=(Wi.st M hM).2.1;have nm:=(Wi.st M hM).2.2;walk_at "";refine By (j:=k2) L.ems g2 ?_;walk_at "";refine⟨(S k2).mo,(S k2).a0,(S k2).a1,(S k2).a2,(S k2).a3,M,c2,fb,rfl,D,ok,nm,fun p H6 l ws due b0 b1 b2 b3 M' DD=>?_⟩;refine Jb DD.ep ?_;walk_at "";have off:∀b u,b∉Df (S k2)→H4 b=some u→H6 b=some u:=fun b u hb e=>DD.off b u (fun z=>hb (by rw[z]; simp[Df])) (fun z=>hb (by rw[z]; simp[Df])) (fun z=>hb (by rw[z]; simp[Df])) (fun z=>hb (by rw[z]; simp[Df])) e;have ek:ExtK t H4 H6:=DD.off.ek D
   have dk6:DkW t H6 (S k2).x (S k2).o:=by
    obtain⟨dx,v,ex⟩:=Wi.dk.ob;exact Wi.dk.keep T (fun u e=>DD.off _ u (Ci ex D.em (by intro z; cases z)) (Ci ex D.e1 (by intro z; cases z)) (Ci ex D.e2 (by intro z; cases z)) (Ci ex D.e3 (by intro z; cases z)) e) ek
   have eds6:=off _ _ (L.nds k2 hk2) L.eds;refine By (j:=k2) eds6 g1 ?_;walk_at "";refine⟨(S k2).x,l,ws,due,_,(S k2).o,_,rfl,dk6,DD.el,DD.ne,DD.wd,DD.wl,by rw[hM]; exact DD.say,fun H7 b7 dk7=>?_⟩;walk_at "";refine Ba rfl ?_;walk_at "";refine⟨_,_,_,_,_,_,_,_,L.step T hk2 off ek dk6.ob DD.md (fun y hy=>(DD.ad y hy).imp (fun h=>?_) id) DD.ok DD.nm b7 dk7,fun j hj=>?_,rfl⟩
   ·simp only [Bu,Fl,or_false]at h
    simp only [Df,Bu,Fl,or_false];exact .inr (.inr h)
   ·unfold updS
    by_cases e:j=k2
    ·rw[if_pos e]; exact⟨_,rfl⟩
    ·rw[if_neg e]; exact hSt j hj
  ·clear hSt L S v3 v4 v5 H3
   rintro σ H4 ⟨S,v3,v4,v5,v8,v9,v10,tl,L,hSt,rfl⟩;exact hK _ _ ⟨S,v3,v4,v5,_,v8,v9,v10,L,hSt,rfl⟩
 clear hSt L S v3 v4 v5 H3;rintro σ H3 ⟨S,v3,v4,v5,v7,v8,v9,v10,L,hSt,rfl⟩;refine GF (fun σ H'=>True) (fun σ H' _=>?_) ?_
 ·walk_at ""
  exact q H'
 intro Kn hK;walk_at "rs";refine⟨2,rfl,by omega,by omega,?_⟩;refine Kw (n:=2) (IvL3 t H sc ds ms fb v4 v5 v7 v8 v9 v10) ⟨S,_,L,hSt,rfl⟩ ?_ (fun σ H' _=>hK _ _ trivial);clear hSt L S v3 H3;rintro i σ H3 hi ⟨S,v3,L,hSt,rfl⟩;have g1:=(L.getD hi).1;have g2:=(L.getD hi).2;have Wi:=L.W i hi;obtain⟨M,hM⟩:=hSt i hi;have D:=(Wi.st M hM).1;have ok:=(Wi.st M hM).2.1;have nm:=(Wi.st M hM).2.2;walk_at "";refine By (j:=i) L.eds g1 ?_;walk_at "";refine BR (by simp) fun l H4 s4 n4 e4=>?_;walk_at "";refine By (j:=i) (s4 _ _ L.ems) g2 ?_;walk_at "";refine⟨(S i).mo,(S i).a0,(S i).a1,(S i).a2,(S i).a3,M,rfl,D.same s4,ok,fun H5 s5=>?_⟩;walk_at "";have s35:=s4.trans s5;have L5:=L.same T s35;have W5:=L5.W i hi;have D5:=(W5.st M hM).1;refine⟨(S i).x,l,["show"],_,_,(S i).o,some M,rfl,W5.dk,s5 _ _ e4,by simp,fun z hz=>(by rw[Ck.mp hz]; exact x8),by decide,by rw[hM]; exact .ask ok .show,fun H7 b7 dk7=>?_⟩;walk_at "";refine Ba rfl ?_;walk_at "";refine⟨_,_,L5.step T hi (fun b u _ e=>e) (fun x u e _ _=>e) W5.dk.ob D5 (fun y hy=>.inl ?_) ok nm b7 dk7,fun j hj=>?_,rfl⟩
 ·simp only [Bu,Fl,or_false]at hy
  simp only [Df,Bu,Fl,or_false];exact .inr (.inr hy)
 ·unfold updS
  by_cases e:j=i
  ·rw[if_pos e]; exact⟨_,rfl⟩
  ·rw[if_neg e]; exact hSt j hj
end
unseal PE PA PS PSs
end LW
structure PySem.W.Fast : Prop where
 (tw1321972088057739398 tw10351107175879211229 tw538308772582485809 tw5957583098780150733 tw540474760828019048 tw12241585661872853500 tw6541348953016119337 tw17467091295026015818 tw4315976771449371933 tw18393629733012662825 tw8936486276944756633 tw12475131061845252431 tw6684389791471427121 tw10499867987315127205 tw3556334967989658468 tw12778154554170179356 tw49503424871637820 tw9916266893703541623 tw2626684740885078208 tw8436217779020095428 tw14305542019159572602 tw10669006324197928886 tw7604939836428074758 tw6121474664490943216 tw11561250396651706239 tw6942405881303138980 tw8113854842254584276 tw5897197936030139059 tw12848322821309247457 tw5674462876470771077 tw2029056987699697573 tw1952567800638933352 tw1453965548400533693 tw6093692270691837369 tw5808823793758060955 tw12305741875333420800 tw3470253688641487839 tw15791130342947139315 tw7178587537754501928 tw8604975565629206764 tw5351927093052373396 tw16930988546125953360 tw13874614546496389521 tw1706622146779295870 tw2272004283334943705 tw7973773100078869418 tw1781234234152240685 tw16810125117869671788 tw17557716533312668447 tw16522566711377024177 tw6600911638280570395 tw699098477002304229 tw1208894754464156616 tw1988539365889719297 tw11051258889707096454 tw14186589725414705605 tw12464404079684222890 tw9795163488978553952 tw4395360044401485741 tw17220167430255269040 tw15615366918147168342 tw6588758790205975789 tw11700858994488352079 tw14991339824474171335 tw4063705290382583686 tw16271216334742095540 tw14778057611215229256 tw10107963051343867041 tw13762372955737126787 tw4051667220341151219 tw14227012071429186569 tw11609660673489265560 tw9569235250916472890 tw12542262260832853231 tw16436990298888442944 tw15146342056109807878 tw18186111452917061276 tw13982592332052531067 tw6535557135768777901 tw1119843924934290950 tw336069753250830489 tw8199689075640404788 tw9173374225896592502 tw9239421215182150779 tw7618833382967563333 tw1131803487313381788 tw15479381054483151937 tw15734019157377617792 tw10569022205795891928 tw11858036736580151622 tw7673825511493210713 tw16904308953352723353 tw6767642209933977035 tw7383984745554111265 tw4736469333519563120 tw15731239857653353158 tw6695462950532344516 tw6574988469713313760 tw6995591874191502369 tw5420013326403766909 tw2116071893393902860 tw15856970625472265283 tw113225774249825721 tw3961986047941645342 tw2399762765223026111 tw521960616204856390 tw8806554299519622749 tw18313882672295035497 tw7601728283372226680 tw16460121551294383818 tw6053256400172849353 tw9850107101141840779 tw10541403761699813934 tw3721403201252052097 tw3446207195805085841 tw12916585890991494845 tw16076743602845473770 tw17222356562248366883 tw5184533987225434053 tw7124379676205947984 tw7890966859764736409 tw13096688812497280504 tw11735984090208101056 tw15030081738510413238 tw11624783471655328672 tw15789759451349314325 tw15494056068292385798 tw4473477065821021232 tw15022414506212140623 tw9117349724013860203 tw12761265820504507320 tw10559655017034679994 tw8482784060926197213 tw12283430925271652355 tw10147294217420127600 tw17242929481258646845 tw7291784093486735416 tw11942592246122266347 tw13217640789261106239 tw4377459581021576527 tw8146420021897468176 tw9868672892063294322 tw2877145713475797637 tw12718670528236546450 tw14638394394209761386 tw13429469888438109885 tw16635179575315001573 tw12106417923636083733 tw16834646073665264265 tw17257600170724127477 tw9738633426293483320 tw2103814903712885160 tw14488268002367991029 tw5428032107785692336 tw14855555253513019119 tw14370378877692388651 tw10465524595470850560 tw14294765065092526404 tw8891461680933206491 tw12249215660683076288 tw11546729896537295205 tw3813777562886491801 tw13167245080568469622 tw9598534109478876955 tw9077850236599395844 tw16029053461890440551 tw10344350271791056488 tw2253763704294078382 tw12441293655838799604 tw14674354705757994058 tw17875310525710368959 tw7772244725659691670 tw13525828372082717187 tw8425147836588259870 tw5256023987847259442 tw13651289887271860966 tw13584230103363342300 tw17397738424556572861 tw6267121767344588798 tw5908421851310423884 tw7662117333412839551 tw1212730081783305027 tw6232125015550877855 tw11184828592388470524 tw4573182393628969324 tw16641236947905888233 tw12387143825396947991 tw12672651484146616620 tw16668794818568793401 tw11806932618131146742 tw6675728616493561282 tw259482697447724011 tw13920367895431987051 tw13650849218174785198 tw13190613668874302605 tw4821941249043284306 tw4083750296297968502 tw5526132490343280053 tw8865956077773081118 tw11588637617886626085 tw9470606823611964172 tw16626520119195021472 tw3977311595918678028 tw15860044212581691746 tw15597229470752090394 tw6986458328398061387 tw12230534781352402883 tw16191627965627861643 tw7922666397442641806 tw4568427484704309681 tw9688741051806428304 tw10579540989257201037 tw18157397055761412468 tw13728989491825431930 tw17278749554442715318 tw16872471715413974751 tw17347019670341085463 tw6474814724130170222 tw2544125759649623912 tw7598008563911565718 tw6089867371468092938 tw8022262004393817319 tw13792049501063468560 tw17382121654856030215 tw12764184034321950113 tw2830695993391927 tw17180286862952365356 tw16118212419296655154 tw3887374744020764170 tw8051817206391231005 tw4895902964808878781 tw16669787224667129163 tw9927787353060073137 tw16424359072757208370 tw7503629845812535971 tw5923686192738319506 tw7085632182818384811 tw3622976161263665564 tw12474231052610961688 tw11710927016347981112 tw3212730020729093055 tw7873014574799320169 tw1057902864673004426 tw8725737946637713562 tw14855736731724503649 tw6105872033499512009 tw2092416035079252985 tw17372915932339836543 tw2806504915079449496 tw15252914327047064359 tw13591157265558868499 tw7740836156572260457 tw11694608416963813299 tw12448234432643565419 tw16056308285233498853 tw17592948435568918008 tw11927839975860967910 tw16037822142172096844 tw14556128334822451352 tw15454309637050589391 tw7303878224283478251 tw3223127607880944248 tw3210705033473552723 tw2579176181069610039 tw8553639009429491015 tw17926088508690394392 tw17726627744184869699 tw13791551841765374570 tw16899492446127193735 tw9834947318344329545 tw17450328259718164577 tw1099623303757411341 tw10282007989337495959 tw18052513651365075705 tw11373653927705378442 tw14393413467261198009 tw5057954569919339706 tw677278311497419512 tw16289632450685531490 tw5274267753503286374 tw1773431430736217945 tw5812345921502759261 tw3273046339009701804 tw17962216682336458182 tw5087690105888491377 tw13565599070002303846 tw4670439118472434202 tw14790100977315260908 tw6071495205801365121 tw5688563444639137101 tw8511454211155661627 tw3595299592352640692 tw566730341144717470 tw5967661586538504153 tw9596450372263620408 tw13869856888723461442 tw13579847257514810110 tw11692530159952731263 tw2315036489514479255 tw9547353342365728529 tw4773627345073882151 tw559816455536980754 tw16553908704561291517 tw7675903027203466796 tw16855349789922915555 tw17014565902272749851 tw9226074752610080949 tw13390814547128547945 tw9661116159044199984 tw18292522558245091736 tw6164509914824858776 tw6362273171170238642 tw11322635109543590238 tw7547490332076287646 tw17417173117479328568 tw16118604036147644148 tw1752207870998379278 tw5745307648395432941 tw4937185735289841163 tw17252392411485725417 tw8130752039563641185 tw9771539881197067521 tw3283938286881242630 tw1621395695761250577 tw12115630110831188806 tw7051949501233814690 tw1866793365414537937 tw6867542413893079487 tw1706476128629603328 tw2979582964111970099 tw16016821271796704541 tw3133439945980523820 tw15389520170974080538 tw2232946519801169569 tw4418142966834868651 tw16251032622858824492 tw3896539186722946106 tw3261890514335403348 tw460000244199820397 tw7882828771790553773 tw13542641173066272840 tw2968555950524707049 tw8911961959623871978 tw18141121498518629531 tw6980076636736309190 tw5834137468495612121 tw4120077447785357937 tw7545182708315458476 tw18015345065152715530 tw15641099200584616177 tw1953864211061962161 tw10915521177481565318 tw8824059440948812003 tw11622055616200229970 tw10236344142765646362 tw14770949787891317488 tw3248862513943977896 tw18345412875287852057 tw4722863618899444856 tw1329710934390011891 tw5786038678458327089 tw18157175131530087964 tw15134997941152521054 tw16954749051738348705 tw3525711105528660389 tw2659559733630858195 tw8415663073794832406 tw1362602541372626696 tw1440606708310681547 tw4881923100931135680 tw15124530234767915518 tw16184038457062601897 tw5191133357488210793 tw4640959862613959056 tw8423530467353655553 tw2425624038921550343 tw12218092892901438796 tw6967882110568317418 tw9743999947697800423 tw3511619853164288265 tw10814381945503377364 tw14886614317806608130 tw17470212850205951838 tw3995011848475496517 tw17040045264431672533 tw14679940206261420200 tw10340676487213746364 tw9755236387053489620 tw8171981706977071382 tw10660109412954048811 tw8531859200650313350 tw2446227874427560725 tw6564968594498768420 tw17980360642004820775 tw1844716157915957153 tw7859736706036186028 tw2315362983077296718 tw12637384805284346822 tw2048621728259778372 tw14626334142690024529 tw13451525204285689709 tw13754766174981994015 tw2942414557207444623 tw2302614317190377770 tw8737001623807815456 tw10590554200371423830 tw14252641645809842060 tw10923398518672366285 tw16053003004366485472 tw2657156062146847576 tw12368040583242512775 tw5349367238157874219 tw11614567457930592210 tw16991924205128554319 tw12036982451584754592 tw9186359451567633086 tw7083889297497272152 tw2668341961453507104 tw2700033122493279949 tw6062151151037843641 tw10046348857591774533 tw9257395079455236888 tw16173815845473215136 tw9799461816163374928 tw11828106410946360584 tw12118410084995443263 tw7018501300331422419 tw15442617896956809048 tw2210889595875812965 tw18343119277087159386 tw16731878787898354093 tw13726407457557971445 tw12504522617120042191 tw10376751364300925167 tw681461419173774831 tw10754867466474327750 tw5226593258631275672 tw2073084404903901084 tw8589268492447310980 tw6369524618544246040 tw1383630963172103652 tw877365705147782186 tw7282380902841696333 tw11941284035991480083 tw7077586739317328019 tw16170433767199271839 tw2445127723421934673 tw12806104913222786865 tw8191247832054334031 tw12765100037137266134 tw3008046589682965512 tw15639425736160885071 tw1308046232808364155 tw11899584130208109543 tw14180572676296912587 tw4141614531425880876 tw13909336116251377549 tw79315724170377935 tw12751931770610761224 tw7364658419980288569 tw17472453145873570852 tw5295778417205309662 tw8036005231322596021 tw5510786286821991688 tw170158304719627979 tw18433322229470878006 tw8729211042442290531 tw13603181311253384526 tw5124612603634416514 tw15813788994717391453 tw12213592279799868637 tw17398049179043934141 tw18192402612041882613 tw6975378550789194197 tw17559404923582640296 tw12710490911498758377 tw14637740297798078146 tw15247865284658161688 tw18373467677789725904 tw503801395652760891 tw4787886068757451876 tw10455319533042361422 tw6317363604013409287 tw7073127135484720701 tw7757635316519961511 tw6886731237162648312 tw2439655180505235086 tw1240596100776369051 tw14723541546939465289 tw14238868090640375920 tw3994575604203529114 tw7224400689434421837 tw12190821684247877201 tw10926437239074226381 tw11008265564029292125 tw191271615039711551 tw4187896195230243603 tw7168154547115936537 tw14722566245955817663 tw16215006434517552669 tw13089547872088334096 tw17394636836779929805 tw7303795724428190073 tw8597909340683751522 tw7983646929477047099 tw5235610648351484328 tw14864363336051765805 tw11023171310394060576 tw8468553839198997457 tw6117204411945445281 tw4442893415376297459 tw14954516591679264411 tw14557588130921681268 tw3519320063932987053 tw14559521539850395041 tw11912393722100974254 tw6807957877117953430 tw2901990064260373900 tw8780350985426229984 tw1571858569462671589 tw453248757622222512 tw18168362260319935643 tw10717435010862097719 tw10282125363896085375 tw2548355315168038206 tw13275988498895913201 tw17832163047040061767 tw13881818289619312020 tw14843042507471577582 tw9361707476273008575 tw1190639927816695702 tw10816851369772110404 tw9004949761954622950 tw5282262124424627600 tw5393226223279253 tw16399115271708623724 tw8862668677682367168 tw771811902826527114 tw168992910599454209 tw16262072474016335670 tw9887588812234576655 tw13917796950881594006 tw3357438641241246626 tw10308626349804995308 tw14475285654939297267 tw13692866938779588167 tw7971190207096027818 tw1424113402076263324 tw17981351435328102288 tw623242868881430224 tw16476226573451872891 tw9944484788173262433 tw11420142425369096997 tw2675077975777414067 tw16362249226178610221 tw6751822496747372851 tw8458851836348821303 tw13298519143573090880 tw12306526279556232201 tw15342342798994083676 tw18421784322342795057 tw348740407977061767 tw6337687290158765290 tw3286036522342893422 tw16471288924112157915 tw4213209213874252905 tw14720685273990619684 tw11406179212828312098 tw9932914607041491232 tw6381522588685709876 tw4674109452199271663 tw9080812430203351141 tw12444639407288263059 tw13781972181028867951 tw6134356055750750060 tw1724027274118384782 tw12150426179348877683 tw14260076507065964034 tw6097664249686771197 tw7598217026543695210 tw13043246546328521174 tw16006391886199938307 tw10843934487781444223 tw11660308200499896631 tw3136838795813901285 tw17684280852163500964 tw61192662388469562 tw13668073944973527368 tw13544002593455888330 tw1563462375806028923 tw15145035403899370341 tw17571019965368714253 tw2065980878546193089 tw4680795790869428935 tw17812338663685864111 tw6191095594045278327 tw15515043855646575406 tw8143440179823529250 tw5407039486952956759 tw12044075009134369982 tw17437565187223811544 tw10901646815794503326 tw16426108933907987964 tw16656718568682807940 tw11628258891767292752 tw16514824528868550619 tw9406802083136189371 tw14762248623107013172 tw11502381406783033284 tw12250955971646645658 tw15292132084762531282 tw3890981114392697063 tw14246579146775628353 tw3783932796265942406 tw3009392672143271281 tw9809034808204207394 tw6750925540140904694 tw12783362418510534219 tw15395524026394850511 tw14939292288460701651 tw6276633756850247341 tw15677181302828274682 tw13084185178746751613 tw16851986372535359504 tw10163729927612024444 tw3602497042160664479 tw13030461376703300999 tw164708759767782413 tw9340055389483550645 tw6348616241176134016 tw15729155941647347413 tw997147198364189277 tw12414243922222027332 tw4561497047097082267 tw5805915394429330127 tw4427481918377232289 tw1314052246392799821 tw3486909217088285590 tw5997208044103648940 tw14186559104293936475 tw9732838673891583800 tw1682637684831837285 tw6941928943402608842 tw1659614588930229638 tw9727194875254479923 tw1075065154136019102 tw10043097308993358518 tw16647243544231836820 tw556045434685952909 tw12513339574302846751 tw17939784774332237678 tw14332988284779269618 tw7896265528245145076 tw7016566099151172185 tw5549148502604141112 tw7321149098942671805 tw2103267516434342589 tw840496921804285980 tw16434115591435020007 tw2541134570731444995 tw10705828960284938503 tw3322297817095356675 tw2746498473420176111 tw3012467871068583503 tw18446121844081658666 tw13583521380291088754 tw15567375515472466592 tw12016608617492954291 tw1483153235260562263 tw11405794207293941889 tw17315932731999365138 tw17201568778255148431 tw9829763021808924059 tw16925461739940877252 tw11451980489232634962 tw5779488930471852564 tw12279580547589702921 tw9492170017842334236 tw15614258199018803292 tw13931400249272273172 tw2305832977403288150 tw8905453386493777659 tw7011497054270780079 tw11816986610990038028 tw2919869132348729254 tw14287589638877132413 tw11627604577894483252 tw9490058774540479496 tw17178951592243319773 tw12895249646453056734 tw15615176584573952021 tw316180237052899864 tw6997153998100005247 tw13060319791814601136 tw6793948357382228715 tw7949320493307501918 tw11309356130359478900 tw3042609960474837267 tw17593071647110850932 tw6862431402144409284 tw3570184161517824840 tw794475411186585401 tw8275205678417380669 tw6613062999408079889 tw13767288452691651963 tw9292034122712615841 tw2043875274748579880 tw15479154276322278489 tw6533468027350605602 tw17927085522590392309 tw9699415844591760319 tw3463611290103203327 tw15846973420450659229 tw6751606449974111557 tw16924188050288855795 tw11072799166354493343 tw4103016135201048762 tw14279895392483688929 tw6434543527266540256 tw3485098755537244704 tw16007759370000731577 tw7284154270963228950 tw1075975784409439529 tw2938980736226511383 tw11757554791741301818 tw5492317288929722082 tw3216519354612683591 tw12399944806818757806 tw10192334368063588610 tw12251072514562172475 tw13832572741073808216 tw9370273695822533672 tw4741521990903479832 tw15045574070997966479 tw14276766295274211468 tw7077054835225634789 tw10290672420680107505 tw3621643081680624394 tw3072579705288213568 tw9846321591573412034 tw13091692537433545451 tw13490918142693548121 tw8364403866232393679 tw2015421983727487252 tw2488827290678788002 tw4266639292074318909 tw1699246062733389720 tw15909572194556284746 tw1727222741476157288 tw14918835715846862170 tw16308050040289128967 tw9461796301727422477 tw17755569307412291223 tw13956596778579829058 tw6356855456261600034 tw16158303439873899426 tw16558924832489586271 tw16094659288812847024 tw325878978186347035 tw14933379382550407763 tw11400329603986952705 tw3139533135417054987 tw15689354932142840765 tw15173431368950442662 tw9498656130806023874 tw14690212955981597662 tw18410677570852372387 tw11798923623305532016 tw15542501044813163734 tw4110988879625194911 tw2481020663384696246 tw13450510998082300481 tw5529501793160827175 tw11296285864942138234 tw11858591050872781393 tw2438243807364049417 tw6095639054228013971 tw7078440629444228654 tw6861078500806887274 tw4317818030669804910 tw3805305334189013150 tw14773514242828658867 tw6253983106648645912 tw715810763146358378 tw4382501794224979686 tw4850958494573320425 tw11914999282485332305 tw9937969602586694550 tw9211897553663635156 tw8890741571456590377 tw7403735788573199023 tw940404064178468940 tw10769269157438654125 tw13967452713247723189 tw15418469106629098632 tw7532196150188297069 tw13650329734994535086 tw5492701917549646703 tw16776234969982510707 tw10040409877882870788 tw8788479641465795159 tw10682205453396223021 tw4263455348175818152 tw13796065290049561715 tw8833525344083264291 tw17327449469855706159 tw8506014372247715067 tw7453737948269924505 tw7502268451020377162 tw11703354471221330789 tw10017809407169922274 tw9490747214565787547 tw2236455521304523626 tw12820615182838251599 tw12982938168235101111 tw1520439145702961020 tw9235261716390426852 tw1952802399072371849 tw11070808380524107921 tw4615774030054973385 tw17777896050993270987 tw4076441240643431053 tw5488546008761680687 tw7873149000604693398 tw17327380637970474280 tw12220887824888311408 tw6491900259263733487 tw9548547801225851390 tw10600795266279135006 tw6494268270964486043 tw17446230601645712856 tw13557725239383269615 tw484628109085653914 tw4409113844666872162 tw2379552316380750466 tw10510479056225858052 tw10545412604728649616 tw14731256694336570525 tw4730870216649513355 tw3796221489088783205 tw1447625570220922395 tw17514963162890477628 tw6745582147843038346 tw8617786923767219085 tw14450636823567791393 tw9661057722674607704 tw17949444268079891901 tw4291249372272207515 tw5252617559708758058 tw11968022320499419805 tw17159950557605028332 tw8096973204104307393 tw17779711732676160906 tw14607296874825196317 tw8300614452635215702 tw12676870021678271794 tw15973261577985645168 tw6830099752146416858 tw10783588713597421065 tw5282406477149492766 tw326288550775449727 tw5611180842378122236 tw10425065977538714042 tw6492341583839493802 tw5801072186051481892 tw9667976215305815200 tw4910316815574350395 tw1199717573691267108 tw17620387688158439053 tw14282570628982152333 tw9495091528192923315 tw3659149124360941435 tw16204391365945488195 tw1098642494345529782 tw10371786335723058270 tw1272832340068690892 tw3457201887898354509 tw670503699991808358 tw2539853851825177270 tw6268899379540730842 tw9023208738754776503 tw14448922401748080327 tw18032643385078630132 tw15020616738520088609 tw10858345269003800049 tw5092110416728638495 tw11974274691336081456 tw14417045976526465417 tw3105887620251129286 tw8759158107594507229 tw6049804336414705509 tw14139620883009595769 tw2247194306964223051 tw6797915238105798504 tw13531932735553045018 tw16318369330057211080 tw738936570476703202 tw17592101255959644012 tw14183557769836184000 tw9533801804304800487 tw2723360677765011183 tw16454643848995769841 tw12974829064719475772 tw14900571215083399554 tw17356709103192360701 tw12475747749908339905 tw15498208713333716772 tw18034616121439064236 tw10531746787963281572 tw5670503875623389207 tw13528427677524332080 tw17594703786037864666 tw2556991718490372943 tw15417515449480307828 tw13121195670547956024 tw3767220213796138424 tw9015417759682959805 tw14264043905569215443 tw2948975765633450398 tw18406456007394902025 tw11615808756335353504 tw1628076085410655308 tw15644620866336520807 tw5621828230265259505 tw13219365596310526837 tw9257887346751189381 tw6957756186980192392 tw15007157037500946311 tw17513995089120198963 tw10291255512690290747 tw15022206631334319395 tw2752150770757601607 tw6342269581027026830 tw7003277666534232681 tw512235666577452257 tw663802483898869203 tw3531892634812995214 tw1929492103961550169 tw7296361469613252236 tw7513499914820170436 tw10827721658075072433 tw12792591563049996726 tw5821275716918483733 tw12502498995188437646 tw10649919278035212090 tw8267652282129549156 tw1452401827614117228 tw11850058378505395690 tw9299766860184461055 tw2381600144686028581 tw10950891168414392661 tw14275011836522060728 tw15484447362826174123 tw12002761559842190346 tw1659186773579206856 tw11740310573470072048 tw13410650197428862777 tw9676155998441333641 tw18182063002678629858 tw15003781303724564461 tw16180669644382339322 tw8222068462238828765 tw3540194482547170820 tw5680128745537338136 tw2017048731884913298 tw10797144341672441378 tw7391931329679016885 tw13228176603197339306 tw17214246621128599682 tw9301554140626027556 tw5750337283779485601 tw2022251235232172310 tw12065293692322813800 tw8700074773222841865 tw8168439433436178823 tw16563277987176242756 tw7418913800946775469 tw1423108903827332660 tw12245475384122893501 tw10747805325774960914 tw14478887032093018847 tw2603568532584758606 tw17759906724118362189 tw11344022461071160301 tw9046142289365883276 tw17333367763372056449 tw2564985050281490727 tw6941947965395591758 tw5509192342106573616 tw3553666077604141282 tw3332015590320644728 tw9808008836544376119 tw9510270233412594810 tw5446178420925912960 tw16140593756776786158 tw15512966676162346990 tw6754132610982717694 tw12960466053733808028 tw2359675122008815277 tw16959011279453851382 tw2746033857187671640 tw12150490699309560045 tw1442674028551618670 tw823739728479459679 tw8996603547946482839 tw573544835705022924 tw8592983566463540341 tw6147408238307159593 tw7989980072068288128 tw16949966766887992030 tw10143925332032251109 tw5694547388913477729 tw3505135425084597084 tw1137105686555946801 tw8831811944440087890 tw11279169725495244602 tw13318442229925907655 tw5427148343588547042 tw366971676835286526 tw1863778427615541297 tw13079548097085023921 tw7436566622792425496 tw10894671928103208812 tw1736620919165946305 tw24315794736678113 tw3931694802804567719 tw13277494931448137935 tw14064594058183039591 tw3756137873872131653 tw17360492808142608997:True)
end
namespace L2
open PySem PySem.W
def liveO (o:Obj):Option Obj:=match o with
 | ⟨_,_,.freed,_⟩=>none
 | o=>some o
noncomputable def pick (l:List Obj):Nat→List Nat→List (Option Obj):=@List.rec Obj (fun _=>Nat→List Nat→List (Option Obj)) (fun _ as=>@List.rec Nat (fun _=>List (Option Obj)) [] (fun _ _ r=>none::r) as) (fun o _ ih i as=>@List.rec Nat (fun _=>List (Option Obj)) [] (fun a r _=>@Bool.rec (fun _=>List (Option Obj)) (ih (Nat.succ i) (a::r)) (liveO o::ih (Nat.succ i) r) (Nat.beq i a)) as) l
theorem pick_ok {h:Heap}:∀(l:List Obj) (i:Nat) (as:List Nat) (vs:List Obj),h.objs.toList.drop i=l→pick l i as=vs.map some→as.map h.get?=vs.map some:=by
 intro l;induction l with
 | nil=>
  intro i as vs _ e;cases as with
  | nil=>exact e
  | cons a r=>cases vs with
   | nil=>cases e
   | cons v vs=>injection e with e _; cases e
 | cons o l ih=>
  intro i as vs hd e
  have h1:h.objs[i]?=some o:=by rw[←Array.getElem?_toList,←List.head?_drop,hd]; rfl
  have h2:h.objs.toList.drop (i+1)=l:=by rw[←List.tail_drop,hd]; rfl
  cases as with
  | nil=>exact e
  | cons a r=>
   replace e:(@Bool.rec (fun _=>List (Option Obj)) (pick l (i+1) (a::r)) (liveO o::pick l (i+1) r) (Nat.beq i a))=vs.map some:=e
   cases hb:Nat.beq i a with
   | false=>rw[hb]at e; exact ih _ _ _ h2 e
   | true=>
    rw[hb]at e;cases Nat.eq_of_beq_eq_true hb;cases vs with
    | nil=>cases e
    | cons v vs=>
     injection e with e1 e2;rw[List.map_cons,List.map_cons,ih _ _ _ h2 e2,←e1];congr 1;unfold Heap.get?;rw[h1];cases o with
     | mk c d b s=>cases b <;> rfl
noncomputable def pHook (K:Params→Frag) (as:List Addr) (e:∀P,as=(K P).map (·.1)):Hook:=⟨List (Option Obj),fun s=>pick s.heap.objs.toList 0 as,fun w=>(K w.params).map fun p=>some p.2,InK K,fun w s y=>InK.of e w s (by
  have z:(K w.params).map (fun p=>some p.2)=((K w.params).map (·.2)).map some:=by rw[List.map_map]; rfl
  rw[z]at y ⊢;exact pick_ok _ 0 as _ rfl y),InK.keeps⟩
end L2
open PySem PySem.W PyProof.Rows
local macro_rules | `(tactic| o_head ($f $K $a $e)) => `(tactic| o_head L2.pHook $K $a $e)
set_option maxRecDepth 100000 in
set_option maxHeartbeats 0 in
theorem PySem.Challenge.cw_evernever_k42_desk_shows_holds : PySem.Challenge.rw_evernever_k42_desk_shows.Holds := by
 w_on; o_law; k_head; (case hw=>w_witness2)
 k_fill
 refine L2.walk_ofK (l:=PySem.Challenge.rw_evernever_k42_desk_shows) (n:=63) (k:=80) (x:="_law_script") (CX:=L2.CX0) (sp:=LW.spLaw) rfl (by decide) rfl ⟨rfl,by decide,by decide⟩ (fun w h Y=>Y) ?F ?S ?C
 case F=>
  intro w mg fa h KX G hmg
  have T:∃t,LW.Txt (L2.KOf KX) mg t:=by
   dsimp only [L2.KOf]
   refine' LW.txt_mk KX G ?_ ?_ ?_ ?_ ?_ ?_ ?_ ?_ ?_ ?_ ?_ ?_ ?_ ?_ ?_ ?_ ?_ ?_ ?_ ?_ ?_ ?_ ?_ ?_ ?_ ?_ ?_ ?_ ?_ ?_ ?_ ?_ ?_ ?_ ?_ ?_ ?_ ?_ ?_ ?_ ?_ ?_ ?_ ?_ ?_ ?_ ?_ ?_ ?_ ?_ ?_ ?_ ?_ ?_ ?_ ?_ ?_ ?_ ?_ ?_ ?_ ?_ ?_ ?_ ?_ ?_ ?_ ?_ ?_ ?_ ?_ ?ZjU ?_ ?_ ?_ ?_ ?_ ?_ ?_ ?_ ?_ ?_ ?_ ?_ ?_ ?_ ?_ ?_ ?_ ?_ ?_ ?_ ?_ ?_ ?_ ?_ ?_ ?_ ?_ ?_ ?_ ?_ ?_ ?_ ?_ ?_ ?_ ?_ ?_ ?_ ?_ ?_ ?_ ?_ ?_ ?_ ?_ ?_ ?_ ?_ ?_ ?_ ?_ ?_ (LW.dmk ?_ ?_ ?_) (LW.dmk ?_ ?_ ?_) (LW.dmk ?_ ?_ ?_) (LW.dmk ?_ ?_ ?_) (LW.dmk ?_ ?_ ?_) (LW.dmk ?_ ?_ ?_) (LW.dmk ?_ ?_ ?_) (LW.dmk ?_ ?_ ?_) (LW.dmk ?_ ?_ ?_) (LW.dmk ?_ ?_ ?_) (LW.dmk ?_ ?_ ?_) (LW.dmk ?_ ?_ ?_) (LW.dmk ?_ ?_ ?_) (LW.dmk ?_ ?_ ?_) (LW.dmk ?_ ?_ ?_) (LW.dmk ?_ ?_ ?_) (LW.dmk ?_ ?_ ?_) (LW.dmk ?_ ?_ ?_) (LW.dmk ?_ ?_ ?_) (LW.dmk ?_ ?_ ?_) (LW.dmk ?_ ?_ ?_) (LW.dmk ?_ ?_ ?_) (LW.dmk ?_ ?_ ?_) (LW.dmk ?_ ?_ ?_) (LW.dmk ?_ ?_ ?_) (LW.dmk ?_ ?_ ?_) (LW.dmk ?_ ?_ ?_) (LW.dmk ?_ ?_ ?_) (LW.dmk ?_ ?_ ?_) (LW.dmk ?_ ?_ ?_) (LW.dmk ?_ ?_ ?_) (LW.dmk ?_ ?_ ?_) (LW.dmk ?_ ?_ ?_) (LW.dmk ?_ ?_ ?_) (LW.dmk ?_ ?_ ?_) (LW.dmk ?_ ?_ ?_) (LW.dmk ?_ ?_ ?_) (LW.dmk ?_ ?_ ?_) (LW.dmk ?_ ?_ ?_) (LW.dmk ?_ ?_ ?_) (LW.dmk ?_ ?_ ?_) (LW.dmk ?_ ?_ ?_) (LW.dmk ?_ ?_ ?_) (LW.dmk ?_ ?_ ?_) (LW.dmk ?_ ?_ ?_) (LW.dmk ?_ ?_ ?_) (LW.dmk ?_ ?_ ?_) (LW.dmk ?_ ?_ ?_) (LW.dmk ?_ ?_ ?_) (LW.dmk ?_ ?_ ?_) (LW.dmk ?_ ?_ ?_) (LW.dmk ?_ ?_ ?_) (LW.dmk ?_ ?_ ?_) ?_ ?_ ?_ (LW.dmk ?_ ?_ ?_) ?_ (LW.dmk ?_ ?_ ?_) ?_ (LW.dmk ?_ ?_ ?_) ?_ (LW.dmk ?_ ?_ ?_) ?_ (LW.dmk ?_ ?_ ?_) ?_ (LW.dmk ?_ ?_ ?_) ?_ (LW.dmk ?_ ?_ ?_) ?_ (LW.dmk ?_ ?_ ?_) ?_ (LW.dmk ?_ ?_ ?_) ?_ (LW.dmk ?_ ?_ ?_) ?_ (LW.dmk ?_ ?_ ?_) ?_ (LW.dmk ?_ ?_ ?_) ?_ (LW.dmk ?_ ?_ ?_) ?_ (LW.dmk ?_ ?_ ?_) ?_ (LW.dmk ?_ ?_ ?_) ?_ (LW.dmk ?_ ?_ ?_) ?_ (LW.dmk ?_ ?_ ?_) ?_ (LW.dmk ?_ ?_ ?_) ?_ (LW.dmk ?_ ?_ ?_) ?_ (LW.dmk ?_ ?_ ?_) ?_ (LW.dmk ?_ ?_ ?_) ?_ (LW.dmk ?_ ?_ ?_) ?_ (LW.dmk ?_ ?_ ?_) ?_ (LW.dmk ?_ ?_ ?_) ?_ (LW.dmk ?_ ?_ ?_) ?_ (LW.dmk ?_ ?_ ?_) ?_ (LW.dmk ?_ ?_ ?_) ?_ (LW.dmk ?_ ?_ ?_) ?_ (LW.dmk ?_ ?_ ?_) ?_ (LW.dmk ?_ ?_ ?_) ?_ (LW.dmk ?_ ?_ ?_) ?_ (LW.dmk ?_ ?_ ?_) ?_ (LW.dmk ?_ ?_ ?_) ?_ (LW.dmk ?_ ?_ ?_) ?_ (LW.dmk ?_ ?_ ?_) ?_ (LW.dmk ?_ ?_ ?_) ?_ (LW.dmk ?_ ?_ ?_) ?_ (LW.dmk ?_ ?_ ?_) ?_ (LW.dmk ?_ ?_ ?_) ?_ (LW.dmk ?_ ?_ ?_) ?_ (LW.dmk ?_ ?_ ?_) ?_ (LW.dmk ?_ ?_ ?_) ?_ ?_ ?_ ?_ ?_ ?_ ?_ ?_ ?_ ?_ ?_ ?_ ?_ ?_ ?_ ?_ ?_ ?_ ?_ ?_ ?_ ?_ ?_ ?_ ?_ ?_ ?_ ?_ ?_ ?_ ?_ ?_ ?_ ?_ ?_ ?_ ?_ ?_ ?_ ?_ ?_ ?_ ?_ ?_ ?_ ?_ ?_ ?_ ?_ ?_ ?_ ?_ ?_ ?_ ?_ ?_ ?_ ?_ ?_ ?_ ?_ ?_ ?_ ?_ ?_ ?_ ?_ ?_ ?_ ?_ ?_ ?_ ?_ ?_ ?_ ?_ ?_ ?_ ?_ ?_ ?_ ?_ ?_ ?_ ?_ ?_ ?_ ?_ ?_ ?nd_ ?_ ?_ ?_ ?_ ?_ ?_ ?_ ?_ ?_ ?_ ?_ ?_ ?_ ?_ ?_ ?_ ?_ ?_ ?_ ?_ ?_ ?_ ?_ ?_ ?_ ?_ ?_ ?_ ?_ ?_ ?_ ?_ ?_ ?_
   all_goals (try k_is)
   (case ZjU=>k_exc)
   (case nd_=>decide)
  obtain⟨t,T⟩:=T;have e0:=hmg.symm.trans T.m_law
  cases e0
  exact⟨_,T.bl,fun base _ _=>LW.ok_law T⟩
 case S=>exact fun K H a ns hl hO hS=>⟨a,ns,rfl,hS,hl,hO,fun _=>rfl⟩
 case C=>exact fun _ _ _ _ z=>z
#print axioms PySem.Challenge.cw_evernever_k42_desk_shows_holds
