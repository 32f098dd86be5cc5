import PyProof.Rows.All
import Wide.All
import OpenK.AllK
import Wide.FinOn
import Lean
import PyProof.EqAt
import PyProof.EqKinds
import PyProof.TupleCall
import KE.KSortTup
import PyProof.ExcAttrAll.ValueError
import PyProof.ExcArgsOwn
import KE.KTryMore
import KE.KIsNot
import KE.KPairComp
import KE.KDictSum
import KE.KEqDict
import KE.KRevIter
import PyProof.CollectIter
import PyProof.TupleOfGen
import PyProof.Rows.TupDisplay
import PyProof.Rows.SetFrom
import PyProof.NeKinds
import PySem.Challenge.RW_parleyturn_k05_parts
set_option Elab.async false
set_option compiler.extract_closed false
set_option bootstrap.genMatcherCode false
set_option linter.all false
set_option maxRecDepth 100000
set_option maxHeartbeats 4000000
set_option backward.eqns.nonrecursive false
set_option backward.match.sparseCases false
set_option genSizeOf false
set_option genSizeOfSpec false
open Array renaming forIn_toList→Zui,getElem?_eq_getElem→nh,getElem?_eq_none→Zu3,getElem?_eq_none_iff→Zuz,getElem?_toList→sQ,length_toList→m5,toArray_toList→Zvh,toList→ZtI,toList_push→ZuO
open Bool renaming and_assoc→Ov,and_eq_true→cJ,and_false→vt,eq_false_iff→jR,eq_iff_iff→jQ,false_eq_true→ll,false_ne_true→ei,false_or→NN,noConfusion→ZuN,not_eq_true→ZvA,not_eq_true'→sX,not_not→Zvz,not_true→Dv,or_eq_false_iff→Et,or_eq_true→ZvH,true_and→oJ,true→be,false→bi
open Classical renaming byContradiction→zp,choose_spec→Oq,not_forall→OD,not_imp→OE,propDecidable→vA
open Eq renaming symm→Dt
open False renaming elim→dD
open ForInStep renaming yield→Zur
open Int renaming emod_eq_of_lt→OF,emod_lt_of_pos→qK,emod_nonneg→qJ,le_refl→zm,lt_of_le_of_lt→Zvu,mul_nonneg→Zvv,toNat→vL,toNat_natCast→l_,toNat_of_nonneg→ni,zero_add→Ow
open List renaming Nodup→qN,all_cons→gg,all_eq_true→g7,all_map→Zum,any_cons→ky,any_eq_true→vR,append_assoc→ju,append_cancel_left→Zvs,append_nil→eZ,append_of_mem→zo,concat_eq_append→OC,cons_append→Oo,cons_ne_nil→zj,countP→ZvM,countP_append→Ox,countP_cons→ZvN,countP_le_length→Oz,count_cons→ZvO,dropLast_concat_getLast→Zvw,drop_eq_getElem_cons→Dz,drop_length→NU,drop_zero→Zux,eq_nil_or_concat→OB,exists_cons_of_ne_nil→Ej,ext_getElem?→Du,filterMap_cons→yT,filterMap_map→ZtO,filter_append→ZvP,filter_cons_of_neg→ZvC,filter_cons_of_pos→ZvB,filter_eq_nil_iff→Er,filter_sublist→Es,find?_cons→vz,find?_cons_of_neg→Om,find?_cons_of_pos→Ol,flatMap_append→vU,flatMap_cons→qM,flatMap_map→ZvI,flatMap_nil→Zvx,foldl_append→DV,foldl_cons→DU,forall_mem_cons→zq,getD_eq_getElem?_getD→ma,getElem?_append_left→iF,getElem?_append_right→m8,getElem?_cons_succ→qG,getElem?_cons_zero→qL,getElem?_eq_getElem→cy,getElem?_eq_none→sZ,getElem?_eq_none_iff→y8,getElem?_eq_some_iff→bF,getElem?_inj→Ef,getElem?_map→bW,getElem?_of_mem→zh,getElem?_range→Zuy,getElem?_replicate→NQ,getElem?_set_ne→dh,getElem?_set_self→ij,getElem?_zip_eq_some→Ou,getElem_map→Zvp,getElem_mem→NZ,getElem_toArray→Zup,getElem_zip→Zt9,idxOf_cons→Zvk,idxOf_lt_length_iff→Zvl,length→qm,length_append→bB,length_cons→bh,length_drop→Dj,length_eq_one_iff→ZvF,length_eq_zero_iff→Zu0,length_eraseIdx_of_lt→Zu1,length_filter_le→ZvE,length_map→aE,length_nil→jP,length_range→oH,length_set→e_,length_singleton→vC,length_take→kv,length_zip→qt,lookup_cons→Zuq,map→Ot,map_append→bX,map_congr_left→qF,map_cons→br,map_drop→Zuv,map_eq_nil_iff→ZvD,map_inj_right→Ei,map_map→ej,map_nil→vu,map_snd_zip→Od,map_take→NV,mem_append→bQ,mem_append_left→d_,mem_append_right→dV,mem_cons→a7,mem_cons_of_mem→cx,mem_cons_self→bE,mem_filter→dt,mem_filterMap→qk,mem_flatMap→nk,mem_iff_getElem→Zuk,mem_map→aL,mem_of_getElem?→cj,mem_of_mem_drop→Zvr,mem_of_mem_take→Zvq,mem_range→lu,mem_singleton→aZ,nil_append→ZvJ,nodup_append→oP,nodup_cons→gf,nodup_iff_pairwise_ne→Ed,nodup_range→Zvt,not_mem_nil→kC,of_mem_zip→vo,pairwise_append→OA,pairwise_cons→g_,pairwise_map→Ek,pairwise_singleton→DB,range→eG,range'→nj,range'_succ→vS,range_eq_range'→vT,range_succ_eq_map→Zul,replicate→yZ,reverse_cons→Eg,set_cons_zero→qI,size_toArray→di,take_add_one→jv,take_append_drop→Em,take_length→jS,take_of_length_le→zl,zipWith→Zvj,zip_cons_cons→Zve
open List.Pairwise renaming imp_of_mem→ZwL,nil→NM
open List.cons renaming inj→oO
open Nat renaming add_assoc→vB,add_comm→zk,add_le_add→Oy,add_right_comm→El,ble→vh,le_add_left→kB,le_antisymm→NT,le_of_ble_eq_true→ig,le_of_eq→vv,le_of_lt→du,le_of_not_lt→Zt1,le_one_iff_eq_zero_or_eq_one→Zu4,le_refl→ba,le_succ→i7,le_succ_of_le→NS,le_trans→cv,lt_irrefl→js,lt_of_le_of_lt→iG,lt_of_lt_of_le→iE,lt_succ_of_lt→lp,lt_succ_self→sW,lt_trans→l8,min_eq_left→Eu,min_le_left→ZvK,min_le_right→ZvL,mul_le_mul→Eo,mul_le_mul_right→ZvG,ne_of_gt→oB,ne_of_lt→b5,not_lt→DA,succ_le_succ→Dx,succ_lt_succ→Oa,succ_mul→nq,succ_ne_self→ZuA,zero_add→md,zero_le→dQ,zero_lt_succ→oI
open Nat.succ renaming inj→Eh
open Ne renaming symm→b6
open Option renaming bind_eq_bind→ZuK,bind_eq_some_iff→DP,bind_some→bx,getD_none→ZtU,isSome_iff_exists→ql,isSome_map→Dr,map_eq_some_iff→bu,map_some→zi,pure_def→ZuL,toList_some→En,some→Z,none→am
open Option.some renaming inj→ao,injEq→NR
open Or renaming inl→sS
open Prod renaming ext→NG,snd→Oj
open Prod.mk renaming inj→oN,injEq→zr
open PyProof.Rows renaming AllBare→mZ,IntsAre→sR,IsTupIter→qu,StrsAre→y9,args_list_sort→Ea,args_tuple_getitem→ZtR,args_tupleiter_next→ZuC,callWith_builtin1→ZtM,callWith_type1→sL,entry_list_sort→D_,entry_tuple_getitem→ZtQ,entry_tupleiter_next→ZuB,envOfC→g6,listUpdate_at→Ob,mulOk_of_bits→ZwM,seqEpoch_at→Oc,seqObj→cL,size_push'→Ec,slot_list_sort→D9,slot_tuple_getitem→vp,slot_tupleiter_next→DK,sortedHeap→Eb,strOf→ZwE,subscriptTail→NI,subscriptTail_builtinR→ZtS,wpAny_notIn_heap→Zt6
open PyProof.Rows.F renaming entry_set_update_loop→ZuP,plain_set_update_loop→N0
open PyProof.Rows.IsTup renaming new→Dk
open PySem renaming wpAny_bind→gV,wpAny_pure→Zy1,Around→a_,BindsTo→yW,ExcAttrFacts→Og,FuncData→dF,GenState→C9,IntMulOk→sM,IsEnum→vG,IsPart→m4,ItemsOf→tj,Keyword→yY,NameKind→vm,Paired→sI,Program→a6,SetTable→me,Shared→aq,assign→l7,assignEach→i6,attributeBase→Dp,backTo→ef,behindInMarks→Nw,binaryOp→gd,bootBuiltins→eR,builtinLookup_eq_fast→D2,builtinsNs→Np,call→NL,call_meets→y3,callerA→qr,checkBuiltinCall→N3,checkCount→N_,check_set_init_1→ZuW,closureFor→oG,codeAny→oD,codeAny_builtin→lr,codeAny_call_builtin→DZ,codeAny_extend_loopS→Zu8,codeAny_mono→oE,codeAny_of_tree→N2,collect→vM,compEnvC→Dy,compareOp→dE,concat_meets→Ny,eqIsQuiet_byValue→Zuh,fieldsOf→D3,fits_of_scanBound→DR,foldedSetIterable→vj,getItem→lj,hashStr→k_,isInstance→NO,isSubtype→DY,isSubtype_type→zb,letOwnedTupleGo→C_,mainGlobals→dU,mem_of_lookup→y0,newExc→vI,noFill_tuple_add→Nz,pickOrder→qC,plainId_quiet→sY,post_val_or_str→DD,putSet_of→DQ,pyIter→oC,pyNext→lg,rawInt→lh,reduceHash→NP,relabel→kA,relayAll→qw,scanBound→jT,seqIndex_of→NJ,seqItems?→DM,seq_tuple_add→NA,setEntries→qB,setNext→qA,sizeLine→aD,sizeLine_eq→sN,sliceBounds→y2,slot_list_getitem→ZtT,spliced→yU,starEach→a4,storedH→qs,strKind→lq,subscripted→y1,swappedStores→Nu,swapsWith→eY,swapsWithSole→Nt,sysModules→ku,tupleKind→yS,tupleKind_room_in1→Ds,typeIs_str→NK,typeLookup→vr,typeLookup_type→D1,valueAt→sT,wants→N1,weight_type_call_type→ZuT,wpAny_Name→Nq,wpAny_askSetting→N4,wpAny_attempt→vK,wpAny_call→yX,wpAny_callSpecial?_slot→qp,wpAny_call_entry→jt,wpAny_execs_nil→yV,wpAny_field→sO,wpAny_fieldsOf→D4,wpAny_forIn_list→Zuj,wpAny_getItem_heap→Zt5,wpAny_getItem_str_slice→DC,wpAny_isInstance→y4,wpAny_ite→zf,wpAny_loadName_cell→ZtG,wpAny_loadName_local→ZtF,wpAny_mono→i5,wpAny_newList→D8,wpAny_of_eq→DN,wpAny_passesOwn→sJ,wpAny_pyHash_int→ZtB,wpAny_pyHash_str→ZtC,wpAny_pyIter_enum→DH,wpAny_pyIter_list→Nv,wpAny_pyIter_slot→Zu2,wpAny_pyIter_tuple→ZtJ,wpAny_runValue→zd,wpAny_seqItems→y6,wpAny_sequenceKey→ZtP,wpAny_setEpoch_of→N7,wpAny_setField→qv,wpAny_setItem_heap→Zt7,wpAny_setState_of→ng,wpAny_specialOf→sU,wpAny_standAt→Nr,wpAny_storeSet_of→ZuM,wpAny_throw→NY,wpAny_typeOf→sP
open PySem.Around renaming under_plain→ZuS,under_plainId→oM
open PySem.AutoSeq1 renaming list_extend_list_list_0→Zt0
open PySem.Builtin.Frozenset renaming addrOf→ZwC,newClass→Zwz,sizeOf→ZwD,slot0→ZwB,updateFrom→ZuX
open PySem.Builtin.List renaming listExtendWith→D6,listLengthHint→N8,listSameRef→D7,listTooLong→Dq
open PySem.Builtin.ObjectAttr renaming dataDescriptor?→ZwI,find→ZwG,getOf→ZwH
open PySem.Builtin.Range renaming rangeSize→Zv6
open PySem.Builtin.Slice renaming sliceAdjust→NF,sliceApplied→ZtN,sliceFields→Zv8,slicePartIndex→Zv7,slicePlaces→Di
open PySem.Builtin.SmallTypes renaming nextOf→DJ
open PySem.Builtin.Str renaming strSliceIndices→Zuw
open PySem.Builtin.Tuple renaming tupleExact→vq,tupleHashOf→sV,tupleIsExact→Zuu,tupleItemsOf→NH
open PySem.Calls renaming Name_function_global→ZtH,callWith_builtin→ZtV,call_function_entry→N9,evalArgs_plain→ZtW,spliced_cons→Dg,spliced_nil→Df
open PySem.Code renaming quiet_builtin→N5
open PySem.F renaming args_list_extend_2→ZtZ,args_object_init_2→ZuE,args_tuple_add_2→ND,called_set→i8,entry_list_extend→ZtY,entry_set_init→ZuV,entry_tuple_add→NC,entry_type_call→ZuR,excBase_ValueError→Zvd,plainAttrs_list→oK,plain_list_iadd→D5,plain_list_iadd→Zvg,plain_proto_collect→Zu7,plain_set_new→ZuQ,slot_dict_getitem→Zt8,slot_dict_setdefault→Zvo,slot_list_append→y_,slot_list_extend→ZtX,slot_list_extend→ZuG,slot_list_index→Zvm,slot_set_iter→Zu6,slot_tuple_add→NB,slot_tuple_hash→Dw,typeCall_set_1→ZuU,type_list_append→za,type_list_extend→ZuH
open PySem.Heap renaming ExtBut→NX,FlyingW→Oe,MadeExcOf→Zvb,SameBut→m2,get?_push_ne→s_,get?_push_of_some→bR,get?_push_size→cW,get?_update_ne→Zu_,get?_update_other→Dm,get?_update_self→m6,lt_size→bz,size_push→l9,size_update→zg
open PySem.Heap.IsSliceOf renaming new→Zv9
open PySem.Heap.SameBut renaming refl→Zwy,update→nc
open PySem.ItemsOf renaming nil→Zu9
open PySem.Obj renaming data_mapFields→ZuD,mapFields→ze,mapSeq→gG,putSet→vJ
open PySem.Paired renaming length→C7,snoc→Zt4
open PySem.PassesOwn renaming never→Zva
open PySem.SeqAt renaming EqAt→m7,RcAt→Zun,RcNeAt→Zuo,notIn_listAt→Zvi
open PySem.SeqAt.EqAt renaming int_int→Zuc,int_str→Nl,int_tuple→Zub,same→Zuf,str_int→Nm,str_str→Zue,str_tuple→Zud,tuple_int→Zt_,tuple_str→Zua
open PySem.SeqAt.RcAt renaming tuples→Zug
open PySem.SeqAt.RcNeAt renaming bool_bool→Zwf,bool_int→Zwg,bool_none→Zwe,bool_str→Zwh,bool_tuple→Zwi,int_bool→Zwk,int_int→Zwl,int_none→Zwj,int_str→Zwm,int_tuple→Zwn,lists→ZwJ,lists_lengths→ZwK,none_bool→Zwa,none_int→Zwb,none_none→Zv_,none_str→Zwc,none_tuple→Zwd,str_bool→Zwp,str_int→Zwq,str_none→Zwo,str_str→Zwr,str_tuple→Zws,tuple_bool→Zwu,tuple_int→Zwv,tuple_none→Zwt,tuple_str→Zww,tuples→Zwx
open PySem.SetTable renaming below→qD,fits→Zu5,grown→qz,laid→ZuJ,relaid→ZuI
open PySem.SetTable.below renaming go→ZwA
open PySem.Shared renaming TypeIs→zc
open PySem.Str renaming join→vF,ofString→oF
open PySem.Txt renaming slice→NW,slice_le→DF
open PySem.Value renaming bool→sF,builtin→y7,int→yR,isInt→Ztz,isStrOf→sE,isStrOf_shape→ZtA,none→dC,ref→eQ,str→ko,type→sG
open PySem.Value.ref renaming inj→Zvc
open PySem.W renaming Frag→av,KasT→qH,KdlSrc→Zvn,OpenLaw→Zt2,WalkO→Zt3,callWith_K→Nx,cellsFrom_some→ZtL,codeIn→Dh,excIn→Oi,exmOne→Oh,findIn→De,findIn→vN,fnOf→qo,hideAll→C8,hideAll_get→ZtD,kas_sort→jU,keepIn→m3,keq_eq→Zvf,kia_one→m_,kitOne→vE,kitOne→vP,kitx_dict→Zut,kitx_list→Zus,looks_findIn→Of,methodObj→Nn,mg_of→Ee,mroIn→vQ,nsIn→tf,of_hideAll→ZtE,specialIn→ZtK,typeIn→vO
open PySem.W.Looks renaming now→ZwF
open PySem.Walks renaming list→ZuF
open PySem.pickOrder renaming go→N6
open String renaming splitOn→ZuY,splitOnAux→ZuZ
open Sum renaming inl→yQ,inr→km
open Sum.inl renaming inj→Zvy
open Sum.inr renaming inj→vV
open True renaming intro→kz
set_option hygiene false
local macro_rules|`('a')=>`(by decide)|`('b')=>`(model X.prog X.w)|`('c')=>`(cC (.int 1))|`('d')=>`(by lia)|`('e')=>`(.tup (ps.map Pl.toD))|`('f')=>`(x==("__debug__":Str))|`('g')=>`(cC (.int 0))|`('h')=>`(model prog w)|`('i')=>`(aA ps h)|`('j')=>`(dA (gw P w) P w K mg base N qual scope f cd A outer s H E)|`('k')=>`(by simp)|`('l')=>`(aj W W)|`('m')=>`(x==("__classdict__":Str))
set_option hygiene true
theorem W{α:Sort u}{a:α}:a=a:=rfl
theorem fu{n:Nat}(h:b<=n)(e:vh a b=be:=by rfl):a<=n:=cv (ig e) h
theorem fo{n:Nat}(h:n<=b)(e:vh b a=be:=by rfl):n<=a:=cv h (ig e)
theorem bc{a b:Prop}{R:Prop}(h:a/\b)(k:a->b->R):R:=k h.1 h.2
theorem gH{a:A->Prop}{R:Prop}(h:∃x,a x)(k:∀x,a x->R):R:=h.elim k
theorem bG{a b c:Prop}{R:Prop}(h:a/\b/\c)(k:a->b->c->R):R:=bc h.2 (k h.1)
theorem tm{a:A->B->Prop}{R:Prop}(h:∃x y,a x y)(k:∀x y,a x y->R):R:=h.elim λx h=>gH h (k x)
theorem jw{a b c P3:Prop}{R:Prop}(h:a/\b/\c/\P3)(k:a->b->c->P3->R):R:=bG h.2 (k h.1)
theorem b_{a:A->B->C->Prop}{R:Prop}(h:∃x y z,a x y z)(k:∀x y z,a x y z->R):R:=h.elim λx h=>tm h (k x)
theorem jx{a b c P3 d:Prop}{R:Prop}(h:a/\b/\c/\P3/\d)(k:a->b->c->P3->d->R):R:=jw h.2 (k h.1)
theorem iH{a b c P3 d e:Prop}{R:Prop}(h:a/\b/\c/\P3/\d/\e)(k:a->b->c->P3->d->e->R):R:=jx h.2 (k h.1)
theorem a9{a b:A->Prop}{R:Prop}(h:∃x,a x/\b x)(k:∀x,a x->b x->R):R:=gH h λx h=>bc h (k x)
theorem aM{a b c:A->Prop}{R:Prop}(h:∃x,a x/\b x/\c x)(k:∀x,a x->b x->c x->R):R:=gH h λx h=>bG h (k x)
theorem b8{a b:A->B->Prop}{R:Prop}(h:∃x y,a x y/\b x y)(k:∀x y,a x y->b x y->R):R:=tm h λx y h=>bc h (k x y)
theorem d6{a b c P3:A->Prop}{R:Prop}(h:∃x,a x/\b x/\c x/\P3 x)(k:∀x,a x->b x->c x->P3 x->R):R:=gH h λx h=>jw h (k x)
theorem cM{a b c:A->B->Prop}{R:Prop}(h:∃x y,a x y/\b x y/\c x y)(k:∀x y,a x y->b x y->c x y->R):R:=tm h λx y h=>bG h (k x y)
theorem jy{a b:A->B->C->Prop}{R:Prop}(h:∃x y z,a x y z/\b x y z)(k:∀x y z,a x y z->b x y z->R):R:=b_ h λx y z h=>bc h (k x y z)
theorem cE{a b c P3:A->B->Prop}{R:Prop}(h:∃x y,a x y/\b x y/\c x y/\P3 x y)(k:∀x y,a x y->b x y->c x y->P3 x y->R):R:=tm h λx y h=>jw h (k x y)
theorem dj{a b c:A->B->C->Prop}{R:Prop}(h:∃x y z,a x y z/\b x y z/\c x y z)(k:∀x y z,a x y z->b x y z->c x y z->R):R:=b_ h λx y z h=>bG h (k x y z)
theorem fS{a b c P3 d:A->B->Prop}{R:Prop}(h:∃x y,a x y/\b x y/\c x y/\P3 x y/\d x y)(k:∀x y,a x y->b x y->c x y->P3 x y->d x y->R):R:=tm h λx y h=>jx h (k x y)
theorem bS{R:Prop}{o:Option A}{f:A->Option B}(h:o.bind f=Z b)(k:∀a,o=Z a->f a=Z b->R):R:=by cases o with|none=>injection h|some a=>exact k a W h
noncomputable section
namespace L2
open PySem PySem.Spec PyProof.Rows
noncomputable abbrev Key:=Sum Int Str
noncomputable def qO:Key->Value->Bool|.inl k,v=>Ztz k v|.inr x,v=>sE x v
noncomputable def OG(w:World):Key->Int|.inl k=>hashInt k|.inr x=>k_ w x
theorem lx:∀{k:Key}{v:Value},qO k v=be->(∃i t,k=yQ i/\v=yR i t)\/(∃x t,k=km x/\v=ko x t)|.inl i,v,h=>by obtain⟨t,e⟩:=Value.isInt_shape (k:=i) (v:=v) h;exact .inl ⟨i,t,W,e⟩|.inr x,v,h=>by obtain⟨t,e⟩:=ZtA (x:=x) (v:=v) h;exact .inr ⟨x,t,W,e⟩
theorem OH(i:Int)(t:Tok):qO (.inl i) (.int i t)=be:=by simp[qO,Ztz]
theorem OI(x:Str)(t:Tok):qO (.inr x) (.str x t)=be:=by simp[qO,sE]
theorem OJ(a b:Int):decide ((yQ a:Key)=yQ b)=(a==b):=by grind
theorem OL(a b:Str):decide ((km a:Key)=km b)=decide (a=b):=by simp
theorem OM(a:Int)(b:Str):decide ((yQ a:Key)=km b)=bi:=(by rfl)
theorem ON(a:Str)(b:Int):decide ((km a:Key)=yQ b)=bi:=(by rfl)
def gP(prog:a6)(w:World):PySem.KeyKind prog w Key where
 is:=qO
 hash:=OG w
 inj:=λv a b g f=>by
  rcases lx g with⟨i,t,rfl,rfl⟩|⟨x,t,rfl,rfl⟩
  ·rcases lx f with⟨j,u,rfl,e⟩|⟨y,u,rfl,e⟩;·injection e with c _;rw[c]
   ·exact nomatch e
  ·rcases lx f with⟨j,u,rfl,e⟩|⟨y,u,rfl,e⟩;·exact nomatch e
   ·injection e with c _;rw[c]
 byValue:=λk v h=>by rcases lx h with⟨i,t,rfl,rfl⟩|⟨x,t,rfl,rfl⟩<;>rfl
 pyHash:=λd h=>by
  rcases lx d with⟨i,t,rfl,rfl⟩|⟨x,t,rfl,rfl⟩
  ·exact ZtB h
  ·exact ZtC h
 eqBool:=λm d h=>by
  rcases lx m with⟨i,t,rfl,rfl⟩|⟨x,t,rfl,rfl⟩
  ·rcases lx d with⟨j,u,rfl,rfl⟩|⟨y,u,rfl,rfl⟩
   ·rw[OJ]at h;exact wpAny_eqBool_int h
   ·rw[OM]at h;exact Nl i t y u _ _ _ _ h
  ·rcases lx d with⟨j,u,rfl,rfl⟩|⟨y,u,rfl,rfl⟩
   ·rw[ON]at h;exact Nm x t j u _ _ _ _ h
   ·rw[OL]at h;exact wpAny_eqBool_str h
 «strs»:=λk x t v h=>by
  rcases lx h with⟨i,u,rfl,e⟩|⟨y,u,rfl,e⟩
  ·exact nomatch e
  ·injection e with c _;subst c;cases v<;>rfl
theorem OO(prog:a6)(w:World)(i:Int)(t:Tok):(gP prog w).is (.inl i) (.int i t)=be:=OH i t
theorem OP(prog:a6)(w:World)(x:Str)(t:Tok):(gP prog w).is (.inr x) (.str x t)=be:=OI x t
inductive V where|aC|bl (b:Bool)|int (i:Int)|str (x:Str)|tp (b:Array UInt8)|zt (b:UInt64)|ref (a:Addr)|ty (n:String) deriving DecidableEq
noncomputable def RelV:V->Value->Prop|.aC,u=>u=dC|.bl b,u=>u=sF b|.int i,u=>∃t,u=yR i t|.str x,u=>∃t,u=ko x t|.tp b,u=>∃t,u=Value.bytes b t|.zt b,u=>∃t,u=Value.float b t|.ref a,u=>u=eQ a|.ty n,u=>u=sG n
noncomputable abbrev Vals:List V->List Value->Prop:=sI RelV
theorem Vals.length{xs:List V}{a:List Value}(r:Vals xs a):xs.length=a.length:=C7 r
theorem Vals.get:∀{xs:List V}{a:List Value}{i:Nat}{x:V},Vals xs a->xs[i]?=Z x->∃u,a[i]?=Z u/\RelV x u|_,_,_,_,.nil,e=>by simp at e|_,_,0,_,.cons r _,e=>by simp at e;subst e;exact⟨_,W,r⟩|_,_,i+1,x,.cons _ t,e=>by obtain⟨u,b,c⟩:=Vals.get (i:=i) (x:=x) t (by simpa using e);exact⟨u,by simpa using b,c⟩
theorem Vals.set(r:RelV x u):∀{xs:List V}{a:List Value}(i:Nat),Vals xs a->Vals (xs.set i x) (a.set i u)|_,_,_,.nil=>.nil|_,_,0,.cons _ t=>.cons r t|_,_,i+1,.cons q t=>.cons q (Vals.set r i t)
theorem Vals.append:∀{ys:List V}{a ws:List Value},Vals xs a->Vals ys ws->Vals (xs++ys) (a++ws):=by induction xs with|nil=>intro ys a ws h s;cases h;exact s|cons x xs b=>intro ys a ws h s;cases h with|cons r t=>exact .cons r (b t s)
theorem Vals.take:∀{xs:List V}{a:List Value}(n:Nat),Vals xs a->Vals (xs.take n) (a.take n)|_,_,0,_=>.nil|_,_,_+1,.nil=>.nil|_,_,n+1,.cons r t=>.cons r (Vals.take n t)
theorem Vals.drop:∀{xs:List V}{a:List Value}(n:Nat),Vals xs a->Vals (xs.drop n) (a.drop n)|_,_,0,r=>r|_,_,_+1,.nil=>.nil|_,_,n+1,.cons _ t=>Vals.drop n t
def ik:Option V->Option Value->Prop|some v,Z u=>RelV v u|none,am=>True|_,_=>False
def KV{κ:Type}:List (κ×V)->List (κ×Value)->Prop:=sI λ(p:κ×V)(q:κ×Value)=>p.1=q.1/\RelV p.2 q.2
noncomputable def kV:Key->V|.inl i=>.int i|.inr x=>.str x
inductive HO where|lst (xs:List V)|tup (xs:List V)|dK (kvs:List (Key×V))|dT (kvs:List (List Key×V))|set (S:Int->Bool) (n:Nat)|ins (C dx:Addr) (fs:List (Str×V))|own (x:Addr)|xd (fs:List (Str×V))|met (f x:Addr)|nt (lo hi:Int)|da (o:Obj) (u:HO)|nu (ps:Array Value)|ext (φ:World->(Addr->Option (List V))->Heap->Prop)
noncomputable abbrev Hp:=Addr->Option HO
noncomputable def upd(H:Hp)(a:Addr)(o:HO):Hp:=λb=>if b=a then Z o else H b
theorem bA:upd H a o a=Z o:=by unfold upd;simp
theorem bf(h:b≠a):upd H a o b=H b:=by unfold upd;rw[if_neg h]
theorem Ew{H:Hp}{a:Addr}{o u:HO}(h:H a=Z o)(h':H b=Z u)(d:o≠u):a≠b:=by grind
theorem jz{H:Hp}{a:Addr}{o:HO}(h:H a=Z o)(h':H b=am):a≠b:=by lia
noncomputable def i9(H:Hp):Addr->Option (List V):=λb=>match H b with|some (.tup xs)=>Z xs|_=>am
theorem oQ:i9 H b=Z xs↔H b=Z (.tup xs):=by unfold i9;split<;>simp_all
section
variable (P:a6)(w:World)
def dG(H:Hp)(h:Heap)(a:Addr):HO->Prop|.lst xs=>xs.length<=aD/\∃(c:List Value)(n:Nat),Vals xs c/\h.get? a=Z {cls:=.type "list",data:=.seq c.toArray n}|.tup xs=>xs.length<=aD/\∃c:List Value,Vals xs c/\IsTup h a c.toArray|.dK kvs=>kvs.length<=aD/\(a==ku)=bi/\∃vs,KV kvs vs/\h.DictOf (gP P w) a vs|.dT kvs=>kvs.length<=aD/\(a==ku)=bi/\∃xs:List (List Key×Addr×Value),sI (λ(p:List Key×V)(q:List Key×Addr×Value)=>p.1=q.1/\H q.2.1=Z (.tup (p.1.map kV))/\RelV p.2 q.2.2) kvs xs∧ ∃o es ep,h.get? a=Z o/\o.ExactDict/\o.data=.dict es ep/\es.toList=xs.map (entryOfKey (yS (gP P w)))/\(xs.map (·.1)).Nodup|.set S n=>h.SetOf (intKind P w) a S n|.ins C e fs=>H e=Z (.own a)/\fs.length<=1000/\e≠a/\h.get? a=Z (PySem.W.instObj C e)∧ ∃d,h.Ns1 e d/\(∀f,ik (fs.lookup f) (d f))/\PySem.Within d (fs.map (·.1))|.own _=>∃o,h.get? a=Z o|.xd fs=>∃d,h.Ns1 a d/\∀f,ik (fs.lookup f) (d f)|.nt lo m=>∃t u v,h.get? a=Z {cls:=.type "range",data:=.fields #[.int lo t,.int m u,.int 1 v]}|.da o u=>h.get? a=Z o/\dG H h a u|.nu ps=>h.get? a=Z {cls:=.none,data:=.fields ps}|.met f x=>h.get? a=Z (Nn (.ref f) (.ref x))|.ext g=>g w (i9 H) h/\(∃o,h.get? a=Z o)/\∀(t1 t2:Addr->Option (List V))(i j:Heap),g w t1 i->(∀b xs,t1 b=Z xs->t2 b=Z xs)->(∀o,i.get? a=Z o->j.get? a=Z o)->g w t2 j
def c5(H:Hp)(h:Heap):Prop:=∀a o,H a=Z o->dG P w H h a o
end
section
variable {P:a6}{w:World}{H H':Hp}{h h':Heap}{a:Addr}{o:HO}
theorem dG.lt(x:dG P w H h a o):a<h.objs.size:=by cases o with|lst xs=>refine bc x λ_ b=>b8 b λ_ _ _ e=>?_;clear x b;exact bz e|tup xs=>refine bc x λ_ b=>a9 b λ_ _ p=>?_;clear x b;exact p.lt|dK kvs=>refine bG x λ_ _ b=>a9 b λ_ _ c=>jy c λo _ _ e _=>?_;clear x b c;exact bz e|dT kvs=>refine bG x λ_ _ b=>a9 b λ_ _ c=>jy c λo _ _ e _=>?_;clear x b c;exact bz e|set S n=>refine b_ x λo _ _ b=>a9 b λ_ e _=>?_;clear x b;exact bz e|ins C d fs=>refine jx x λ_ _ _ e _=>?_;clear x;exact bz e|own y=>obtain⟨_,e⟩:=x;exact bz e|xd fs=>obtain⟨_,⟨_,_,_,e,_⟩,_⟩:=x;exact bz e|nt lo g=>refine b_ x λ_ _ _ e=>?_;clear x;exact bz e|da i u=>obtain⟨e,_⟩:=x;exact bz e|nu ps=>exact bz (show h.get? a=Z _ from x)|met f y=>exact bz (show h.get? a=Z _ from x)|ext j=>obtain⟨_,⟨_,e⟩,_⟩:=x;exact bz e
theorem Paired.Ex{c d:Type}{F G:c->d->Prop}{l₁:List c}:∀{l₂:List d},sI F l₁ l₂->(∀a b,F a b->G a b)->sI G l₁ l₂:=by induction l₁ with|nil=>intro l₂ h f;cases h;exact .nil|cons a l e=>intro l₂ h f;cases h with|cons r t=>exact .cons (f _ _ r) (e t f)
theorem dG.jA(x:dG P w H h a o)(k:∀b u,(b=a\/H b=Z (.own a))->h.get? b=Z u->h'.get? b=Z u) (G:∀b,H b=Z (.own a)->H' b=Z (.own a)) (E:∀b xs,H b=Z (.tup xs)->H' b=Z (.tup xs)):dG P w H' h' a o:=by induction o with|lst xs=>refine bc x λz g=>b8 g λm n r e=>?_;clear x g;exact⟨z,m,n,r,k _ _ (.inl W) e⟩|tup xs=>refine bc x λz g=>a9 g λm r i=>a9 i λj e c=>?_;clear x g i;exact⟨z,m,r,j,k _ _ (.inl W) e,c⟩|dK kvs=>refine bG x λz y g=>a9 g λvs r i=>jy i λj es ep e c=>?_;clear x g i;exact⟨z,y,vs,r,j,es,ep,k _ _ (.inl W) e,c⟩|dT kvs=>refine bG x λz y g=>a9 g λxs r i=>jy i λj es ep e c=>?_;clear x g i;exact⟨z,y,xs,Paired.Ex r λp q z=>⟨z.1,E _ _ z.2.1,z.2.2⟩,j,es,ep,k _ _ (.inl W) e,c⟩|set S n=>refine b_ x λj es ep g=>a9 g λt e c=>?_;clear x g;exact⟨j,es,ep,t,k _ _ (.inl W) e,c⟩|ins C M fs=>obtain⟨d,z,I,e,A,⟨B,es,ep,J,c⟩,r⟩:=x;exact⟨G _ d,z,I,k _ _ (.inl W) e,A,⟨B,es,ep,k _ _ (.inr d) J,c⟩,r⟩|own y=>obtain⟨j,e⟩:=x;exact⟨j,k _ _ (.inl W) e⟩|xd fs=>obtain⟨A,⟨B,es,ep,e,c⟩,r⟩:=x;exact⟨A,⟨B,es,ep,k _ _ (.inl W) e,c⟩,r⟩|nt lo N=>refine b_ x λt u v e=>?_;clear x;exact⟨t,u,v,k _ _ (.inl W) e⟩|da j u L=>obtain⟨e,q⟩:=x;exact⟨k _ _ (.inl W) e,L q⟩|nu ps=>have e:h.get? a=Z {cls:=.none,data:=.fields ps}:=x;show h'.get? a=Z {cls:=.none,data:=.fields ps};exact k a _ (.inl W) e|met f y=>have e:h.get? a=Z (Nn (.ref f) (.ref y)):=x;show h'.get? a=Z (Nn (.ref f) (.ref y));exact k a _ (.inl W) e|ext O=>obtain⟨p,⟨o,e⟩,st⟩:=x;exact⟨st _ _ _ _ p (λb xs q=>oQ.mpr (E b xs (oQ.mp q))) λo q=>k _ _ (.inl W) q,⟨o,k _ _ (.inl W) e⟩,st⟩
theorem c5.lt(x:c5 P w H h)(e:H a=Z o):a<h.objs.size:=(x a o e).lt
theorem c5.fresh(x:c5 P w H h)(e:h.objs.size<=a):H a=am:=by cases q:H a with|none=>rfl|some u=>exact absurd (iE (x.lt q) e) (js _)
theorem c5.kept(x:c5 P w H h)(k:∀b u,h.get? b=Z u->h'.get? b=Z u):c5 P w H h':=λa o e=> (x a o e).jA (λb u _ q=>k b u q) (λ_ q=>q) λ_ _ q=>q
theorem c5.laid(x:c5 P w H h)(k:∀b u,h.get? b=Z u->h'.get? b=Z u)(d:h.objs.size<=a)(new:dG P w (upd H a o) h' a o):c5 P w (upd H a o) h':=λb u e=>by
 have hn:=x.fresh d;by_cases f:b=a;·simp_all[bA]
 ·rw[bf f]at e;exact(x b u e).jA (λc v _ q=>k c v q) (λc q=>by rw[bf (jz q hn)];exact q) λc xs q=>by rw[bf (jz q hn)];exact q
end
def Rd(H:Hp)(a:Addr)(u:HO):Prop:=H a=Z u\/∃o,H a=Z (.da o u)
theorem Rd.ok(r:Rd H a u)(x:c5 P w H h):dG P w H h a u:=by
 rcases r with r|⟨o,r⟩;·exact x a u r
 ·obtain⟨_,q⟩:=x a _ r;exact q
noncomputable def tq:Option HO->Prop|some (.lst _)=>True|some (.dK _)=>True|some (.dT _)=>True|some (.set _ _)=>True|some (.ins _ _ _)=>True|some (.ext _)=>True|_=>False
section
variable {P:a6}{w:World}{H:Hp}{h h':Heap}{x e:Addr}{o':HO}
theorem c5.write(ok:c5 P w H h)(d:tq (H x))(p:e=x\/H e=Z (.own x))(k:∀b u,b≠e->h.get? b=Z u->h'.get? b=Z u)(f:∃u,h'.get? e=Z u) (new:dG P w (upd H x o') h' x o'):c5 P w (upd H x o') h':=λb u q=>by
 have g:∀c y,H c=Z (.own y)->c≠x:=λc y r z=>by subst z;rw[r]at d;exact d
 have i:∀c xs,H c=Z (.tup xs)->c≠x:=λc xs r z=>by subst z;rw[r]at d;exact d
 by_cases j:b=x;·simp_all[bA]
 ·rw[bf j]at q;by_cases a:b=e
  ·have m:H b=Z (.own x):=by
    rcases p with z|z;·exact absurd (a.trans z) j
    ·rw[a];exact z
   rw[q]at m;(obtain rfl:=ao m);obtain⟨v,t⟩:=f;exact⟨v,by rw[a];exact t⟩
  ·refine(ok b u q).jA (λc v A r=>k c v ?_ r) (by grind[bf]) (by grind[bf]);grind
end
structure Un(fs ex:List Addr)(H H':Hp)(h h':Heap):Prop where
 keep:∀b o,h.get? b=Z o->H b=am->b∉fs->b∉ex->h'.get? b=Z o
 slot:∀b o,h.get? b=Z o->H b=am->b∈fs->b∉ex->∃sl,h'.get? b=Z {o with slots:=sl}
 free:∀b o,h.get? b=Z o->H b=am->b∉ex->H' b=am
 there:∀b o,h.get? b=Z o->b∉ex->∃o',h'.get? b=Z o'
 jV:∀b xs,H b=Z (.tup xs)->H' b=Z (.tup xs)
 hD:∀b o u,H b=Z (.da o u)->H' b=Z (.da o u)
 jB:∀b ps,H b=Z (.nu ps)->∃more,H' b=Z (.nu (ps++more))
section
variable {fs ex:List Addr}{H H1:Hp}{h h1 h':Heap}{a x e:Addr}{o:HO}
theorem Un.any(u:Un fs ex H H1 h h1)(q:h.get? b=Z c)(n:H b=am)(d:b∉ex):∃g,h1.get? b=Z {c with slots:=g}:=by
 by_cases f:b∈fs;·exact u.slot b c q n f d
 ·exact⟨c.slots,u.keep b c q n f d⟩
theorem Un.kept(k:∀b u,h.get? b=Z u->h'.get? b=Z u):Un fs ex H H h h':=⟨λb c q _ _ _=>k b c q,λb c q _ _ _=>⟨c.slots,k b c q⟩,λ_ _ _ n _=>n,λb c q _=>⟨c,k b c q⟩,λ_ _ q=>q,λ_ _ _ q=>q,λ_ ps q=>⟨#[],by rw[q];exact W⟩⟩
theorem Un.refl:Un fs ex H H h h:=Un.kept λ_ _ q=>q
theorem Un.laid(k:∀b u,h.get? b=Z u->h'.get? b=Z u)(c:h.objs.size<=a)(hn:H a=am):Un fs ex H (upd H a o) h h' where
 keep:=λb u q _ _ _=>k b u q
 slot:=λb u q _ _ _=>⟨u.slots,k b u q⟩
 free:=λb u q n _=>by rw[bf (b5 (iE (bz q) c))];exact n
 there:=λb u q _=>⟨u,k b u q⟩
 jV:=λb xs q=>by rw[bf (jz q hn)];exact q
 hD:=λb u xs q=>by rw[bf (jz q hn)];exact q
 jB:=λb ps q=>⟨#[],by rw[bf (jz q hn),q];exact W⟩
theorem Un.write(d:tq (H x))(i:e=x\/H e=Z (.own x))(k:∀b u,b≠e->h.get? b=Z u->h'.get? b=Z u)(g:∃u,h'.get? e=Z u):Un fs ex H (upd H x o) h h':=by
 have j:∀b,H b=am->b≠x:=λb n z=>by subst z;rw[n]at d;exact d
 have f:∀b,H b=am->b≠e:='d';have c:∀b u,H b=Z u->¬tq (Z u)->b≠x:='d';refine⟨λb u q n _ _=>k b u (f b n) q,λb u q n _ _=>⟨u.slots,k b u (f b n) q⟩,(by grind[bf]),λb u q _=>?_,λb xs q=>by rw[bf (c b _ q λz=>z)];exact q,λb u xs q=>by rw[bf (c b _ q λz=>z)];exact q,λb ps q=>⟨#[],by rw[bf (c b _ q λz=>z),q];exact W⟩⟩;grind
end
noncomputable def qP(h:Heap)(H:Hp):List Addr:=(eG h.objs.size).filter λa=>(H a).isSome
def mf(h:Heap)(H:Hp):Heap:=C8 h (qP h H)
theorem OR(h:Heap)(H:Hp):(mf h H).objs.size=h.objs.size:=PySem.W.hideAll_size _ _
theorem OS{h:Heap}(e:h.get? b=Z o)(n:H b=am):(mf h H).get? b=Z o:=ZtD _ e λa=>by have q:(H b).isSome=be:=(dt.mp a).2;simp_all
theorem OT{h:Heap}(e:(mf h H).get? b=Z o):h.get? b=Z o/\H b=am:=by have a:h.get? b=Z o:=ZtE (qP h H) e;refine⟨a,?_⟩;cases q:H b with|none=>rfl|some x=>simp_all[qP,bz,mf,PySem.W.hideAll_none]
noncomputable def OU(g h:Heap)(L:Addr):List (Addr×Obj):=(eG h.objs.size).filterMap λa=>if a=L\/(g.get? a).isSome=be then am else(h.get? a).map λo=>(a,o)
def rest(g h:Heap)(L d:Addr):List (Addr×Obj):=(OU g h L).filter λp=>decide (p.1≠d)
structure Mod(K:av)(mg:Str->Option Value)(base:Heap):Prop where
 qQ:K.In base
 glob:base.Ns dU mg
 blt:∃mb,base.Ns Np mb/\∀x:Str,x≠"__name__"->mb x=eR x
 nolimit:base.NoLimit
structure Cx where
 prog:a6
 w:World
 K:av
 mg:Str->Option Value
 base:Heap
 A:a_
 N:List Str
 dH:aq
 jW:Hp
 env:Env
 outer:List Env
 stack:List Env
 ex:List Addr
 fn:Str->Bool
 calm:Bool
 pn:List (Addr×Obj)
 xe:Value->aq->Prop
noncomputable def cN(l:List Env):List Addr:=l.filterMap (·.frame)
noncomputable abbrev Cx.fs(X:Cx):List Addr:=cN X.outer
def dv(sc:Scope)(x:Str):Prop:=sc.names.lookup x=Z .local\/sc.names.lookup x=Z .cell\/sc.names.lookup x=Z .free
def Loc(sc:Scope)(x:Str):Prop:=sc.names.lookup x=Z .local\/sc.names.lookup x=Z .cell
def Look(a:Env)(h:Heap)(m:Str->Option Value)(x:Str)(u:Value):Prop:=(a.kindOf x=Z .local/\m x=Z u)\/((a.kindOf x=Z .cell\/a.kindOf x=Z .free)/\∃c,a.cells.lookup x=Z c/\h.IsCell c (Z u))
structure Cx.Ok(X:Cx):Prop where
 mod:Mod X.K X.mg X.base
 kind:X.env.scope.kind=.function
 glob:X.env.globals=dU
 blt:X.env.builtins=Np
 above:X.dH.heap.objs.size<=X.env.locals
 inj:∀x y c,X.env.cells.lookup x=Z c->X.env.cells.lookup y=Z c->x=y
 has:∀x,(X.env.kindOf x=Z .cell\/X.env.kindOf x=Z .free)->∃c,X.env.cells.lookup x=Z c
 oR:∀x c,X.fn x=be->X.env.cells.lookup x=Z c->X.dH.heap.objs.size<=c
 hd:X.calm=be->X.A.handled=am
 frames:X.A.frames=Z X.stack
 qR:X.stack=X.outer\/(X.stack=X.env::X.outer/\X.env.frame=Z X.env.locals)
 tr:∀b∈X.ex,b≠X.env.locals/\∀x c,X.env.cells.lookup x=Z c->c≠b
 bs:∀b o,X.base.get? b=Z o->X.dH.heap.get? b=Z o/\X.jW b=am
 ly:X.base.objs.size<=X.dH.heap.objs.size
 oS:∀b o,X.base.get? b=Z o->b∉X.ex
 nv:∀b∈X.ex,b∉X.fs
 iI:X.dH.heap.FunFrames X.base X.outer
 mh:∀b∈X.fs,X.jW b=am
structure Inv(X:Cx)(zK:List (Addr×Obj))(σ:List (Option V))(H:Hp)(s:aq):Prop where
 ok:X.Ok
 os:s.os=X.dH.os
 bare:mZ s.gens
 base:Un X.fs X.ex X.jW H X.dH.heap s.heap
 loc:∃m,s.heap.Ns X.env.locals m/\∀(i:Nat)(x:Str)(v:V),X.N[i]?=Z x->σ[i]?=Z (Z v)->dv X.env.scope x->∃u,RelV v u/\Look X.env s.heap m x u
 cell:∀x c,X.env.cells.lookup x=Z c->∃v,s.heap.IsCell c v
 free:H X.env.locals=am
 fT:∀x c,X.env.cells.lookup x=Z c->H c=am
 pin:∀p∈X.pn++zK,s.heap.get? p.1=Z p.2/\H p.1=am/\p.1≠X.env.locals/\p.1∉X.fs/\∀v,p.2.data≠ .cell v
 aR:c5 X.prog X.w H s.heap
 len:σ.length=X.N.length
section
variable {X:Cx}{zK:List (Addr × Obj)}{σ:List (Option V)}{H H':Hp}{s:aq}{h':Heap}
theorem Cx.Ok.OV(ok:X.Ok)(e:X.base.get? b=Z o):b∉X.fs:=λa=>by have:=(ok.iI.mem a).1;simp_all
theorem Inv.bs(I:Inv X zK σ H s):∀b o,X.base.get? b=Z o->s.heap.get? b=Z o/\H b=am:=λb o e=> ⟨I.base.keep b o (I.ok.bs b o e).1 (I.ok.bs b o e).2 (I.ok.OV e) (I.ok.oS b o e),I.base.free b o (I.ok.bs b o e).1 (I.ok.bs b o e).2 (I.ok.oS b o e)⟩
theorem Inv.bk(I:Inv X zK σ H s):∀b o,X.base.get? b=Z o->s.heap.get? b=Z o:=λb o e=>(I.bs b o e).1
theorem Inv.mod(I:Inv X zK σ H s):Mod X.K X.mg X.base:=I.ok.mod
theorem Inv.gh(I:Inv X zK σ H s):X.K.In s.heap:=I.ok.mod.qQ.keeps I.bk
theorem Inv.lt(I:Inv X zK σ H s):X.env.locals<s.heap.objs.size:=by obtain⟨_,hn,_⟩:=I.loc;exact hn.lt
theorem Inv.sz(I:Inv X zK σ H s):X.dH.heap.objs.size<=s.heap.objs.size:=cv I.ok.above (du I.lt)
theorem Inv.Ey(I:Inv X zK σ H s)(h:s.heap.objs.size<=a):a∉X.fs:=λc=>by refine bc (I.ok.iI.mem c) λ_ b=>a9 b λo d _=>?_;clear b;exact absurd (iE (bz d) (cv I.sz h)) (js _)
theorem Inv.mi(I:Inv X zK σ H s):∀x c,X.env.cells.lookup x=Z c->c≠X.env.locals:=λx c e z=>by refine b8 (I.cell x c e) λv o d f=>?_;obtain⟨m,⟨g,es,ep,a,b,_⟩,_⟩:=I.loc;simp_all
theorem Inv.iI(I:Inv X zK σ H s):s.heap.FunFrames X.base X.outer:=by
 have all:∀(l:List Env),(∀b∈cN l,b∈X.fs)->X.dH.heap.FunFrames X.base l->s.heap.FunFrames X.base l:=by intro l;induction l with|nil=>intro _ _;trivial|cons f r g=>intro d h;obtain⟨i,⟨L,o,hf,hn,j,m⟩,p⟩:=h;have a:L∈X.fs:=d L (by unfold cN;rw[yT,hf];exact bE);obtain⟨q,e⟩:=I.base.slot L o j (I.ok.mh L a) a λz=>I.ok.nv L z a;exact⟨i,⟨L,_,hf,hn,e,m⟩,g (λb c=>d b (by unfold cN;rw[yT,hf];exact cx _ c)) p⟩
 exact all X.outer (λ_ c=>c) I.ok.iI
theorem Inv.stack(I:Inv X zK σ H s):s.heap.FunFrames X.base X.stack:=by
 rcases I.ok.qR with e|⟨e,hf⟩;·rw[e];exact I.iI
 ·rw[e];obtain⟨m,hn,_⟩:=I.loc;refine .cons (by rw[I.ok.kind];decide) hf hn ?_ I.iI;exact Heap.get?_none_of_le (cv I.ok.ly I.ok.above)
theorem Inv.vX(I:Inv X zK σ H s):∀b∈cN X.stack,b∈X.env.locals::X.fs:=λb a=>by
 rcases I.ok.qR with e|⟨e,hf⟩;·rw[e]at a;exact cx _ a
 ·rw[e]at a;unfold cN at a;rw[yT,hf]at a;exact a
theorem Inv.vY(I:Inv X zK σ H s):∀b∈cN X.stack,H b=am:=λb hb=>by
 rcases a7.mp (I.vX b hb)with e|hb;·rw[e];exact I.free
 ·refine bc (I.ok.iI.mem hb) λ_ a=>a9 a λo c _=>?_;clear a;exact I.base.free b o c (I.ok.mh b hb) λz=>I.ok.nv b z hb
theorem Inv.step{g':Array C9}{d':Drawn}{ch:List Addr}(I:Inv X zK σ H s) (y:∀b∈ch,(b∈X.ex\/X.dH.heap.objs.size<=b)/\b≠X.env.locals/\(∀x c,X.env.cells.lookup x=Z c->c≠b)/\∀p∈X.pn++zK,p.1≠b) (h:∀b o,b≠X.env.locals->b∉X.fs->b∉ch->s.heap.get? b=Z o->H b=am->h'.get? b=Z o) (j:∀b o,b≠X.env.locals->b∈X.fs->b∉ch->s.heap.get? b=Z o->H b=am->∃O,h'.get? b=Z {o with slots:=O}) (f:∀b o,b∉ch->s.heap.get? b=Z o->H b=am->H' b=am) (A:∀b o,b∉ch->s.heap.get? b=Z o->∃G,h'.get? b=Z G) (J:∀b xs,H b=Z (.tup xs)->H' b=Z (.tup xs)) (L:∀b o u,H b=Z (.da o u)->H' b=Z (.da o u)) (jB:∀b ps,H b=Z (.nu ps)->∃more,H' b=Z (.nu (ps++more))) (ns:∀m,s.heap.Ns X.env.locals m->h'.Ns X.env.locals m) (Q:c5 X.prog X.w H' h') (hg:mZ g'):Inv X zK σ H' {s with heap:=h',gens:=g',drawn:=d',toks:=t'}:=by
 have M:∀b o,X.dH.heap.get? b=Z o->b≠X.env.locals:=λb o e=>b5 (iE (bz e) I.ok.above);have g:∀b o,X.dH.heap.get? b=Z o->b∉X.ex->b∉ch:=λb o e a B=>by
  rcases(y b B).1 with z|z;·exact a z
  ·exact absurd (iE (bz e) z) (js _)
 have C:∀x c,X.env.cells.lookup x=Z c->∀v,s.heap.IsCell c v->h'.IsCell c v:=by
  rintro x c e v ⟨o,E,T⟩;have N:c∉ch:=λz=>(y c z).2.2.1 x c e W;by_cases hc:c∈X.fs;·obtain⟨O,q⟩:=j c o (I.mi x c e) hc N E (I.fT x c e);exact⟨_,q,T⟩
  ·exact⟨o,h c o (I.mi x c e) hc N E (I.fT x c e),T⟩
 refine⟨I.ok,I.os,hg,⟨λb o e n B a=>?_,λb o e n B a=>?_,λb o e n a=>?_,λb o e a=>?_,λb xs e=>J b xs (I.base.jV b xs e),λb o xs e=>L b o xs (I.base.hD b o xs e),λb ps e=>?_⟩,?_,λx c e=>?_,?_,λx c e=>?_,λp hp=>?_,Q,I.len⟩;·exact h b o (M b o e) B (g b o e a) (I.base.keep b o e n B a) (I.base.free b o e n a)
 ·obtain⟨O,t⟩:=I.base.slot b o e n B a;obtain⟨U,Y⟩:=j b _ (M b o e) B (g b o e a) t (I.base.free b o e n a);exact⟨U,Y⟩
 ·obtain⟨G,t⟩:=I.base.there b o e a;exact f b G (g b o e a) t (I.base.free b o e n a)
 ·obtain⟨G,t⟩:=I.base.there b o e a;exact A b G (g b o e a) t
 ·obtain⟨m1,t⟩:=I.base.jB b ps e;grind
 ·obtain⟨m,hn,hl⟩:=I.loc;refine⟨m,ns m hn,λi x v t Y e3=>?_⟩;obtain⟨u,r,l⟩:=hl i x v t Y e3;refine⟨u,r,?_⟩;rcases l with l|⟨k,c,e,z⟩
  ·exact .inl l
  ·exact .inr ⟨k,c,e,C x c e _ z⟩
 ·obtain⟨v,z⟩:=I.cell x c e;grind
 ·obtain⟨m,⟨o,_,_,E,_⟩,_⟩:=I.loc;exact f _ o (λz=>(y _ z).2.1 W) E I.free
 ·refine b8 (I.cell x c e) λv o E T=>?_;exact f c o (by grind) E (I.fT x c e)
 ·refine jx (I.pin p hp) λe n ne nf d=>?_;grind
theorem Inv.un(I:Inv X zK σ H s)(u:Un X.fs [] H H' s.heap h')(c:c5 X.prog X.w H' h'):Inv X zK σ H' {s with heap:=h',toks:=t'}:=by obtain⟨m,⟨o,es,ep,h,r⟩,_⟩:=id I.loc;obtain⟨q,j⟩:=u.any h I.free 'k';exact I.step (g':=s.gens) (d':=s.drawn) (ch:=[]) (λ_ z=>nomatch z) (λb o _ d _ e n=>u.keep b o e n d (by exact nofun)) (λb o _ d _ e n=>u.slot b o e n d (by exact nofun)) (λb o _ e n=>u.free b o e n (by exact nofun)) (λb o _ e=>u.there b o e (by exact nofun)) u.jV u.hD u.jB (λt i=>by refine jy i λv f g a p=>?_;clear i;rw[h]at a;(obtain rfl:=ao a);exact⟨_,f,g,j,p⟩) c I.bare
theorem Inv.call(I:Inv X zK σ H s)(u:Un (cN X.stack) ch H H' s.heap h')(g:c5 X.prog X.w H' h')(v:mZ g') (d:∀b∈ch,(b∈X.ex\/X.dH.heap.objs.size<=b)/\b≠X.env.locals/\(∀x c,X.env.cells.lookup x=Z c->c≠b)/\∀p∈X.pn++zK,p.1≠b):Inv X zK σ H' {s with heap:=h',gens:=g',drawn:=d',toks:=t'}:=by obtain⟨m,⟨o,es,ep,q,r⟩,_⟩:=id I.loc;obtain⟨B,h⟩:=u.any q I.free λz=>(d _ z).2.1 W;exact I.step (ch:=ch) d (λb o h y a e n=>u.keep b o e n (λz=>(a7.mp (I.vX b z)).elim h y) a) (λb o _ _ a e n=>u.any e n a) (λb o a e n=>u.free b o e n a) (λb o a e=>u.there b o e a) u.jV u.hD u.jB (λC t=>by refine jy t λE i j f A=>?_;clear t;rw[q]at f;(obtain rfl:=ao f);exact⟨_,i,j,h,A⟩) g v
theorem Inv.turned(I:Inv X zK σ H s)(k:∀b o,b≠a->s.heap.get? b=Z o->h'.get? b=Z o)(hn:H a=am)(g:a≠X.env.locals) (j:a∈X.ex\/X.dH.heap.objs.size<=a) (t:∀x c,X.env.cells.lookup x=Z c->c≠a) (w:∀p∈X.pn++zK,p.1≠a):Inv X zK σ H {s with heap:=h',toks:=t'}:=by
 have h:∀b u,H b=Z u->b≠a:=(by grind);refine I.step (g':=s.gens) (d':=s.drawn) (ch:=[a]) (λb y=>?_) (λb o _ _ d e _=>k b o (λz=>d (by simp[z])) e) (λb o _ _ d e _=>⟨o.slots,k b o (λz=>d (by simp[z])) e⟩) (λ_ _ _ _ n=>n) (λb o d e=>⟨o,k b o (λz=>d (by simp[z])) e⟩) (λ_ _ e=>e) (λ_ _ _ e=>e) (λb ps e=>⟨#[],by rw[e];simp⟩) (λm f=>?_) (λb u e=>?_) I.bare;·grind
 ·refine jy f λo es ep i r=>?_;clear f;exact⟨o,es,ep,k _ o (b6 g) i,r⟩
 ·refine(I.aR b u e).jA (λc v d q=>k c v ?_ q) (λ_ q=>q) λ_ _ q=>q;grind
theorem Inv.tok(I:Inv X zK σ H s)(t:Nat):Inv X zK σ H {s with toks:=t}:=I.un (h':=s.heap) (t':=t) Un.refl I.aR
theorem Inv.kept(I:Inv X zK σ H s)(k:∀b u,s.heap.get? b=Z u->h'.get? b=Z u):Inv X zK σ H {s with heap:=h',toks:=t'}:=I.un (Un.kept k) (I.aR.kept k)
theorem Inv.laid(I:Inv X zK σ H s)(k:∀b u,s.heap.get? b=Z u->h'.get? b=Z u)(c:s.heap.objs.size<=a)(new:dG X.prog X.w (upd H a o) h' a o):Inv X zK σ (upd H a o) {s with heap:=h',toks:=t'}:=I.un (Un.laid k c (I.aR.fresh c)) (I.aR.laid k c new)
theorem Inv.write(I:Inv X zK σ H s)(c:tq (H x))(d:e=x\/H e=Z (.own x))(k:∀b u,b≠e->s.heap.get? b=Z u->h'.get? b=Z u)(a:∃u,h'.get? e=Z u)(new:dG X.prog X.w (upd H x o) h' x o):Inv X zK σ (upd H x o) {s with heap:=h',toks:=t'}:=I.un (Un.write c d k a) (I.aR.write c d k a new)
theorem Inv.v3(I:Inv X zK σ H s)(h:∀p∈a,s.heap.get? p.1=Z p.2/\H p.1=am/\p.1≠X.env.locals/\p.1∉X.fs/\∀v,p.2.data≠ .cell v):Inv X a σ H s:=⟨I.ok,I.os,I.bare,I.base,I.loc,I.cell,I.free,I.fT,λp b=>(bQ.mp b).elim (λz=>I.pin p (d_ _ z)) (h p),I.aR,I.len⟩
theorem zu{N:List Str}(c:N.Nodup){i:Nat}(a:N[i]?=Z x)(b:N[j]?=Z x):i=j:=by grind[List.getElem_inj]
theorem Ez(I:Inv X zK σ H s)(hN:X.N.Nodup)(Y:X.N[i]?=Z x)(B:Loc X.env.scope x)(r:RelV v u)(h:∀s',Inv X zK (σ.set i (Z v)) H s'->(∃a,m2 a s.heap s'.heap/\(a=X.env.locals\/X.env.cells.lookup x=Z a))->Q () s')(hf:X.fn x=be\/X.env.scope.names.lookup x=Z .local:=by first|exact .inl W|exact .inr W|assumption):wpAny M A (storeName X.env x u) Q E s:=by
 obtain⟨m,hn,hl⟩:=id I.loc;have U:(X.env.scope.kind== .class||(X.env.scope.kind== .module&&X.env.locals != X.env.globals))=bi:=by rw[I.ok.kind];rfl
 have J:i<σ.length:=by rw[I.len];exact(bF.mp Y).1
 have mi:=I.mi;have g:∀{a:Addr}{h':Heap},(∃o,s.heap.get? a=Z o/\H a=am)->m2 a s.heap h'->c5 X.prog X.w H h':=λ{a h'} ha f b ob e=>by obtain⟨_,_,ZvY⟩:=ha;refine(I.aR b ob e).jA (λc w' C q=>(f.2 c ?_).trans q) (λ_ q=>q) λ_ _ q=>q;grind
 rcases B with hk|hk
 ·refine wpAny_storeName_local hk hn (λh' OW f=>?_) U;refine jy (id hn) λoL _ _ OY _=>?_;refine h _ ⟨I.ok,I.os,I.bare,⟨λb o e n L B=>?_,λb o e n L B=>?_,I.base.free,λb o e B=>?_,I.base.jV,I.base.hD,I.base.jB⟩,⟨_,OW,λj y v' t G e3=>?_⟩,λy c e=>?_,I.free,I.fT,λp hp=>?_,g ⟨oL,OY,I.free⟩ f,by simpa using I.len⟩ ⟨_,f,.inl W⟩;·exact(f.2 b (b5 (iE (bz e) I.ok.above))).trans (I.base.keep b o e n L B)
  ·obtain⟨sl,t⟩:=I.base.slot b o e n L B;exact⟨sl,(f.2 b (b5 (iE (bz e) I.ok.above))).trans t⟩
  ·obtain⟨o',t⟩:=I.base.there b o e B;exact⟨o',(f.2 b (b5 (iE (bz e) I.ok.above))).trans t⟩
  ·by_cases T:j=i;·subst T;rw[Y]at t;(obtain rfl:=ao t);rw[ij J]at G;cases G;exact⟨u,r,.inl ⟨hk,by simp⟩⟩
   ·rw[dh (b6 T)]at G;obtain⟨u',r',q⟩:=hl j y v' t G e3;refine⟨u',r',?_⟩;rcases q with⟨k,e⟩|⟨k,c,e,z⟩
    ·refine .inl ⟨k,?_⟩;grind[zu]
    ·exact .inr ⟨k,c,e,z.sameBut f (mi y c e)⟩
  ·obtain⟨w',z⟩:=I.cell y c e;exact⟨w',z.sameBut f (mi y c e)⟩
  ·refine jx (I.pin p hp) λe n ne nf d=>?_;exact⟨(f.2 p.1 ne).trans e,n,ne,nf,d⟩
 ·have O:X.fn x=be:=by
   rcases hf with z|z
   ·exact z
   ·simp_all
  obtain⟨c,C⟩:=I.ok.has x (.inl hk);obtain⟨w',z⟩:=I.cell x c C;refine wpAny_storeName_cell I.ok.kind hk C z (λh' zw f=>?_);obtain⟨oc,zx,ZvZ⟩:=id z;refine h {s with heap:=h'} ⟨I.ok,I.os,I.bare,⟨λb o e n L B=>?_,λb o e n L B=>?_,I.base.free,λb o e B=>?_,I.base.jV,I.base.hD,I.base.jB⟩,⟨m,hn.sameBut f (b6 (mi x c C)),λj y v' t G e3=>?_⟩,λy c' e=>?_,I.free,I.fT,λp hp=>?_,g ⟨oc,zx,I.fT x c C⟩ f,by simpa using I.len⟩ ⟨c,f,.inr C⟩
  ·exact(f.2 b (b5 (iE (bz e) (I.ok.oR x c O C)))).trans (I.base.keep b o e n L B)
  ·obtain⟨sl,t⟩:=I.base.slot b o e n L B;exact⟨sl,(f.2 b (b5 (iE (bz e) (I.ok.oR x c O C)))).trans t⟩
  ·obtain⟨o',t⟩:=I.base.there b o e B;exact⟨o',(f.2 b (b5 (iE (bz e) (I.ok.oR x c O C)))).trans t⟩
  ·by_cases T:j=i
   ·subst T;rw[Y]at t;(obtain rfl:=ao t);rw[ij J]at G;cases G;exact⟨u,r,.inr ⟨.inl hk,c,C,zw⟩⟩
   ·rw[dh (b6 T)]at G;obtain⟨u',r',q⟩:=hl j y v' t G e3;refine⟨u',r',?_⟩;rcases q with q|⟨k,c',e,z'⟩
    ·exact .inl q
    ·refine .inr ⟨k,c',e,z'.sameBut f ?_⟩;rintro rfl;exact T (zu hN t (I.ok.inj _ _ _ e C▸Y))
  ·by_cases v5:c'=c
   ·grind
   ·obtain⟨w2,z2⟩:=I.cell y c' e;exact⟨w2,z2.sameBut f v5⟩
  ·refine jx (I.pin p hp) λe n ne nf d=>?_;refine⟨(f.2 p.1 ?_).trans e,n,ne,nf,d⟩;grind
theorem v7(I:Inv X zK σ H s)(b:X.N.Nodup)(c:X.N[i]?=Z x)(d:Loc X.env.scope x)(r:RelV v u)(h:∀a,Inv X zK (σ.set i (Z v)) H a->Q () a)(hf:X.fn x=be\/X.env.scope.names.lookup x=Z .local:=by first|exact .inl W|exact .inr W|assumption):wpAny M A (storeName X.env x u) Q E s:=Ez I b c d r (λa e _=>h a e) hf
theorem Inv.OZ{a:aq}(I:Inv X zK σ H s)(g:a.os=s.os)(u:Un (cN X.stack) ch H H' s.heap a.heap)(d:c5 X.prog X.w H' a.heap)(h:mZ a.gens)(f:∀b∈ch,(b∈X.ex\/X.dH.heap.objs.size<=b)/\b≠X.env.locals/\(∀x c,X.env.cells.lookup x=Z c->c≠b)/\∀p∈X.pn++zK,p.1≠b):Inv X zK σ H' a:=by obtain⟨h',g',d',t',i⟩:=a;have e:i=s.os:=g;subst e;exact I.call (g':=g') (t':=t') (d':=d') u d h f
end
noncomputable abbrev XK:=Value->Option Addr->Hp->Prop
noncomputable abbrev St:=List (Option V)
noncomputable abbrev VK:=V->Hp->Prop
noncomputable abbrev TE:=St->Hp->VK->Prop
noncomputable abbrev TT:=St->Hp->(Bool->Hp->Prop)->Prop
noncomputable abbrev TA:=St->Hp->(List V->Hp->Prop)->Prop
structure Ends where
 nx:St->Hp->Prop
 rt:VK
 bk:St->Hp->Prop:=λ_ _=>False
 ct:St->Hp->Prop:=λ_ _=>False
noncomputable abbrev TS:=Ends->St->Hp->Prop
def EP(X:Cx)(zK:List (Addr×Obj))(σ:St)(Q:VK)(u:Value)(a:aq):Prop:=∃v H',Inv X zK σ H' a/\RelV v u/\Q v H'
def TP(X:Cx)(zK:List (Addr×Obj))(σ:St)(Q:Bool->Hp->Prop)(b:Bool)(a:aq):Prop:=∃H',Inv X zK σ H' a/\Q b H'
def AP(X:Cx)(zK:List (Addr×Obj))(σ:St)(Q:List V->Hp->Prop)(a:List Value)(b:aq):Prop:=∃vs H',Inv X zK σ H' b/\Vals vs a/\Q vs H'
def SP(X:Cx)(zK:List (Addr×Obj))(D:Ends)(f:Flow)(b:aq):Prop:=match f with|.next=>∃a H',Inv X zK a H' b/\D.nx a H'|.brk=>∃a H',Inv X zK a H' b/\D.bk a H'|.cont=>∃a H',Inv X zK a H' b/\D.ct a H'|.ret u=>∃v a H',Inv X zK a H' b/\RelV v u/\D.rt v H'
def PE(X:Cx)(e:Expr)(t:TE):Prop:=∀(zK:List (Addr×Obj))(s:aq)(σ:St)(H:Hp)(Q:VK),Inv X zK σ H s->t σ H Q->wpAny 'b' X.A (eval e X.env) (EP X zK σ Q) X.xe s
def PT(X:Cx)(e:Expr)(t:TT):Prop:=∀(zK:List (Addr×Obj))(s:aq)(σ:St)(H:Hp)(Q:Bool->Hp->Prop),Inv X zK σ H s->t σ H Q->wpAny 'b' X.A (isTrue e X.env (eval e X.env)) (TP X zK σ Q) X.xe s
def PW(X:Cx)(e:Expr)(t:TT):Prop:=∀(a:Sem Value)(zK:List (Addr×Obj))(s:aq)(σ:St)(H:Hp)(Q:Bool->Hp->Prop),Inv X zK σ H s->t σ H Q->wpAny 'b' X.A (isTrue e X.env a) (TP X zK σ Q) X.xe s
theorem PW.pt(h:PW X e t):PT X e t:=h _
def PA(X:Cx)(es:List Expr)(t:TA):Prop:=∀(pos:Pos)(zK:List (Addr×Obj))(s:aq)(σ:St)(H:Hp)(Q:List V->Hp->Prop),Inv X zK σ H s->t σ H Q->wpAny 'b' X.A (yU (ef pos (a4 es X.env))) (AP X zK σ Q) X.xe s
def PS(X:Cx)(st:Stmt)(t:TS):Prop:=∀(zK:List (Addr×Obj))(s:aq)(σ:St)(H:Hp)(D:Ends),Inv X zK σ H s->t D σ H->wpAny 'b' X.A (exec st X.env) (SP X zK D) X.xe s
def fU(X:Cx)(st:List Stmt)(t:TS):Prop:=∀(zK:List (Addr×Obj))(s:aq)(σ:St)(H:Hp)(D:Ends),Inv X zK σ H s->t D σ H->wpAny 'b' X.A (execs st X.env) (SP X zK D) X.xe s
theorem aT{b:Type}{t:Sem b}{Q c:b->aq->Prop}{M:Model}{A:a_}{E:Value->aq->Prop}{s:aq}(h:wpAny M A t Q E s)(d:∀a s,Q a s->c a s):wpAny M A t c E s:=i5 h d λ_ _ x=>x
section
variable {X:Cx}
noncomputable def zy(i:Nat):TE:=λσ H Q=>∃v,σ[i]?=Z (Z v)/\Q v H
noncomputable def tC(v:V):TE:=λ_ H Q=>Q v H
theorem hH(j:X.N[i]?=Z x)(p:dv X.env.scope x)(d:'f'=bi:=by decide)(f:'m'=bi:=by decide):PE X (.Name x pos) (zy i):=by
 intro zK s σ H Q I h;obtain⟨v,e,h⟩:=h;obtain⟨m,hn,q⟩:=I.loc;obtain⟨u,r,l⟩:=q i x v j e p;have b:EP X zK σ Q u s:=⟨v,H,I,r,h⟩;rcases l with⟨hk,t⟩|⟨hk,c,g,a⟩;·exact Nq (ZtF I.ok.kind hk hn t b) d
 ·rcases hk with hk|hk;·exact Nq (ZtG I.ok.kind hk g a b) d
  ·exact Nq (wpAny_loadName_free I.ok.kind hk g a b f) d
theorem zz:PE X (.Constant (.int i) j pos) (tC (.int i)):=λ_ _ _ H _ I h=>wpAny_Constant_int ⟨.int i,H,I.tok _,⟨_,W⟩,h⟩
theorem O0:PE X (.Constant (.bool b) j pos) (tC (.bl b)):=λ_ _ _ H _ I h=>Constant_bool ⟨.bl b,H,I,W,h⟩
theorem O1:PE X (.Constant .none j pos) (tC .aC):=λ_ _ _ H _ I h=>Constant_none ⟨.aC,H,I,W,h⟩
theorem O3:PE X (.Constant (.str x) j pos) (tC (.str x)):=λ_ _ _ H _ I h=>Calls.Constant_str ⟨.str x,H,I.tok _,⟨_,W⟩,h⟩
def Gl(X:Cx)(x:Str):Prop:=X.env.kindOf x=Z .globalImplicit
theorem qS(I:Inv X zK σ H s)(a:Gl X x)(b:X.mg x=Z u)(h:Q u s)(c:'f'=bi:=by decide):wpAny 'b' X.A (eval (.Name x pos) X.env) Q E s:=ZtH I.ok.kind a (Calls.loadGlobal_global (by rw[I.ok.glob];exact I.mod.glob.keeps I.bk) b h) c
theorem lz(I:Inv X zK σ H s)(a:Gl X x)(b:X.mg x=am)(c:eR x=Z u)(h:Q u s)(hn:x≠"__name__":=by decide)(d:'f'=bi:=by decide):wpAny 'b' X.A (eval (.Name x pos) X.env) Q E s:=by obtain⟨g,e,f⟩:=I.mod.blt;exact ZtH I.ok.kind a (Calls.loadGlobal_builtin (by rw[I.ok.glob];exact I.mod.glob.keeps I.bk) b (by rw[I.ok.blt];exact e.keeps I.bk) ((f x hn).trans c) h) d
theorem EB(a:Gl X x)(b:X.mg x=Z u)(r:RelV v u)(c:'f'=bi:=by decide):PE X (.Name x pos) (tC v):=λ_ _ _ H _ I h=>qS I a b ⟨v,H,I,r,h⟩ c
theorem EC(a:Gl X x)(b:X.mg x=am)(c:eR x=Z u)(r:RelV v u)(hn:x≠"__name__":=by decide)(d:'f'=bi:=by decide):PE X (.Name x pos) (tC v):=λ_ _ _ H _ I h=>lz I a b c ⟨v,H,I,r,h⟩ hn d
variable {a b:Expr}{ta tb:TE}{pos:Pos}
noncomputable def tB(t:TE):TT:=λσ H Q=>t σ H λx d=>∃c,x=.bl c/\Q c d
theorem ED{e:Expr}(h:PE X e t)(f:∀c,isTrue e X.env c=(do let v<-c;standAt e.pos;holding [v] (truthy v)):=by intro _;rfl):PT X e (tB t):=by intro zK s σ H Q I hw;refine isTrue_plain (aT (h zK s σ H _ I hw) λv r g=>?_) (f _);obtain⟨x,i,j,m,p⟩:=g;obtain⟨d,rfl,q⟩:=p;cases m;exact wpAny_truthy_bool ⟨i,j,q⟩
variable {tA v8:TT}{rest:List Expr}
noncomputable def O4(t u:TT):TT:=λσ H Q=>t σ H λc d=>if c=be then u σ d Q else Q bi d
noncomputable def O5(t u:TT):TT:=λσ H Q=>t σ H λc d=>if c=be then Q be d else u σ d Q
noncomputable def O6(t:TT):TT:=λσ H Q=>t σ H λc d=>Q (!c) d
theorem EE(d:PT X a tA):PW X (.BoolOp .And [a] pos) tA:=by intro f zK s σ H Q I h;refine isTrue_and (aT (d zK s σ H Q I h) λc g e=>?_);grind[isTrue_and_nil]
theorem O7(d:PT X a tA):PW X (.BoolOp .Or [a] pos) tA:=by intro f zK s σ H Q I h;refine isTrue_or (aT (d zK s σ H Q I h) λc g e=>?_);grind[isTrue_or_nil]
theorem EF(g:PT X a tA)(i:PW X (.BoolOp .And (b::rest) pos) v8):PW X (.BoolOp .And (a::b::rest) pos) (O4 tA v8):=by intro j zK s σ H Q I h;refine isTrue_and (aT (g zK s σ H _ I h) λc m p=>?_);obtain⟨d,e,f⟩:=p;cases c with|true=>exact i j zK m σ d Q e f|false=>exact⟨d,e,f⟩
theorem O8(g:PT X a tA)(i:PW X (.BoolOp .Or (b::rest) pos) v8):PW X (.BoolOp .Or (a::b::rest) pos) (O5 tA v8):=by intro j zK s σ H Q I h;refine isTrue_or (aT (g zK s σ H _ I h) λc m p=>?_);obtain⟨d,e,f⟩:=p;cases c with|true=>exact⟨d,e,f⟩|false=>exact i j zK m σ d Q e f
theorem EG(d:PT X a tA):PT X (.UnaryOp .Not a pos) (O6 tA):=by intro zK s σ H Q I h;exact isTrue_not (d zK s σ H (λc e=>Q (!c) e) I h)
noncomputable def O9(ta tb:TE):TE:=λσ H Q=>ta σ H λx d=>∃c,x=.bl c/\if c=be then tb σ d Q else Q (.bl bi) d
noncomputable def O_(ta tb:TE):TE:=λσ H Q=>ta σ H λx d=>∃c,x=.bl c/\if c=be then Q (.bl be) d else tb σ d Q
theorem Pa(h:PE X a t):PE X (.BoolOp c [a] pos) t:=λzK s σ H Q I hw=>BoolOp_one (h zK s σ H Q I hw)
theorem Pb(g:PE X a ta)(i:PE X (.BoolOp .And (b::rest) pos) tb):PE X (.BoolOp .And (a::b::rest) pos) (O9 ta tb):=by intro zK s σ H Q I h;refine BoolOp_and (aT (g zK s σ H _ I h) λv j m=>?_);obtain⟨x,e,f,p,d⟩:=m;obtain⟨c,rfl,d⟩:=d;cases p;refine wpAny_truthy_bool ?_;cases c with|true=>exact i zK j σ e Q f d|false=>exact⟨.bl bi,e,f,W,d⟩
theorem Pc(g:PE X a ta)(i:PE X (.BoolOp .Or (b::rest) pos) tb):PE X (.BoolOp .Or (a::b::rest) pos) (O_ ta tb):=by intro zK s σ H Q I h;refine BoolOp_or (aT (g zK s σ H _ I h) λv j m=>?_);obtain⟨x,e,f,p,d⟩:=m;obtain⟨c,rfl,d⟩:=d;cases p;refine wpAny_truthy_bool ?_;cases c with|false=>exact i zK j σ e Q f d|true=>exact⟨.bl be,e,f,W,d⟩
end
def b9(K:av)(H:Hp)(a:Addr)(xs:List V):Prop:=Rd H a (.lst xs)∨ ∃(o:Obj)(b:Array Value)(n:Nat),K.lookup a=Z o/\o.cls=.type "list"/\o.dict=am/\o.data=.seq b n/\b.size<=aD/\Vals xs b.toList
def cF(K:av)(H:Hp)(a:Addr)(xs:List V):Prop:=H a=Z (.tup xs)∨ ∃(o:Obj)(b:Array Value)(n:Nat),K.lookup a=Z o/\o.cls=.type "tuple"/\o.data=.seq b n/\b.size<=aD/\Vals xs b.toList
noncomputable def Pd:Value->Option V|.none=>Z .aC|.bool b=>Z (.bl b)|.int i _=>Z (.int i)|.str x _=>Z (.str x)|.bytes b _=>Z (.tp b)|.float b _=>Z (.zt b)|.ref a=>Z (.ref a)|.type n=>Z (.ty n)|_=>am
theorem RelV.abs(r:RelV x u):Pd u=Z x:=by cases x with|aC=>cases r;rfl|bl _=>cases r;rfl|int _=>obtain⟨t,rfl⟩:=r;rfl|str _=>obtain⟨t,rfl⟩:=r;rfl|tp _=>obtain⟨t,rfl⟩:=r;rfl|zt _=>obtain⟨t,rfl⟩:=r;rfl|ref _=>cases r;rfl|ty _=>cases r;rfl
theorem RelV.inj(r:RelV x u)(q:RelV y u):x=y:=ao (r.abs.symm.trans q.abs)
theorem Vals.inj:∀{ys:List V}{a:List Value},Vals xs a->Vals ys a->xs=ys:=by induction xs with|nil=>intro ys a h h';cases h;cases h';rfl|cons x xs b=>intro ys a h h';cases h with|cons r t=>cases h' with|cons c t'=>rw[r.inj c,b t t']
section
variable {X:Cx}{zK:List (Addr × Obj)}{σ:St}{H:Hp}{s:aq}{a:Addr}{xs ys:List V}
theorem b9.of{K:av}(h:H a=Z (.lst xs)):b9 K H a xs:=.inl (.inl h)
theorem cF.of{K:av}(h:H a=Z (.tup xs)):cF K H a xs:=.inl h
theorem Inv.list(I:Inv X zK σ H s)(h:b9 X.K H a xs):∃b:List Value,Vals xs b/\PlainL s.heap a b.toArray/\xs.length<=aD:=by
 rcases h with h|⟨o,b,n,d,f,g,i,hz,r⟩;·refine bc (h.ok I.aR) λz c=>b8 c λb n r e=>?_;clear c;exact⟨b,r,⟨_,n,e,W,W,W⟩,z⟩
 ·refine⟨b.toList,r,⟨o,n,I.gh a o d,f,g,by omega⟩,?_⟩;have e:=r.length;simp_all
theorem Inv.tuple(I:Inv X zK σ H s)(h:cF X.K H a xs):∃b:List Value,Vals xs b/\IsTup s.heap a b.toArray/\xs.length<=aD:=by
 rcases h with h|⟨o,b,n,d,f,g,hz,r⟩;·refine bc (I.aR _ _ h) λz c=>a9 c λb r p=>?_;clear c;grind
 ·refine⟨b.toList,r,⟨o,I.gh a o d,f,n,by omega⟩,?_⟩;have e:=r.length;simp_all
theorem Inv.EH(I:Inv X zK σ H s)(h:b9 X.K H a xs)(h':b9 X.K H a ys):xs=ys:=by
 obtain⟨b,r,⟨o,n,e,_,_,d⟩,_⟩:=I.list h;obtain⟨its',f,⟨g,i,c,_,_,d'⟩,_⟩:=I.list h';rw[e]at c;(obtain rfl:=ao c);rw[d]at d';injection d' with d1 _;have:b=its':=by simpa using congrArg ZtI d1
 subst this;exact r.inj f
theorem Inv.v9(I:Inv X zK σ H s)(h:cF X.K H a xs)(h':cF X.K H a ys):xs=ys:=by
 obtain⟨b,r,⟨o,e,_,n,d⟩,_⟩:=I.tuple h;obtain⟨its',f,⟨g,c,_,i,d'⟩,_⟩:=I.tuple h';rw[e]at c;(obtain rfl:=ao c);rw[d]at d';injection d' with d1 _;have:b=its':=by simpa using congrArg ZtI d1
 subst this;exact r.inj f
end
noncomputable abbrev Cx.lA(X:Cx)(E:Value->aq->Prop):Cx:={X with xe:=E}
noncomputable abbrev Cx.lB(X:Cx):Cx:=X.lA λ_ _=>False
theorem Cx.Ok.lA{X:Cx}(ok:X.Ok)(E:Value->aq->Prop):(X.lA E).Ok:=⟨ok.mod,ok.kind,ok.glob,ok.blt,ok.above,ok.inj,ok.has,ok.oR,ok.hd,ok.frames,ok.qR,ok.tr,ok.bs,ok.ly,ok.oS,ok.nv,ok.iI,ok.mh⟩
theorem Cx.Ok.nB{X:Cx}(ok:(X.lA E).Ok):X.Ok:=⟨ok.mod,ok.kind,ok.glob,ok.blt,ok.above,ok.inj,ok.has,ok.oR,ok.hd,ok.frames,ok.qR,ok.tr,ok.bs,ok.ly,ok.oS,ok.nv,ok.iI,ok.mh⟩
section
variable {X:Cx}{zK:List (Addr × Obj)}{σ:St}{H:Hp}{s:aq}{E:Value->aq->Prop}
theorem Inv.lA(I:Inv X zK σ H s)(E:Value->aq->Prop):Inv (X.lA E) zK σ H s:=⟨I.ok.lA E,I.os,I.bare,I.base,I.loc,I.cell,I.free,I.fT,I.pin,I.aR,I.len⟩
theorem Inv.nB(I:Inv (X.lA E) zK σ H s):Inv X zK σ H s:=⟨I.ok.nB,I.os,I.bare,I.base,I.loc,I.cell,I.free,I.fT,I.pin,I.aR,I.len⟩
theorem SP.nB(h:SP (X.lA E) zK D f b):SP X zK D f b:=by cases f with|next=>refine b8 h λa H' I q=>?_;clear h;exact⟨a,H',I.nB,q⟩|brk=>refine b8 h λa H' I q=>?_;clear h;exact⟨a,H',I.nB,q⟩|cont=>refine b8 h λa H' I q=>?_;clear h;exact⟨a,H',I.nB,q⟩|ret u=>refine dj h λv a H' I r q=>?_;clear h;exact⟨v,a,H',I.nB,r,q⟩
theorem fU.lB{st:List Stmt}(h:fU X.lB st t):fU X st t:=λzK s σ H D I hw=> i5 (h zK s σ H D (I.lA _) hw) (λ_ _ q=>q.nB) λ_ _ z=>dD z
end
section
variable {X:Cx}{st:Stmt}{rest:List Stmt}{t u:TS}{e:Expr}{te:TE}{pos:Pos}
noncomputable def Pe:TS:=λD σ H=>D.nx σ H
noncomputable def Pf(t u:TS):TS:=λD σ H=>t {D with nx:=u D} σ H
theorem v_:fU X [] Pe:=λ_ _ σ H _ I h=>yV ⟨σ,H,I,h⟩
theorem qT(b:PS X st t)(c:fU X rest u):fU X (st::rest) (Pf t u):=by intro zK s σ H D I h;refine wpAny_execs_cons (aT (b zK s σ H {D with nx:=u D} I h) λf d q=>?_);cases f with|next=>refine b8 q λa H' g q=>?_;exact c zK d a H' D g q|ret v=>exact q|brk=>exact q|cont=>exact q
theorem oT(a:PS X st t):fU X [st] t:=by intro zK s σ H D I h;refine wpAny_execs_cons (aT (a zK s σ H D I h) λf b q=>?_);grind[yV,ret]
theorem Inv.quiet(I:Inv X zK σ H s):interactive X.env=bi:=by simp[interactive,I.ok.kind]
noncomputable def Pg(te:TE):TS:=λD σ H=>te σ H λ_ a=>D.nx σ a
theorem oU(a:PE X e te)(b:eY e am pos.line X.env=pure bi:=by rfl):PS X (.Expr e pos) (Pg te):=by intro zK s σ H D I h;exact wpAny_Expr_any (aT (a zK s σ H _ I h)<|by rintro v g ⟨x,c,d,i,f⟩;exact⟨σ,c,d,f⟩) I.quiet b
noncomputable def Ph(te:TE):TS:=λD σ H=>te σ H D.rt
theorem tw(a:PE X e te):PS X (.Return (Z e) pos) (Ph te):=by intro zK s σ H D I h;exact wpAny_Return_some (aT (a zK s σ H _ I h)<|by rintro v g ⟨x,b,c,d,f⟩;exact⟨x,σ,b,c,d,f⟩)
noncomputable def Pj(c:TT)(t u:TS):TS:=λD σ H=>c σ H λb a=>if b=be then t D σ a else u D σ a
theorem qU(m:PT X c p)(q:fU X a t)(r:fU X b u):PS X (.If c a b pos) (Pj p t u):=by intro zK s σ H D I h;refine wpAny_If (aT (m zK s σ H _ I h) λd f v=>?_);obtain⟨g,i,j⟩:=v;cases d with|true=>exact q zK f σ g D i j|false=>exact r zK f σ g D i j
end
noncomputable abbrev TG:=V->St->Hp->(St->Hp->Prop)->Prop
noncomputable abbrev oV:=List V->St->Hp->(St->Hp->Prop)->Prop
def PG(X:Cx)(a:Expr)(t:TG):Prop:=∀(zK:List (Addr×Obj))(s:aq)(σ:St)(H:Hp)(v:V)(u:Value)(Q:St->Hp->Prop),Inv X zK σ H s->RelV v u->t v σ H Q-> wpAny 'b' X.A (l7 a X.env u) (λ_ c=>∃b H',Inv X zK b H' c/\Q b H') X.xe s
def qV(X:Cx)(c:List Expr)(t:oV):Prop:=∀(zK:List (Addr×Obj))(s:aq)(σ:St)(H:Hp)(vs:List V)(b:List Value)(Q:St->Hp->Prop),Inv X zK σ H s->Vals vs b->t vs σ H Q-> wpAny 'b' X.A (assignInOrder ((i6 c X.env).map (·.2)) b) (λ_ d=>∃a H',Inv X zK a H' d/\Q a H') X.xe s
noncomputable abbrev gQ:=V->V->V->Hp->(Hp->Prop)->Prop
def EI(X:Cx)(t:gQ):Prop:=∀(zK:List (Addr×Obj))(s:aq)(σ:St)(H:Hp)(o i v:V)(a b u:Value)(Q:Hp->Prop),Inv X zK σ H s->RelV o a->RelV i b->RelV v u->t o i v H Q-> wpAny 'b' X.A (setItem a b u) (λ_ c=>∃H',Inv X zK σ H' c/\Q H') X.xe s
noncomputable abbrev zA:=V->V->Hp->VK->Prop
def EJ(X:Cx)(a:Operator)(t:zA):Prop:=∀(zK:List (Addr×Obj))(s:aq)(σ:St)(H:Hp)(x y:V)(v u:Value)(Q:VK),Inv X zK σ H s->RelV x v->RelV y u->t x y H Q-> wpAny 'b' X.A (inplaceOp a v u) (EP X zK σ Q) X.xe s
section
variable {X:Cx}{pos:Pos}
noncomputable def zB(i:Nat):TG:=λv σ H Q=>Q (σ.set i (Z v)) H
theorem EK(a:X.N.Nodup)(b:X.N[i]?=Z x)(c:Loc X.env.scope x)(hf:X.fn x=be\/X.env.scope.names.lookup x=Z .local:=by first|exact .inl W|exact .inr W|assumption):PG X (.Name x pos) (zB i):=by intro zK s σ H v u Q I r h;exact wpAny_assign_Name (v7 I a b c r (λe d=>⟨_,H,d,h⟩) hf)
noncomputable def Pk:oV:=λvs σ H Q=>vs=[]/\Q σ H
noncomputable def Pm(t:TG)(u:oV):oV:=λvs σ H Q=>∃v r,vs=v::r/\t v σ H λa H'=>u r a H' Q
theorem EL:qV X [] Pk:=by intro zK s σ H vs a Q I r h;obtain⟨e,h⟩:=h;subst e;cases r;exact assignInOrder_nil ⟨σ,H,I,h⟩
theorem EM(b:PG X e t)(c:qV X es u)(d:(i6 (e::es) X.env).map (·.2)=l7 e X.env::(i6 es X.env).map (·.2):=by rfl):qV X (e::es) (Pm t u):=by intro zK s σ H vs w Q I r h;obtain⟨v,x,f,h⟩:=h;subst f;cases r with|cons r g=>rw[d];refine assignInOrder_cons (aT (b zK s σ H _ _ _ I r h) λ_ i j=>?_);obtain⟨a,m,p,q⟩:=j;exact c zK i a m _ _ Q p g q
noncomputable def Pn(K:av)(n:Nat)(t:oV):TG:=λv σ H Q=>∃a xs,v=.ref a/\cF K H a xs/\xs.length=n/\t xs σ H Q
theorem EN{k:Nat}{n:Nat}(d:X.calm=be)(h:qV X es t)(hn:(i6 es X.env).length=n:=by rfl)(c:(i6 es X.env).findIdx? (·.1)=am:=by rfl):PG X (.Tuple es k pos) (Pn X.K n t):=by intro zK s σ H v u Q I r hw;obtain⟨a,xs,f,g,i,hw⟩:=hw;subst f;cases r;obtain⟨j,m,p,hz⟩:=I.tuple g;refine assign_Tuple_tuple (I.ok.hd d) p (by simp[hn,<-i,m.length]) c λh' q=>?_;have w:Inv X zK σ H {s with heap:=h'}:=I.kept (t':=s.toks) λb o e=>q b o (b5 (bz e)) e;exact h zK _ σ H xs _ Q w (by omega) hw
noncomputable def Po(a b:TE)(t:gQ):TG:=λv σ H Q=>a σ H λo c=>b σ c λi H2=>t o i v H2 λd=>Q σ d
theorem Pp(d:PE X o e)(f:PE X i g)(j:EI X t)(m:∀v,l7 (.Subscript o i pos) X.env v=(do
   let a<-holding [v] (eval o X.env);let b<-holding [v,a] (eval i X.env)
   standAt pos
   holding [v,a,b] (setItem a b v)
   release [v,a,b] []):=by intro _;rfl):PG X (.Subscript o i pos) (Po e g t):=by intro zK s σ H v u Q I r h;rw[m];refine gV (wpAny_holding (aT (d zK s σ H _ I h) λa p c=>?_));obtain⟨x,q,w,z,A⟩:=c;refine gV (wpAny_holding (aT (f zK p σ q _ w A) λb B c=>?_));obtain⟨y,H2,C,E,G⟩:=c;refine gV (Nr (gV (wpAny_holding (aT (j zK B σ H2 x y v a b u _ C z E r G) λ_ J c=>?_))));obtain⟨L,M,N⟩:=c;grind[wpAny_release]
noncomputable def zC(a:TE)(g:TG):TS:=λD σ H=>a σ H λx b=>g x σ b D.nx
theorem EO(b:PE X e c)(d:PG X a g)(f:Nt [a] e pos.line X.env=pure bi:=by rfl)(hw:Nu [a] e X.env=pure am:=by rfl)(i:(i6 [a] X.env).map (·.2)=[l7 a X.env]:=by rfl):PS X (.Assign [a] e pos) (zC c g):=by intro zK s σ H D I h;refine wpAny_Assign_stores (aT (b zK s σ H _ I h) λv j m=>?_) f hw;obtain⟨x,p,r,t,u⟩:=m;rw[i];exact aT (d zK j σ p x v _ r t u) λ_ w q=>q
theorem kE(a:X.N.Nodup)(b:X.N[i]?=Z x)(c:Loc X.env.scope x)(d:PE X e f)(g:eY e (Z (.Name x pos')) pos.line X.env=pure bi:=by rfl)(hf:X.fn x=be\/X.env.scope.names.lookup x=Z .local:=by first|exact .inl W|exact .inr W|assumption):PS X (.Assign [.Name x pos'] e pos) (zC f (zB i)):=by intro zK s σ H D I h;refine wpAny_Assign_Name (aT (d zK s σ H _ I h) λv u j=>?_) g;obtain⟨y,m,p,q,r⟩:=j;exact v7 p a b c q (λw t=>⟨_,m,t,r⟩) hf
noncomputable def Pq(i:Nat)(a:TE)(b:zA):TS:=λD σ H=>∃x,σ[i]?=Z (Z x)/\a σ H λy c=>b x y c λz H2=>D.nx (σ.set i (Z z)) H2
theorem Pr(t:X.N.Nodup)(p:X.N[i]?=Z x)(f:Loc X.env.scope x)(B:PE X e C)(E:EJ X q G)(hf:X.fn x=be\/X.env.scope.names.lookup x=Z .local:=by first|exact .inl W|exact .inr W|assumption):PS X (.AugAssign (.Name x pos') q e pos) (Pq i C G):=by
 intro zK s σ H D I h;obtain⟨v,J,h⟩:=h;obtain⟨m,hn,L⟩:=I.loc;have g:dv X.env.scope x:=by rcases f with k|k;exact .inl k;exact .inr (.inl k)
 obtain⟨u,r,l⟩:=L i x v p J g;refine wpAny_AugAssign_Name ?_;have go:wpAny 'b' X.A (eval e X.env) (λw b=>wpAny 'b' X.A (inplaceOp q u w) (λr d=>wpAny 'b' X.A (storeName X.env x r) (λ_=>SP X zK D .next) X.xe d) X.xe b) X.xe s:=by refine aT (B zK s σ H _ I h) λw M j=>?_;obtain⟨y,O,Q,T,U⟩:=j;refine aT (E zK M σ O v y u w _ Q r T U) λz s2 j=>?_;obtain⟨zv,H2,Y,r2,q2⟩:=j;exact v7 Y t p f r2 (λs3 I3=>⟨_,H2,I3,q2⟩) hf
 rcases l with⟨hk,hm⟩|⟨hk,c,hc,a⟩;·exact ZtF I.ok.kind hk hn hm go
 ·rcases hk with hk|hk;·exact ZtG I.ok.kind hk hc a go
  ·rcases f with k|k;·have:X.env.scope.names.lookup x=Z .free:=hk;simp_all
   ·have:X.env.scope.names.lookup x=Z .free:=hk;simp_all
noncomputable def Pt(f:Int->Int->Int):zA:=λx y H Q=>∃i j,x=.int i/\y=.int j/\Q (.int (f i j)) H
theorem Pu:EJ X .Add (Pt λi j=>i+j):=by intro zK s σ H x y v u Q I a b h;refine cM h λi j c d q=>?_;clear h;subst c;subst d;obtain⟨t,rfl⟩:=a;obtain⟨t',rfl⟩:=b;exact iadd_int ⟨.int _,H,I.tok _,⟨_,W⟩,q⟩
end
section
variable {X:Cx}{pos:Pos}
noncomputable def Pw(c:TT)(f:TS):TS:=λD σ H=>∃ad:Nat->St->Hp->Prop,(∃m,ad m σ H)/\∀m σ H,ad m σ H-> c σ H λb d=>if b=be then ∃N:St->Hp->Prop,(∀a H',N a H'->∃e,e<m/\ad e a H')/\f {D with nx:=N,ct:=N,bk:=D.nx} σ d else D.nx σ d
theorem Px(m:PassesOwn 'b' X.A X.env X.xe)(r:PT X c t)(u:fU X body x):PS X (.While c body [] pos) (Pw t x):=by intro zK s σ H D I h;obtain⟨ad,⟨y,z⟩,e⟩:=h;refine wpAny_While (codeAny_whileLoop (λn B=>∃g H',Inv X zK g H' B/\ad n g H') ?_ y ⟨σ,H,I,z⟩);rintro n C ⟨a,p,E,G⟩;refine sJ m (aT (r zK C a p _ E (e n a p G)) λb J L=>?_);obtain⟨H2,q,i⟩:=L;cases b with
 |true=>obtain⟨N,Q,i⟩:=i;rw[if_pos W];refine sJ m (aT (u zK J a H2 _ q i) λf T d=>?_);cases f with
  |next=>refine b8 d λj M O n3=>?_;clear d;grind|cont=>refine b8 d λj M O n3=>?_;clear d;grind|brk=>exact d|ret v=>exact d
 |false=>rw[if_neg ei];exact yV ⟨a,H2,q,i⟩
end
structure It where
 go:Nat->Hp->Prop
 qW:Nat->Hp->V->Hp->Prop
 stop:Nat->Hp->Prop
def nE(X:Cx)(zK:List (Addr×Obj))(H:Hp)(b:Addr):Prop:=H b=am/\b≠X.env.locals/\b∉X.fs/\(b∈X.ex\/X.dH.heap.objs.size<=b)/\(∀x c,X.env.cells.lookup x=Z c->c≠b)/\∀p∈X.pn++zK,p.1≠b
theorem Inv.qX{s:aq}(I:Inv X zK σ H s)(a:s.heap.objs.size<=b)(hn:H' b=am):nE X zK H' b:=by
 refine⟨hn,oB (iE I.lt a),I.Ey a,.inr (cv I.sz a),λx c e z=>?_,λp d z=>?_⟩;·obtain⟨v,q⟩:=I.cell x c e;exact absurd (iE q.lt (by simp_all)) (js _)
 ·exact absurd (iE (bz (I.pin p d).1) (by simp_all)) (js _)
structure Turn(P:a6)(w:World)(K:av)(tg:Expr)(J:It)(fp:List Addr)(it:Addr)(tn:Nat->Heap->Prop):Prop where
 mem:it∈fp
 obj:∀i h,tn i h->∀b∈fp,∃o,h.get? b=Z o/\∀v,o.data≠ .cell v
 keep:∀i h h',tn i h->(∀b∈fp,∀o,h.get? b=Z o->h'.get? b=Z o)->tn i h'
 item:∀(X:Cx),X.prog=P->X.w=w->X.K=K->X.calm=be->∀(i:Nat)(zK:List (Addr×Obj))(s:aq)(σ:St)(H:Hp)(E:Value->aq->Prop),Inv X zK σ H s->(∀b∈fp,nE X zK H b)->tn i s.heap->J.go i H-> wpAny (model P w) X.A (lg (.ref it)) (λr s1=>∃u,r=Z u∧ wpAny (model P w) X.A (C_ tg (.ref it) u) (λ_ s2=>∃x H',Inv X zK σ H' s2/\RelV x u/\J.qW i H x H'/\tn (i+1) s2.heap/\∀b∈fp,H' b=am) E s1) E s
 done:∀(X:Cx),X.prog=P->X.w=w->X.K=K->X.calm=be->∀(i:Nat)(zK:List (Addr×Obj))(s:aq)(σ:St)(H:Hp)(E:Value->aq->Prop),Inv X zK σ H s->(∀b∈fp,nE X zK H b)->tn i s.heap->J.stop i H-> wpAny (model P w) X.A (lg (.ref it)) (λr s1=>r=am/\Inv X zK σ H s1) E s
 self:∀(A:a_)(i:Nat)(s:aq)(Q:Value->aq->Prop)(E:Value->aq->Prop),tn i s.heap->Q (.ref it) s->wpAny (model P w) A (oC (.ref it)) Q E s
noncomputable abbrev TI:=St->Hp->(It->Hp->Prop)->Prop
def wb(X:Cx)(zK:List (Addr×Obj))(σ:St)(g:Expr)(R:It->Hp->Prop)(a:Value)(c:aq):Prop:=∃(d:Addr)(e:List Addr)(f:Nat->Heap->Prop)(J:It)(H':Hp),a=.ref d/\Inv X zK σ H' c/\Turn X.prog X.w X.K g J e d f/\f 0 c.heap/\(∀b∈e,nE X zK H' b)/\R J H'
def PI(X:Cx)(a iter:Expr)(b:TI):Prop:=∀(zK:List (Addr×Obj))(s:aq)(σ:St)(H:Hp)(R:It->Hp->Prop),Inv X zK σ H s->b σ H R-> wpAny 'b' X.A (eval iter X.env) (λv c=>wpAny 'b' X.A (oC v) (wb X zK σ a R) X.xe c) X.xe s
theorem wc{s:aq}{o:Obj}(b:s.heap.get? c=Z o)(d:o.cls=.type n)(e:o.data=.fields vs)(hn:["enumerate","zip","dict_itemiterator","dict_reverseitemiterator","odict_iterator","itertools.zip_longest","itertools.pairwise"].contains n=bi)(a:Q () s):wpAny M A (C_ f (.ref c) u) Q E s:=by unfold C_;cases f<;>first| exact Zy1 a| (cases u<;>first| exact Zy1 a| (refine gV (wpAny_load b ?_);rw[d,e];show wpAny M A (if(["enumerate","zip","dict_itemiterator","dict_reverseitemiterator","odict_iterator","itertools.zip_longest","itertools.pairwise"].contains n&&vs[0]?==Z (lh _))=be then _ else _) Q E s;rw[if_neg (by intro h;rw[hn,Bool.false_and]at h;injection h)];exact Zy1 a))
noncomputable def zD(K:av)(a:Addr):It:=⟨λi H=>∃xs x,b9 K H a xs/\xs[i]?=Z x,λi H x H'=>H'=H/\∀xs,b9 K H a xs->xs[i]?=Z x,λi H=>∃xs,b9 K H a xs/\xs.length<=i⟩
noncomputable def zE(K:av)(a:Addr):It:=⟨λi H=>∃xs x,cF K H a xs/\xs[i]?=Z x,λi H x H'=>H'=H/\∀xs,cF K H a xs->xs[i]?=Z x,λi H=>∃xs,cF K H a xs/\xs.length<=i⟩
noncomputable def qY(lo:Int)(n:Nat):It:=⟨λi _=>i<n,λi H x H'=>H'=H/\x=.int (lo+i),λi _=>n<=i⟩
theorem Py{P:a6}{w:World}{K:av}{M:Expr}(a f:Addr):Turn P w K M (zD K a) [f] f (λi h=>h.IsListIter f a i) where
 mem:=by exact .head _
 obj:=λi h st b g=>by
  have e:b=f:=by simpa using g
  subst e;refine aM st λo e c d=>?_;clear st;simp_all
 keep:=λi h h' st k=>st.at λo e=>k f (by exact .head _) o e
 item:=by intro X r hw t L i zK s σ H E I hf st m;subst r hw t;refine b8 m λxs x q v=>?_;clear m;refine aM (I.list q) λy z p hz=>?_;obtain⟨u,hu,N⟩:=z.get v;refine iH (hf f (by exact .head _)) λA B O C G J=>?_;refine wpAny_pyNext_list_item st p.isList (x:=u) (by grind) λh' j Q=>?_;have T:Inv X zK σ H {s with heap:=h'}:=I.turned (t':=s.toks) (λb o g e=>(Q.2 b g).trans e) A B C G J;refine aM (id j) λo e c d=>?_;exact⟨u,W,wc (s:={s with heap:=h'}) e c d (by exact W) ⟨x,H,T,N,⟨W,λys U=>by rw[I.EH U q];exact v⟩,j,λb g=>(hf b g).1⟩⟩
 done:=by intro X r hw t L i zK s σ H E I hf st m;subst r hw t;obtain⟨xs,q,v⟩:=m;refine aM (I.list q) λy z p hz=>?_;refine iH (hf f (by exact .head _)) λA B O C G J=>?_;have hl:=z.length;exact wpAny_pyNext_list_end (I.ok.hd L) st p.isList (by simp;lia) λh' Y=>⟨W,I.turned (t':=s.toks) (λb o g e=>Y b o g e) A B C G J⟩
 self:=(by grind[st,wpAny_pyIter_listiter])
theorem Pz{P:a6}{w:World}{K:av}{O:Expr}(a f:Addr):Turn P w K O (zE K a) [f] f (λi h=>h.IsTupleIter f a i) where
 mem:=by exact .head _
 obj:=λi h st b g=>by
  have e:b=f:=by simpa using g
  subst e;refine aM st λo e c d=>?_;clear st;exact⟨o,e,λv z=>by rw[d]at z;injection z⟩
 keep:=λi h h' st k=>st.at λo e=>k f (by exact .head _) o e
 item:=by intro X t hw y N i zK s σ H E I hf st q;subst t hw y;refine b8 q λxs x r A=>?_;clear q;refine aM (I.tuple r) λj B p hz=>?_;obtain⟨u,Q,T⟩:=B.get A;refine iH (hf f (by exact .head _)) λC G U J L M=>?_;refine wpAny_pyNext_tuple_item st (show s.heap.IsTuple a j.toArray from p) (x:=u) (by simpa using Q) λh' m Y=>?_;have I1:Inv X zK σ H {s with heap:=h'}:=I.turned (t':=s.toks) (λb o g e=>(Y.2 b g).trans e) C G J L M;refine aM (id m) λo e c d=>?_;exact⟨u,W,wc (s:={s with heap:=h'}) e c d (by exact W) ⟨x,H,I1,T,⟨W,λys hy=>by rw[I.v9 hy r];exact A⟩,m,λb g=>(hf b g).1⟩⟩
 done:=by intro X t hw y N i zK s σ H E I hf st q;subst t hw y;obtain⟨xs,r,A⟩:=q;refine aM (I.tuple r) λj B p hz=>?_;refine iH (hf f (by exact .head _)) λC G U J L M=>?_;have hl:=B.length;exact wpAny_pyNext_tuple_end (I.ok.hd N) st (show s.heap.IsTuple a j.toArray from p) (by simp;lia) λh' eb=>⟨W,I.turned (t':=s.toks) (λb o g e=>eb b o g e) C G J L M⟩
 self:=λ_ _ _ _ _ st h=>wpAny_pyIter_tupleiter st h
theorem PB{P:a6}{w:World}{K:av}{y:Expr}(a:Addr)(lo:Int)(n:Nat):Turn P w K y (qY lo n) [a] a (λi h=>IsRangeIter h a (lo+(i:Nat)*1) ((n:Int)-(i:Nat)) 1) where
 mem:=by exact .head _
 obj:=(by simp_all)
 keep:=λi h h' st k=>k a (by exact .head _) _ st
 item:=by intro X f hw g j i zK s σ H E I hf st m;subst f hw g;refine iH (hf a (by exact .head _)) λp q z r u x=>?_;have ad:=Walks.range (prog:=X.prog) (w:=X.w) (I.ok.hd j) a lo 1 n;refine ad.item i s _ _ m st λv h' tk A c kk=>?_;obtain⟨t,rfl⟩:=A;have B:Inv X zK σ H {s with heap:=h',toks:=tk}:=I.turned (λb o d e=>kk b o (by simpa using d) e) p q r u x;refine⟨_,W,wc (s:={s with heap:=h',toks:=tk}) (n:="range_iterator") c W W (by exact W) ⟨.int (lo+i),H,B,⟨t,?_⟩,⟨W,W⟩,c,λb d=>(hf b d).1⟩⟩;rw[Int.mul_one]
 done:=by intro X f hw g j i zK s σ H E I hf st m;subst f hw g;refine iH (hf a (by exact .head _)) λp q z r u x=>?_;exact wpAny_pyNext_range_end (I.ok.hd j) st (by have:n<=i:=m;lia) λh' C=>⟨W,I.turned (t':=s.toks) (λb o d e=>C b o d e) p q r u x⟩
 self:=(by grind[st,wpAny_pyIter_rangeiter])
section
variable {X:Cx}{tg:Expr}
def PC(K:av)(tl:TE):TI:=λσ H R=>tl σ H λx b=>∃a,x=.ref a/\(∃xs,b9 K b a xs)/\R (zD K a) b
def PD(K:av)(tl:TE):TI:=λσ H R=>tl σ H λx b=>∃a,x=.ref a/\(∃xs,cF K b a xs)/\R (zE K a) b
theorem ER(f:PE X l tl):PI X tg l (PC X.K tl):=by
 intro zK s σ H R I h;refine aT (f zK s σ H _ I h) λv c g=>?_;obtain⟨x,i,d,j,m⟩:=g;obtain⟨a,e,⟨xs,r⟩,q⟩:=m;subst e;cases j;refine aM (d.list r) λt w p hz=>?_;refine Nv p.isList ?_;refine⟨c.heap.objs.size,[c.heap.objs.size],_,_,i,W,d.kept (t':=c.toks) λb o e=>bR _ e,Py a _,⟨_,cW _ W,W,W⟩,λb u=>?_,q⟩;have e:b=c.heap.objs.size:=by simpa using u
 subst e;exact d.qX (ba _) (d.aR.fresh (ba _))
theorem PF(g:PE X l tl):PI X tg l (PD X.K tl):=by
 intro zK s σ H R I h;refine aT (g zK s σ H _ I h) λv c i=>?_;obtain⟨x,j,d,m,r⟩:=i;obtain⟨a,e,⟨xs,t⟩,q⟩:=r;subst e;cases m;refine aM (d.tuple t) λf w p hz=>?_;refine ZtJ (show c.heap.IsTuple a f.toArray from p) ?_;refine⟨c.heap.objs.size,[c.heap.objs.size],_,_,j,W,d.kept (t':=c.toks) λb o e=>bR _ e,Pz a _,⟨_,cW _ W,W,W⟩,λb u=>?_,q⟩;have e:b=c.heap.objs.size:=by simpa using u
 subst e;exact d.qX (ba _) (d.aR.fresh (ba _))
theorem ES{s:aq}{lo a:Int}(I:Inv X zK σ H s)(d: -(2^62)<=lo)(f:lo<2^62)(g: -(2^62)<=a)(h:a<2^62)(q:R (qY lo (a-lo).toNat) H):wpAny 'b' X.A (oC (.ref s.heap.objs.size)) (wb X zK σ tg R) E {s with heap:=s.heap.push {cls:=.type "range",data:=.fields #[.int lo t,.int a u,.int 1 v]},toks:=tk}:=by
 refine wpAny_pyIter_range (IsRange.new ..) (small_one d f g h) ?_;have c:Inv X zK σ H {s with heap:=s.heap.push {cls:=.type "range",data:=.fields #[.int lo t,.int a u,.int 1 v]},toks:=tk}:=I.kept λb o e=>bR _ e;refine⟨(s.heap.push {cls:=.type "range",data:=.fields #[.int lo t,.int a u,.int 1 v]}).objs.size,[(s.heap.push {cls:=.type "range",data:=.fields #[.int lo t,.int a u,.int 1 v]}).objs.size],_,_,H,W,c.kept (t':=tk) λb o e=>bR _ e,PB _ lo (a-lo).toNat,?_,λb i=>?_,q⟩
 ·have j:lo+((0:Nat):Int)*1=lo:=by simp
  have m:(((a-lo).toNat:Nat):Int)-((0:Nat):Int)=Zv6 lo a 1:=by rw[rangeSize_one];split<;>lia
  show IsRangeIter _ _ (lo+((0:Nat):Int)*1) ((((a-lo).toNat:Nat):Int)-((0:Nat):Int)) 1;rw[j,m];exact cW _ W
 ·have e:b=(s.heap.push {cls:=.type "range",data:=.fields #[.int lo t,.int a u,.int 1 v]}).objs.size:=by simpa using i
  subst e;exact c.qX (ba _) (c.aR.fresh (ba _))
def PH(a:TA):TI:=λσ H R=>a σ H λvs b=>∃j:Int,vs=[.int j]/\ -(2^62)<=j/\j<2^62/\R (qY 0 j.toNat) b
def PK(a:TA):TI:=λσ H R=>a σ H λvs b=>∃i j:Int,vs=[.int i,.int j]/\(-(2^62)<=i/\i<2^62/\ -(2^62)<=j/\j<2^62)/\R (qY i (j-i).toNat) b
theorem PQ(c:Gl X "range")(d:X.mg "range"=am)(f:PA X [a] g)(i:a4 [a] X.env=[(bi,eval a X.env)]:=by rfl):PI X tg (.Call (.Name "range" p) [a] [] pos) (PH g):=by intro zK s σ H R I h;refine Call_ (lz I c d boot_range (sL (aT (f pos zK s σ H _ I h) λy z m=>?_) i W));obtain⟨vs,A,u,v,b⟩:=m;obtain⟨j,e,b,w,q⟩:=b;subst e;cases v with|cons r x=>cases x;obtain⟨t,rfl⟩:=r;exact call_range_1 (ES u 'k' 'k' b w (by simpa using q))
theorem PR(g:Gl X "range")(m:X.mg "range"=am)(u:PA X [a,b] v)(w:a4 [a,b] X.env=[(bi,eval a X.env),(bi,eval b X.env)]:=by rfl)(c:a4 [b] X.env=[(bi,eval b X.env)]:=by rfl):PI X tg (.Call (.Name "range" p) [a,b] [] pos) (PK v):=by intro zK s σ H R I h;refine Call_ (lz I g m boot_range (sL (aT (u pos zK s σ H _ I h) λG J x=>?_) (by rw[w,c]) (by rw[c];rfl)));obtain⟨vs,L,y,z,d⟩:=x;obtain⟨i,j,e,⟨d,A,B,C⟩,q⟩:=d;subst e;cases z with|cons r f=>cases f with|cons E f=>cases f;obtain⟨t,rfl⟩:=r;obtain⟨t',rfl⟩:=E;exact call_range_2 (ES y d A B C q)
noncomputable def PU(d:TI)(g:TG)(e:TS):TS:=λD σ H=>d σ H λJ f=>∃ad:Nat->Nat->St->Hp->Prop,(∃m,ad 0 m σ f)/\∀i m σ H,ad i m σ H-> (J.stop i H/\D.nx σ H)\/(J.go i H/\∃N:St->Hp->Prop,(∀a H',N a H'->∃c,c<m/\ad (i+1) c a H')/\∀x H',J.qW i H x H'->g x σ H' λb H2=>e {D with nx:=N,ct:=N,bk:=D.nx} b H2)
noncomputable def i_(a:List Addr)(h:Heap):List (Addr×Obj):=a.filterMap λb=>(h.get? b).map λo=>(b,o)
theorem qZ{h:Heap}(a:b∈c)(e:h.get? b=Z o):(b,o)∈i_ c h:=qk.mpr ⟨b,a,by rw[e];rfl⟩
theorem EU{h:Heap}(a:p∈i_ c h):p.1∈c/\h.get? p.1=Z p.2:=by obtain⟨b,d,e⟩:=qk.mp a;cases q:h.get? b with|none=>simp_all|some o=>grind
theorem Inv.pinned{s:aq}(I:Inv X zK σ H s)(hf:∀b∈a,nE X zK H b)(f:∀b∈a,∃o,s.heap.get? b=Z o/\∀v,o.data≠ .cell v):Inv X (zK++i_ a s.heap) σ H s:=I.v3 λp c=>(bQ.mp c).elim (λz=>I.pin p (dV _ z)) λz=>by obtain⟨d,e⟩:=EU z;refine jw (hf p.1 d) λg h i _=>?_;grind
theorem Inv.wd(I:Inv X (zK++b) σ H s):Inv X zK σ H s:=I.v3 λp a=>I.pin p (dV _ (d_ _ a))
theorem EV(C:PassesOwn 'b' X.A X.env X.xe)(hc:X.calm=be)(hi:PI X tg iter wi)(hg:PG X tg g)(c:fU X body tb)(hs:∀x,vj iter X.env x=pure x:=by intro _;rfl):PS X (.For tg iter body [] pos) (PU wi g tb):=by
 intro zK s σ H D I h;refine wpAny_For (aT (hi zK s σ H _ I h) λv s1 h1=>aT h1 λPV s2 h2=>?_) hs;obtain⟨it,E,tn,J,H2,e,I2,T,U,f2,ad,⟨m0,w0⟩,G⟩:=h2;subst e;have j:∀{H':Hp},(∀b∈E,H' b=am)->∀b∈E,nE X zK H' b:=λhn b c=>⟨hn b c,(f2 b c).2⟩;refine codeAny_forLoop_any (λn s'=>∃i p H',Inv X zK p H' s'/\tn i s'.heap/\(∀b∈E,H' b=am)/\ad i n p H') ?_ m0 ⟨0,σ,H2,I2,U,λb c=>(f2 b c).1,w0⟩;rintro n s3 ⟨i,q,Q,I3,L,M,w3⟩;rcases G i n q Q w3 with⟨stop,qn⟩|⟨go,N,hN,step⟩;·refine sJ C (aT (T.done X W W W hc i zK s3 q Q X.xe I3 (j M) L stop) λr s4 ⟨Y,I4⟩=>?_);subst Y;exact yV ⟨q,Q,I4,qn⟩
 ·refine sJ C (aT (T.item X W W W hc i zK s3 q Q X.xe I3 (j M) L go) λr s4 ⟨u,Y,h4⟩=>?_);subst Y;refine sJ C (aT h4 λ_ s5 zZ=>?_);obtain⟨x,H5,I5,r5,y5,B,zF⟩:=zZ;have zG:=I5.pinned (j zF) (T.obj _ _ B);refine sJ C (aT (hg _ s5 q H5 x u _ zG r5 (step x H5 y5)) λ_ s6 zZ=>?_);obtain⟨PX,H6,I6,q6⟩:=zZ;refine sJ C (aT (c _ s6 PX H6 _ I6 q6) λf s7 z=>?_);have again:∀{a:St}{t:Hp},Inv X (zK++i_ E s5.heap) a t s7->N a t->∃m,m<n/\∃i p H',Inv X zK p H' s7/\tn i s7.heap/\(∀b∈E,H' b=am)/\ad i m p H':=λ{a t} y O=>by obtain⟨m',hm,w7⟩:=hN a t O;refine⟨m',hm,i+1,a,t,y.wd,T.keep _ _ _ B λb c o e=>(y.pin (b,o) (dV _ (dV _ (qZ c e)))).1,λb c=>?_,w7⟩;obtain⟨o,e,d⟩:=T.obj _ _ B b c;exact(y.pin (b,o) (dV _ (dV _ (qZ c e)))).2.1
  cases f with|next=>refine b8 z λa t y O=>?_;clear z;exact again y O|cont=>refine b8 z λa t y O=>?_;clear z;exact again y O|brk=>refine b8 z λa t y z=>?_;exact⟨a,t,y.wd,z⟩|ret v=>refine dj z λx7 a t y r7 z=>?_;exact⟨x7,a,t,y.wd,r7,z⟩
end
noncomputable abbrev R2:=V->V->Hp->VK->Prop
def dc(X:Cx)(f:Value->Value->Sem Value)(r:R2):Prop:=∀(zK:List (Addr×Obj))(s:aq)(σ:St)(H:Hp)(x y:V)(v u:Value)(Q:VK),Inv X zK σ H s->RelV x v->RelV y u->r x y H Q-> wpAny 'b' X.A (f v u) (EP X zK σ Q) X.xe s
def zH(X:Cx)(f:Value->Sem Value)(r:V->Hp->VK->Prop):Prop:=∀(zK:List (Addr×Obj))(s:aq)(σ:St)(H:Hp)(x:V)(v:Value)(Q:VK),Inv X zK σ H s->RelV x v->r x H Q-> wpAny 'b' X.A (f v) (EP X zK σ Q) X.xe s
def kF(X:Cx)(f:Value)(r:List V->Hp->VK->Prop):Prop:=∀(zK:List (Addr×Obj))(s:aq)(σ:St)(H:Hp)(xs:List V)(a:List Value)(Q:VK),Inv X zK σ H s->Vals xs a->r xs H Q-> wpAny 'b' X.A (call f a) (EP X zK σ Q) X.xe s
def PY(X:Cx)(r:V->Hp->(Bool->Hp->Prop)->Prop):Prop:=∀(zK:List (Addr×Obj))(s:aq)(σ:St)(H:Hp)(x:V)(v:Value)(Q:Bool->Hp->Prop),Inv X zK σ H s->RelV x v->r x H Q-> wpAny 'b' X.A (truthy v) (TP X zK σ Q) X.xe s
noncomputable def tE(r:R2)(a b:TE):TE:=λσ H Q=>a σ H λx c=>b σ c λy H2=>r x y H2 Q
noncomputable def PZ(r:V->Hp->VK->Prop)(a:TE):TE:=λσ H Q=>a σ H λx b=>r x b Q
noncomputable def rI(C:Int->Int->Prop)(g:Int->Int->V):R2:=λx y H Q=>∃i j,x=.int i/\y=.int j/\C i j/\Q (g i j) H
noncomputable def oW(g:Int->Int->V):R2:=λx y H Q=>∃i j,x=.int i/\y=.int j/\Q (g i j) H
noncomputable def rU(g:Int->V):V->Hp->VK->Prop:=λx H Q=>∃i,x=.int i/\Q (g i) H
section
variable {X:Cx}{a b:Expr}{ta tb:TE}{pos:Pos}
theorem zI(m:PE X a ta)(p:PE X b tb){zK:List (Addr×Obj)}{s:aq}{σ:St}{H:Hp}{R:V->V->Hp->Prop}(I:Inv X zK σ H s) (h:ta σ H λx i=>tb σ i λy H2=>R x y H2) {Q:Value->aq->Prop} {f:Value->Value->Sem Value} (hf:∀v u g x y H2,Inv X zK σ H2 g->RelV x v->RelV y u->R x y H2->wpAny 'b' X.A (f v u) Q X.xe g):wpAny 'b' X.A (eval a X.env) (λv d=>wpAny 'b' X.A (eval b X.env) (λu e=>wpAny 'b' X.A (f v u) Q X.xe e) X.xe d) X.xe s:=by refine aT (m zK s σ H _ I h) λv q j=>?_;obtain⟨x,i,r,t,z⟩:=j;refine aT (p zK q σ i _ r z) λu g j=>?_;obtain⟨y,H2,B,C,E⟩:=j;exact hf v u g x y H2 B t C E
theorem EW(e:dc X (gd d) r)(f:PE X a ta)(g:PE X b tb):PE X (.BinOp a d b pos) (tE r ta tb):=by intro zK s σ H Q I h;exact wpAny_BinOp (zI f g I h λv u i x y H2 j m p q=>e zK i σ H2 x y v u Q j m p q)
theorem P0(d:zH X (unaryOp e) r)(f:PE X a ta):PE X (.UnaryOp e a pos) (PZ r ta):=by intro zK s σ H Q I h;exact UnaryOp_ (aT (f zK s σ H _ I h)<|by rintro v g ⟨x,i,j,m,p⟩;exact d zK g σ i x v Q j m p)
theorem we{f:Value->Value->Sem Value}{C:Int->Int->Prop}{g:Int->Int->Int} (rule:∀(i j:Int)(t u:Tok)(s:aq)(Q:Value->aq->Prop)(E:Value->aq->Prop),C i j->Q (.int (g i j) s.toks) {s with toks:=s.toks+1}->wpAny 'b' X.A (f (.int i t) (.int j u)) Q E s):dc X f (rI C λi j=>.int (g i j)):=by intro zK s σ H x y v u Q I m p h;refine cE h λi j d e r q=>?_;clear h;subst d;subst e;obtain⟨t,rfl⟩:=m;obtain⟨t',rfl⟩:=p;exact rule i j t t' s _ _ r ⟨.int (g i j),H,I.tok _,⟨_,W⟩,q⟩
theorem EY{f:Value->Value->Sem Value}{g:Int->Int->Int} (rule:∀(i j:Int)(t u:Tok)(s:aq)(Q:Value->aq->Prop)(E:Value->aq->Prop),Q (.int (g i j) s.toks) {s with toks:=s.toks+1}->wpAny 'b' X.A (f (.int i t) (.int j u)) Q E s):dc X f (oW λi j=>.int (g i j)):=by intro zK s σ H x y v u Q I m p h;refine cM h λi j d e q=>?_;clear h;subst d;subst e;obtain⟨t,rfl⟩:=m;obtain⟨t',rfl⟩:=p;exact rule i j t t' s _ _ ⟨.int (g i j),H,I.tok _,⟨_,W⟩,q⟩
theorem EZ{f:Value->Value->Sem Value}{g:Int->Int->Bool} (rule:∀(i j:Int)(t u:Tok)(s:aq)(Q:Value->aq->Prop)(E:Value->aq->Prop),Q (.bool (g i j)) s->wpAny 'b' X.A (f (.int i t) (.int j u)) Q E s):dc X f (oW λi j=>.bl (g i j)):=by intro zK s σ H x y v u Q I m p h;refine cM h λi j d e q=>?_;clear h;subst d;subst e;obtain⟨t,rfl⟩:=m;obtain⟨t',rfl⟩:=p;exact rule i j t t' s _ _ ⟨.bl (g i j),H,I,W,q⟩
def q0(i j:Int):Prop:=0<j/\j<1073741824
def E1(i j:Int):Prop:=0<=j/\j<=1000000/\i.natAbs<2^64
def lC(i j:Int):Prop:=(-(2^64)<i/\i<2^64)\/(-(2^64)<j/\j<2^64)
theorem lC.ok(h:lC i j):sM i j:=by
 rcases h with⟨d,e⟩|⟨d,e⟩;·exact .of_left (intBits_le_64 d e)
 ·exact .of_right (intBits_le_64 d e)
theorem P1:dc X (gd .Add) (oW λi j=>.int (i+j)):=EY λ_ _ _ _ _ _ _ q=>add_int q
theorem P2:dc X (gd .Sub) (oW λi j=>.int (i-j)):=EY λ_ _ _ _ _ _ _ q=>sub_int q
theorem P4:dc X (gd .Mult) (rI lC λi j=>.int (i*j)):=we λ_ _ _ _ _ _ _ d q=>mul_int q d.ok
theorem P5:dc X (gd .FloorDiv) (rI q0 λi j=>.int (i / j)):=we λi j _ _ _ _ _ d q=>by have e:(0:Int)<j:=d.1;have f:j<1073741824:=d.2;exact floordiv_int 'd' (by rw[Int.fdiv_eq_ediv_of_nonneg i 'd'];exact q) (.inl (PyProof.noPylong_small (by omega)))
theorem P6:dc X (gd .Mod) (rI (λ_ j=>0<j) λi j=>.int (i%j)):=we (by grind[mod_int',Int.fmod_eq_emod_of_nonneg])
theorem P7{f:Value->Sem Value}{g:Int->Int} (rule:∀(i:Int)(t:Tok)(s:aq)(Q:Value->aq->Prop)(E:Value->aq->Prop),Q (.int (g i) s.toks) {s with toks:=s.toks+1}->wpAny 'b' X.A (f (.int i t)) Q E s):zH X f (rU λi=>.int (g i)):=by intro zK s σ H x v Q I d h;obtain⟨i,rfl,q⟩:=h;obtain⟨t,rfl⟩:=d;exact rule i t s _ _ ⟨.int (g i),H,I.tok _,⟨_,W⟩,q⟩
theorem P8:zH X (unaryOp .USub) (rU λi=>.int (-i)):=P7 λ_ _ _ _ _ q=>neg_int q
end
section
variable {X:Cx}{a b:Expr}{ta tb:TE}{pos:Pos}
theorem E2{k:Bool}(I:Inv X zK σ H s)(q:Q (.bl k) H)(e:k=k'):EP X zK σ Q (.bool k') s:=by subst e;exact⟨.bl k,H,I,W,q⟩
theorem P9:dc X (dE .Lt) (oW λi j=>.bl (decide (i<j))):=EZ λ_ _ _ _ _ _ _ q=>lt_int q
theorem P_:dc X (dE .Gt) (oW λi j=>.bl (decide (j<i))):=EZ λ_ _ _ _ _ _ _ q=>gt_int q
theorem Qa:dc X (dE .Is) (λx y H Q=>y=.aC/\Q (.bl (decide (x=.aC))) H):=by intro zK s σ H x y v u Q I d e h;obtain⟨rfl,q⟩:=h;cases e;refine is_none_gen (E2 I q ?_);cases x<;>first|(cases d;rfl)|(obtain⟨t,rfl⟩:=d;rfl)
theorem Qb:dc X (dE .IsNot) (λx y H Q=>y=.aC/\Q (.bl (!decide (x=.aC))) H):=by intro zK s σ H x y v u Q I d e h;obtain⟨rfl,q⟩:=h;cases e;refine isnot_none_gen (E2 I q ?_);cases x<;>first|(cases d;rfl)|(obtain⟨t,rfl⟩:=d;rfl)
theorem Qc(e:dc X (dE d) r)(f:PE X a ta)(g:PE X b tb)(i:Nw d b=bi):PE X (.Compare a [d] [b] pos) (tE r ta tb):=by intro zK s σ H Q I h;exact wpAny_Compare1 (zI f g I h λv u j x y H2 m p t q=>e zK j σ H2 x y v u Q m p t q) i
noncomputable def Qd(t:TE):TT:=λσ H Q=>t σ H λx H'=>∃k,x=.bl k/\Q k H'
theorem Qe(f:dc X (dE d) r)(g:PE X a ta)(i:PE X b tb)(j:Nw d b=bi):PT X (.Compare a [d] [b] pos) (Qd (tE r ta tb)):=by intro zK s σ H Q I h;refine wpAny_isTrue_Compare1 (aT (g zK s σ H _ I h) λv m ⟨x,p,q,t,w⟩=>aT (i zK m σ p _ q w) λu A ⟨y,H2,B,C,E⟩=> aT (f zK A σ H2 x y v u _ B t C E) λc N ⟨z,G,J,L,k,e,M⟩=>?_) j;subst e;cases L;exact wpAny_truthy_bool ⟨G,J,M⟩
def zJ(K:av)(x:V)(H:Hp)(k:Bool):Prop:=match x with|.aC=>k=bi|.bl b=>k=b|.int i=>k=(i != 0)|.str y=>y.length<=aD/\k=((y.length:Int) != 0)|.tp y=>y.size<=aD/\k=((y.size:Int) != 0)|.ref p=>(∃xs,b9 K H p xs/\k=!xs.isEmpty)\/(∃xs,cF K H p xs/\k=!xs.isEmpty)\/∃kvs,H p=Z (.dK kvs)/\k=!kvs.isEmpty|_=>False
theorem Qf{κ:Type}{kvs:List (κ×V)}{vs:List (κ×Value)}(r:KV kvs vs):(!vs.isEmpty)=!kvs.isEmpty:=by cases r<;>rfl
theorem E3{xs:List V}{d:List Value}(r:Vals xs d):(!d.toArray.isEmpty)=!xs.isEmpty:=by cases r<;>exact W
theorem oX:(aD:Nat)<2^63:=by rw[sN];simp
theorem E4:PY X (λx H Q=>∃k,zJ X.K x H k/\Q k H):=by intro zK s σ H x v Q I f h;obtain⟨k,e,q⟩:=h;have B:=oX;have C:aD=16777216:=sN;cases x with|aC=>cases f;have d:k=bi:=e;subst d;exact truthy_none ⟨H,I,q⟩|bl b=>cases f;have d:k=b:=e;subst d;exact wpAny_truthy_bool ⟨H,I,q⟩|int i=>obtain⟨t,rfl⟩:=f;have d:k=(i != 0):=e;subst d;exact PySem.P.truthy_int ⟨H,I,q⟩|str y=>obtain⟨t,rfl⟩:=f;obtain⟨z,d⟩:y.length<=aD/\k=((y.length:Int) != 0):=e;subst d;exact PySem.P.truthy_str 'd' ⟨H,I.tok _,q⟩|tp y=>obtain⟨t,rfl⟩:=f;obtain⟨z,d⟩:y.size<=aD/\k=((y.size:Int) != 0):=e;subst d;exact PySem.W.truthy_bytes (fo z) ⟨H,I.tok _,q⟩|ref p=>
  cases f;have d:(∃xs,b9 X.K H p xs/\k=!xs.isEmpty)\/(∃xs,cF X.K H p xs/\k=!xs.isEmpty)\/∃kvs,H p=Z (.dK kvs)/\k=!kvs.isEmpty:=e;rcases d with⟨xs,g,d⟩|⟨xs,g,d⟩|⟨kvs,g,d⟩;·subst d;refine aM (I.list g) λj r u hz=>?_;have hlen:=r.length;exact wpAny_truthy_list u.isList (by simp only[di];lia) ⟨H,I.tok _,by rw[E3 r];exact q⟩
  ·subst d;refine aM (I.tuple g) λj r u hz=>?_;have hlen:=r.length;exact truthy_tuple u (by simp only[di];omega) ⟨H,I.tok _,by rw[E3 r];exact q⟩
  ·subst d;obtain⟨hz,A,vs,r,m⟩:kvs.length<=aD/\(p==ku)=bi/\∃vs,KV kvs vs/\s.heap.DictOf (gP X.prog X.w) p vs:=I.aR p _ g;have hlen:kvs.length=vs.length:=C7 r;exact wpAny_truthy_dict A m 'd' ⟨H,I.tok _,by rw[Qf r];exact q⟩|_=>exact(show False from e).elim
theorem Qg(e:PE X a ta)(f:∀d,isTrue a X.env d=(do let v<-d;standAt a.pos;holding [v] (truthy v))):PT X a (λσ H Q=>ta σ H λx H'=>∃k,zJ X.K x H' k/\Q k H'):=by intro zK s σ H Q I h;exact isTrue_plain (aT (e zK s σ H _ I h)<|by rintro v g ⟨x,i,j,m,p⟩;exact E4 zK g σ i x v Q j m p) (f _)
theorem Qh:dc X (gd .Add) (λx y H Q=>∃i j,x=.str i/\y=.str j/\i.length+j.length<=aD/\Q (.str (i++j)) H):=by intro zK s σ H x y v u Q I f g h;refine cE h λi j d e hz q=>?_;clear h;subst d;subst e;obtain⟨t,rfl⟩:=f;obtain⟨t',rfl⟩:=g;exact add_str (λt' tk=>⟨.str (i++j),H,I.tok _,⟨_,W⟩,q⟩) hz
theorem kG(r:Vals [x] d):∃u,d=[u]/\RelV x u:=by cases r with|cons e f=>cases f;exact⟨_,W,e⟩
theorem E5(r:Vals [x,y] e):∃u d,e=[u,d]/\RelV x u/\RelV y d:=by cases r with|cons f g=>cases g with|cons h i=>cases i;exact⟨_,_,W,f,h⟩
theorem E6:kF X (.type "int") (λxs H Q=>(∃i,xs=[.int i]/\Q (.int i) H)\/∃k,xs=[.bl k]/\Q (.int (if k then 1 else 0)) H):=by
 intro zK s σ H xs j Q I r h;rcases h with⟨i,rfl,q⟩|⟨k,rfl,q⟩;·refine a9 (kG r) λu e d=>gH d λt f=>?_;clear d;subst e;subst f;exact call_int_int ⟨.int i,H,I,⟨_,W⟩,q⟩
 ·obtain⟨u,rfl,g⟩:=kG r;cases g;exact call_int_bool ⟨.int (if k then 1 else 0),H,I.tok _,⟨_,W⟩,q⟩
end
theorem ik.some_of(r:ik (Z v) o):∃u,o=Z u/\RelV v u:=by cases o with|none=>exact(show False from r).elim|some u=>exact⟨u,W,r⟩
theorem ik.none_of(r:ik am o):o=am:=by cases o with|none=>rfl|some u=>exact(show False from r).elim
structure wg(K:av)(C:Addr)(f:Str)(v:V)(u:Value):Prop where
 at_:De K (.ref C) f=Z (Z u)
 rel:RelV v u
 get:ZtK K u "__get__"=Z am
 cp:PySem.W.copiedNames.contains f=bi
structure bI(k:Nat)(A:a_):Prop where
 hd:A.handled=am
 dp:A.depth+3*k+5<recursionLimit
 un:A.units+16*k+200<cLine
theorem bI.deeper{k:Nat}{A:a_}(r:bI (k+1) A)(a:Env):bI k (A.deeper a):=⟨r.hd,by have:=r.dp;show A.depth+1+3*k+5<_;lia,by have:=r.un;show A.units+3+16*k+200<_;lia⟩
theorem bI.depth{k:Nat}{A:a_}(r:bI k A):A.depth<recursionLimit:=by have:=r.dp;lia
theorem bI.units{k:Nat}{A:a_}(r:bI k A):A.units+64<cLine:=by have:=r.un;lia
noncomputable def Qi:TA:=λ_ H Q=>Q [] H
noncomputable def Qj(a:TE)(b:TA):TA:=λσ H Q=>a σ H λx c=>b σ c λxs H2=>Q (x::xs) H2
section
variable {X:Cx}{e:Expr}{es:List Expr}{te:TE}{t:TA}{pos:Pos}
theorem gj:PA X [] Qi:=λ_ _ _ _ H Q I h=>Df ⟨[],H,I,.nil,h⟩
theorem ek(a:PE X e te)(b:PA X es t)(c:a4 (e::es) X.env=(bi,eval e X.env)::a4 es X.env:=by rfl):PA X (e::es) (Qj te t):=by intro pos zK s σ H Q I h;rw[c];show wpAny _ _ (yU ((bi,eval e X.env)::ef pos (a4 es X.env))) _ _ s;refine Dg (aT (a zK s σ H _ I h) λu d f=>?_);obtain⟨x,g,i,j,m⟩:=f;exact aT (b pos zK d σ g _ i m)<|by rintro v w ⟨xs,H2,p,q,r⟩;exact⟨x::xs,H2,p,.cons j q,r⟩
def Qk(t:TA):TE:=λσ H Q=>t σ H λxs a=>xs.length<=aD/\∀p,a p=am->Q (.ref p) (upd a p (.tup xs))
def Ql(t:TA):TE:=λσ H Q=>t σ H λxs a=>xs.length<=aD/\∀p,a p=am->Q (.ref p) (upd a p (.lst xs))
theorem E7(h:PA X es t):PE X (.Tuple es x1 pos) (Qk t):=by intro zK s σ H Q I f;refine wpAny_Tuple_spliced (aT (h pos zK s σ H _ I f) λg a ⟨xs,c,d,r,z,q⟩=>⟨by rw[<-r.length];exact z,?_⟩);have hf:c a.heap.objs.size=am:=d.aR.fresh (ba _);refine⟨.ref a.heap.objs.size,upd c a.heap.objs.size (.tup xs),d.laid (t':=a.toks) (λb u e=>bR _ e) (ba _) ?_,W,q _ hf⟩;exact⟨z,g,r,⟨_,cW _ W,W,_,W⟩⟩
theorem wh(h:PA X es t):PE X (.List es pos) (Ql t):=by intro zK s σ H Q I f;refine wpAny_List_spliced (aT (h pos zK s σ H _ I f) λg a ⟨xs,c,d,r,z,q⟩=>⟨by rw[<-r.length];exact z,?_⟩);have hf:c a.heap.objs.size=am:=d.aR.fresh (ba _);refine⟨.ref a.heap.objs.size,upd c a.heap.objs.size (.lst xs),d.laid (t':=a.toks) (λb u e=>bR _ e) (ba _) ?_,W,q _ hf⟩;exact⟨z,g,0,r,cW _ W⟩
end
noncomputable abbrev Sp:=List V->Hp->VK->XK->Prop
noncomputable abbrev iJ:=List Env->Hp->aq->XK->Value->aq->Prop
structure wj(P:a6)(w:World)(K:av)(mg:Str->Option Value)(base:Heap)(A:a_)(outer:List Env)(s:aq)(H:Hp):Prop where
 frames:A.frames=Z outer
 mod:Mod K mg base
 bs:∀b o,base.get? b=Z o->s.heap.get? b=Z o/\H b=am
 ly:base.objs.size<=s.heap.objs.size
 iI:s.heap.FunFrames base outer
 mh:∀b∈cN outer,H b=am
 aR:c5 P w H s.heap
 bare:mZ s.gens
def CE(a:List Env)(P:a6)(w:World)(H:Hp)(s:aq)(Q:VK)(u:Value)(b:aq):Prop:=∃v H',b.os=s.os/\mZ b.gens/\Un (cN a) [] H H' s.heap b.heap/\c5 P w H' b.heap/\RelV v u/\Q v H'
def CR(CX:iJ)(a:List Env)(P:a6)(w:World)(H:Hp)(s:aq)(Q:VK)(E:XK)(r:Result)(b:aq):Prop:=match r with|.ok (.ret u)=>CE a P w H s Q u b|.ok _=>False|.error e=>CX a H s E e b
structure dm(P:a6)(w:World)(K:av)(mg:Str->Option Value)(base:Heap)(CX:iJ)(k:Nat)(f:Addr)(fd:dF)(ps:List Str)(sp:Sp):Prop where
 len:∀vs H Q E,sp vs H Q E->vs.length=ps.length
 run:∀(A:a_)(outer:List Env)(s:aq)(H:Hp)(args:Args)(us:List Value)(vs:List V)(Q:VK)(E:XK),bI k A->wj P w K mg base A outer s H->yW s fd args (ps.zip us)->Vals vs us->sp vs H Q E-> oD (model P w) A (.call (.ref f) args) (CR CX outer P w H s Q E) s
theorem dm.imp{P:a6}{w:World}{K:av}{c:Str->Option Value}{base:Heap}{CX:iJ}{k:Nat}{f:Addr}{d:dF}{ps:List Str}{sp b:Sp}(F:dm P w K c base CX k f d ps sp) (h:∀vs H Q E,b vs H Q E->sp vs H Q E):dm P w K c base CX k f d ps b:=⟨λvs H Q E q=>F.len vs H Q E (h _ _ _ _ q),λA a s H args e vs Q E g i j m p=>F.run A a s H args e vs Q E g i j m (h _ _ _ _ p)⟩
section
variable {X:Cx}{zK:List (Addr × Obj)}{σ:St}{H:Hp}{s s':aq}
theorem Inv.E8(I:Inv X zK σ H s):wj X.prog X.w X.K X.mg X.base X.A X.stack s H:=⟨I.ok.frames,I.ok.mod,I.bs,cv I.ok.ly I.sz,I.stack,I.vY,I.aR,I.bare⟩
theorem Inv.after(I:Inv X zK σ H s)(h:CE X.stack X.prog X.w H s Q u s'):EP X zK σ Q u s':=by refine fS h λv H' os a un e c=>bc c λr q=>?_;clear h c;obtain⟨i,g,d,t,f⟩:=s';obtain rfl:f=s.os:=os;exact⟨v,H',I.call (h':=i) (g':=g) (d':=d) (t':=t) (ch:=[]) un e a (λb z=>absurd z (by exact nofun)),r,q⟩
end
noncomputable def Qm(sp:Sp)(a:List V)(E:XK)(t:TA):TE:=λσ H Q=>t σ H λvs b=>sp (vs++a) b Q E
def jC(K:av)(b:dF)(ps:List Str)(ds:List Value):Prop:=∀(s:aq)(a:List Value),K.In s.heap->(a++ds).length=ps.length->yW s b ⟨a,[]⟩ (ps.zip (a++ds))
theorem jC.all{K:av}{b:dF}{ps:List Str}(h:∀a:List Value,a.length=ps.length->bindArgs b ⟨a,[]⟩=pure (ps.zip a)):jC K b ps []:=λs a _ c=>by rw[eZ]at c⊢;exact .of_eq (h a c)
def zL(CX:iJ)(X:Cx)(E:XK):Prop:=∀(zK:List (Addr×Obj))(σ:St)(H:Hp)(s:aq)(e:Value)(a:aq),Inv X zK σ H s->CX X.stack H s E e a->X.xe e a
section
variable {X:Cx}{CX:iJ}{k:Nat}{f:Addr}{fd:dF}{ps:List Str}{sp:Sp}{q7:List V}{ds:List Value}{E:XK}{x:Str}{p pos:Pos}{e:Expr}{es:List Expr}{t:TA}
theorem E9(F:dm X.prog X.w X.K X.mg X.base CX k f fd ps sp)(d:bI k X.A)(g:jC X.K fd ps ds)(i:Vals q7 ds)(j:zL CX X E)(I:Inv X zK σ H s)(r:Vals vs a)(h:sp (vs++q7) H Q E):wpAny 'b' X.A (call (.ref f) a) (EP X zK σ Q) X.xe s:=by
 have c:Vals (vs++q7) (a++ds):=r.append i;have q:(a++ds).length=ps.length:=by rw[<-c.length];exact F.len _ _ _ _ h
 refine yX (oE (F.run X.A X.stack s H ⟨a,[]⟩ (a++ds) (vs++q7) Q E d I.E8 (g s a I.gh q) c h) λr v b=>?_);cases r with|error e=>exact j zK σ H s e v I b|ok fl=>cases fl with|ret u=>exact I.after b|next=>exact dD b|brk=>exact dD b|cont=>exact dD b
theorem Qn(F:dm X.prog X.w X.K X.mg X.base CX k f fd ps sp)(d:bI k X.A)(g:Gl X x)(i:X.mg x=Z (.ref f))(j:m3 X.K (.ref f)=be)(u:jC X.K fd ps ds)(v:Vals q7 ds)(y:zL CX X E) (z:PA X (e::es) t) (a:'f'=bi:=by decide) (B:a4 (e::es) X.env=(bi,eval e X.env)::a4 es X.env:=by rfl) (b:(ef pos (a4 es X.env)).any (·.1)=bi:=by rfl):PE X (.Call (.Name x p) (e::es) [] pos) (Qm sp q7 E t):=by intro zK s σ H Q I h;refine wpAny_Call_Name_kw (qS I g i ?_ a);refine Nx (h₀:=X.base) I.ok.mod.qQ j (aT (z pos zK s σ H _ I h) λG J ⟨vs,L,c,r,q⟩=>⟨c.gh,?_⟩) B b;exact E9 F d u v y c r q
end
structure nG(N P:List Str)(sc:Scope):Prop where
 kind:sc.kind=.function
 co:sc.isCoroutine=bi
 gen:sc.isGenerator=bi
 nd:N.Nodup
 pre:N.take P.length=P
 par:∀x∈P,sc.names.lookup x=Z .local\/sc.names.lookup x=Z .cell
 Qo:∀y∈sc.names,y.2≠ .free
theorem E_{kindOf:Str->Option vm}:∀{binds:List (Str×Value)}{m:Str->Option Value},(∀v,(x,v)∉binds)->bindL kindOf binds m x=m x
  |[],_,_=>rfl|(n,v)::r,m,h=>by
    unfold bindL;rw[E_ λw hw=>h w (cx _ hw)];split;·grind
    ·rfl
theorem Fb{kindOf:Str->Option vm}:∀{binds:List (Str×Value)}{m:Str->Option Value},(∀v,(x,v)∉binds)->bindC kindOf binds m x=m x
  |[],_,_=>rfl|(n,v)::r,m,h=>by
    unfold bindC;rw[Fb λw hw=>h w (cx _ hw)];split;·rfl
    grind
theorem Fc{kindOf:Str->Option vm}:∀{P:List Str}{vs:List Value}{i:Nat}{m:Str->Option Value},P.Nodup->P[i]?=Z x->vs[i]?=Z v->kindOf x=Z .local-> bindL kindOf (P.zip vs) m x=Z v|[],_,_,_,_,h,_,_=>by simp at h|_::_,[],_,_,_,_,h,_=>by simp at h|p::P,w::vs,0,m,nd,a,b,c=>by simp at a b;subst a;subst b;show bindL kindOf ((p,w)::P.zip vs) m p=_;unfold bindL;rw[E_ λv d=>(gf.mp nd).1 (vo d).1,if_pos c];simp|p::P,w::vs,i+1,m,nd,a,b,c=>by show bindL kindOf ((p,w)::P.zip vs) m x=_;unfold bindL;exact Fc (i:=i) (gf.mp nd).2 (by simpa using a) (by simpa using b) c
theorem Fd{kindOf:Str->Option vm}:∀{P:List Str}{vs:List Value}{i:Nat}{m:Str->Option Value},P.Nodup->P[i]?=Z x->vs[i]?=Z v->kindOf x≠Z .local-> bindC kindOf (P.zip vs) m x=Z v|[],_,_,_,_,h,_,_=>by simp at h|_::_,[],_,_,_,_,h,_=>by simp at h|p::P,w::vs,0,m,nd,a,b,c=>by simp at a b;subst a;subst b;show bindC kindOf ((p,w)::P.zip vs) m p=_;unfold bindC;rw[Fb λv d=>(gf.mp nd).1 (vo d).1,if_neg c];simp|p::P,w::vs,i+1,m,nd,a,b,c=>by show bindC kindOf ((p,w)::P.zip vs) m x=_;unfold bindC;exact Fd (i:=i) (gf.mp nd).2 (by simpa using a) (by simpa using b) c
noncomputable def start(N:List Str)(vs:List V):St:=vs.map Z++yZ (N.length-vs.length) am
noncomputable def dA(CX:iJ)(P:a6)(w:World)(K:av)(mg:Str->Option Value)(base:Heap)(N:List Str)(b:Str)(a:Scope)(f:Addr)(d:Value)(A:a_)(outer:List Env)(s:aq)(H:Hp)(E:XK):Cx where
 prog:=P
 w:=w
 K:=K
 mg:=mg
 base:=base
 A:=A.deeper (g6 b a s.heap.objs.size f d)
 N:=N
 dH:=s
 jW:=H
 env:=g6 b a s.heap.objs.size f d
 outer:=outer
 stack:=g6 b a s.heap.objs.size f d::outer
 ex:=[]
 calm:=be
 fn:=λ_=>be
 pn:=[]
 xe:=λe g=>wpAny (model P w) (A.deeper (g6 b a s.heap.objs.size f d)) (leaving (g6 b a s.heap.objs.size f d) e) (λ_ c=>CX outer H s E e c) (λh c=>CX outer H s E h c) g
theorem Fe{sc:Scope}{n:Nat}(h:sc.names.lookup x=Z .cell):∃c,(cellsFrom n sc.names []).lookup x=Z c:=by have q:=ZtL sc.names n [] (.inl h);exact ql.mp q
theorem Qp{CX:iJ}{P:a6}{w:World}{K:av}{J:Str->Option Value}{base:Heap}{N ps:List Str}{j:Str}{d:Scope}{f:Addr}{G:Value}{A:a_}{g:List Env}{s:aq}{H:Hp}{E:XK}{L:List Value}{vs:List V} (S:nG N ps d) (Y:A.handled=am) (e0:wj P w K J base A g s H) (hl:vs.length=ps.length) (r:Vals vs L) (x:InCallC s s.heap.objs.size (bindL (g6 j d s.heap.objs.size f G).kindOf (ps.zip L) λ_=>am) (cellsFrom (s.heap.objs.size+1) d.names []) (bindC (g6 j d s.heap.objs.size f G).kindOf (ps.zip L) λ_=>am) Q):Inv (dA CX P w K J base N j d f G A g s H E) [] (start N vs) H Q:=by
 have q8:ps.length<=N.length:=by have:=congrArg qm S.pre;rw[kv]at this;lia
 refine b8 x.done λI tk M T=>?_;subst M;have m:∀b:Addr,b∉(dA CX P w K J base N j d f G A g s H E).ex:=λb z=>absurd (show b∈([]:List Addr) from z) (by exact nofun);refine⟨⟨e0.mod,S.kind,W,W,ba _,λy z c I t=>?_,λy hy=>?_,λy c _ h=>?_,λ_=>Y,Around.frames_deeper e0.frames,.inr ⟨W,W⟩,λb z=>absurd z (m b),e0.bs,e0.ly,λb _ _=>m b,λb z=>absurd z (m b),e0.iI,e0.mh⟩,
  rfl,e0.bare,Un.kept T,⟨_,x.toInCall.ns,λi y v I t h3=>?_⟩,λy c h=>⟨_,x.cell y c h⟩,e0.aR.fresh (ba _),λy c h=>?_,λp B=>absurd (show p∈([]:List (Addr×Obj)) from B) 'k',e0.aR.kept T,?_⟩;·exact name_of_addr x.apart (y0 I) (y0 t)
 ·have hy:d.names.lookup y=Z .cell\/d.names.lookup y=Z .free:=hy;rcases hy with hy|hy;·exact Fe hy
  ·exact absurd W (S.Qo _ (y0 hy))
 ·exact du (x.above y c (y0 h))
 ·have O:i<vs.length:=by
   unfold start at t;by_cases O:i<vs.length
   ·exact O
   ·grind
  have ha:vs[i]?=Z v:=by
   unfold start at t;rw[iF (by simpa using O),bW]at t;cases e:vs[i]? with|none=>simp_all|some a=>simp_all
  obtain⟨u,U,rv⟩:=r.get ha;have B:ps[i]?=Z y:=by rw[<-S.pre,List.getElem?_take_of_lt 'd'];exact I
  have C:ps.Nodup:=by rw[<-S.pre];exact S.nd.sublist (List.take_sublist _ _)
  refine⟨u,rv,?_⟩;rcases S.par y (cj B)with k|k
  ·exact .inl ⟨k,Fc C B U k⟩
  ·obtain⟨c,e⟩:=Fe (n:=s.heap.objs.size+1) k;refine .inr ⟨.inl k,c,e,?_⟩;have q:=x.cell y c e;rw[Fd C B U (by show d.names.lookup y≠_;grind)]at q;exact q
 ·exact e0.aR.fresh (du (x.above y c (y0 h)))
 ·unfold start;show _=N.length;simp_all
theorem Ff{K:av}{C:Str->Option Value}{k:Nat}{body:List Stmt}{kV:Value} {ps:List Str} (lk:K.lookup f=Z ⟨oc,od,.func (qo name d h body a Y kV doc pm an g ct),G⟩) (L:Dh K g d=be) (S:nG N ps a) (len:∀vs H Q E,sp vs H Q E->vs.length=ps.length) (m:∀(A:a_)(c:List Env)(s:aq)(H:Hp)(vs:List V)(Q:VK)(E:XK),bI k (A.deeper (g6 d a s.heap.objs.size f g))->sp vs H Q E-> ∃t,fU (dA CX P w K C base N d a f g A c s H E) body t/\t {nx:=λ_ H'=>Q .aC H',rt:=Q} (start N vs) H):dm P w K C base CX (k+1) f (qo name d h body a Y kV doc pm an g ct) ps sp:=by
 refine⟨len,λA c s H args us vs Q E M e0 hb r z=>?_⟩;have hl:=len _ _ _ _ z;have KX:K.In s.heap:=e0.mod.qQ.keeps λb o e=>(e0.bs b o e).1;have O:s.heap.NoLimit:=e0.mod.nolimit.keeps λb o e=>(e0.bs b o e).1;have p:∀y∈ps.zip us,a.names.lookup y.1=Z .local\/(a.names.lookup y.1=Z .cell/\((cellsFrom (s.heap.objs.size+1) a.names []).lookup y.1).isSome=be):=λ⟨n,v⟩ hy=>by
  rcases S.par n (vo hy).1 with q|q;·exact .inl q
  ·exact .inr ⟨q,ZtL _ _ _ (.inl q)⟩
 refine codeAny_call_function M.depth (KX _ _ lk) W S.co S.gen W (PySem.W.codeRec_of KX L) (hb _ _ _ _ ?_);refine wpAny_newFunctionEnv_cells S.kind p λenv he s1 x=>?_;subst he;refine⟨O.keeps x.toInCall.keep,codeAny_func ?_⟩;obtain⟨t,ht,hq⟩:=m A c s H vs Q E (M.deeper _) z;have I:Inv (dA CX P w K C base N d a f g A c s H E) [] (start N vs) H s1:=Qp S M.hd e0 hl r x;refine i5 (ht [] s1 (start N vs) H _ I hq) (λfl T i=>?_) λe T i=>i;have B:∀{j:St}{H':Hp}{v:V}{u:Value},Inv (dA CX P w K C base N d a f g A c s H E) [] j H' T->RelV v u->Q v H'->CE c P w H s Q u T:=λ{j H' v u} J U q=>⟨v,H',J.os,J.bare,J.base,J.aR,U,q⟩;cases fl with|ret u=>refine dj i λv j H' J U q=>?_;clear i;exact B J U q|next=>refine b8 i λj H' J q=>?_;clear i;exact B (v:=V.aC) (u:=dC) J W q|brk=>refine b8 i λ_ _ _ q=>?_;clear i;simp_all|cont=>refine b8 i λ_ _ _ q=>?_;clear i;simp_all
section
variable {X:Cx}{x:Str}{p pos:Pos}{e:Expr}{es:List Expr}{t:TA}{id T:String}{r:List V->Hp->VK->Prop}
noncomputable def Fg(r:List V->Hp->VK->Prop)(t:TA):TE:=λσ H Q=>t σ H λvs a=>r vs a Q
theorem wm(c:kF X (.builtin id) r)(d:Gl X x)(f:X.mg x=am)(g:eR x=Z (.builtin id))(i:PA X (e::es) t)(hn:x≠"__name__":=by decide)(a:'f'=bi:=by decide) (j:a4 (e::es) X.env=(bi,eval e X.env)::a4 es X.env:=by rfl) (b:(ef pos (a4 es X.env)).any (·.1)=bi:=by rfl):PE X (.Call (.Name x p) (e::es) [] pos) (Fg r t):=by intro zK s σ H Q I h;refine wpAny_Call_Name_kw (lz I d f g ?_ hn a);exact ZtM (aT (i pos zK s σ H _ I h)<|by rintro m q ⟨vs,u,v,w,y⟩;exact c zK q σ u vs m Q v w y) j b
theorem Fh(c:kF X (.type T) r)(d:Gl X x)(f:X.mg x=am)(g:eR x=Z (.type T))(i:PA X (e::es) t)(hn:x≠"__name__":=by decide)(a:'f'=bi:=by decide) (j:a4 (e::es) X.env=(bi,eval e X.env)::a4 es X.env:=by rfl) (b:(ef pos (a4 es X.env)).any (·.1)=bi:=by rfl):PE X (.Call (.Name x p) (e::es) [] pos) (Fg r t):=by intro zK s σ H Q I h;refine wpAny_Call_Name_kw (lz I d f g ?_ hn a);exact sL (aT (i pos zK s σ H _ I h)<|by rintro m q ⟨vs,u,v,w,y⟩;exact c zK q σ u vs m Q v w y) j b
end
end L2
namespace HT
open PySem PyProof.Rows
section
open PySem.SeqAt
open PySem.AutoSeq1 (wpAny_loadPart')
open PySem.MeetsSeq PySem.MeetsSeq2 PySem.MeetsSeq3
end
section
variable {prog:a6}{w:World}{A:a_}{E:Value->aq->Prop}{s:aq}
theorem Qq{vs ws:List Value}(q:IsTup s.heap t vs.toArray)(r:IsTup s.heap b ws.toArray)(x:vs≠[])(u:ws=[]->Q (.ref t) s)(v:ws≠[]->Q (.ref s.heap.objs.size) {s with heap:=s.heap.push {cls:=.type "tuple",data:=.seq (vs++ws).toArray}})(hsz:vs.length+ws.length<=aD):wpAny 'h' A (gd .Add (.ref t) (.ref b)) Q E s:=by
 obtain⟨⟨cls,dd,data,i⟩,h,j,n,m⟩:=id q;obtain⟨⟨p,c,data2,d⟩,a,f,n2,g⟩:=id r;simp only at j m f g;subst j m f g;have e:vs.toArray++ws.toArray=(vs++ws).toArray:=by simp
 by_cases hw:ws=[]
 ·exact Ny ⟨_,h,W⟩ ⟨_,a,W⟩ Nz NA NB NC (ND _ _) (tuple_addW1 t b vs.toArray ws.toArray n n2 dd c i d (by grind) (by simp[hw])) ⟨h,a,u hw⟩
 ·refine Ny ⟨_,h,W⟩ ⟨_,a,W⟩ Nz NA NB NC (ND _ _) (tuple_addW2 t b vs.toArray ws.toArray n n2 dd c i d (by grind) (by grind) (by omega)) ⟨h,a,?_⟩;rw[e];exact v hw
noncomputable def a5(n d:Nat):Option Int->Nat|none=>d|some v=>if v<0 then(v+(n:Int)).toNat else min v.toNat n
theorem zM(n d:Nat)(a:d<=n)(o:Option Int):a5 n d o<=n:=by cases o with|none=>exact a|some v=>show(if v<0 then(v+(n:Int)).toNat else min v.toNat n)<=n;lia
theorem zN(v:Int)(n d:Nat):(if v<0 then max (v+(n:Int)) 0 else min v (n:Int))=((a5 n d (Z v):Nat):Int):=by show(if v<0 then max (v+(n:Int)) 0 else min v (n:Int))=(((if v<0 then(v+(n:Int)).toNat else min v.toNat n):Nat):Int);grind
theorem Qr(lo a:Option Int)(n:Nat):NF lo a 1 (n:Int)=(((a5 n 0 lo:Nat):Int),((a5 n n a:Nat):Int)):=by
 have b:¬((1:Int)<0):=by decide
 unfold NF;simp only[b,if_false];refine NG ?_ ?_;·cases lo with|none=>rfl|some v=>exact zN v n 0
 ·cases a with|none=>rfl|some v=>exact zN v n n
theorem Qs(i j:Nat):Di (i:Int) (j:Int) 1=j-i:=by unfold Di;lia
theorem Fi(p:m4 v o)(h:Q o s):wpAny 'h' A (Zv7 v) Q E s:=by cases p with|none=>exact slicePart_none h|int i t=>exact slicePart_int h
theorem Fj{f:Addr}{d e:Value}{lo a:Option Int}{n:Nat}{Q:Int×Int×Nat->aq->Prop}(g:s.heap.IsSliceOf f d e .none)(i:m4 d lo)(j:m4 e a) (h:Q (((a5 n 0 lo:Nat):Int),1,a5 n n a-a5 n 0 lo) s):wpAny 'h' A (ZtN (.ref f) (pure (n:Int))) Q E s:=by refine aM (id g) λos b m c=>?_;unfold ZtN Zv8;refine gV (gV (sO b c (x:=d) W (gV (sO b c (x:=e) W (gV (sO b c (x:=.none) W (Zy1 ?_)))))));refine gV (slicePart_none ?_);show wpAny _ _ (if((1:Int)==0)=be then _ else _) _ _ s;rw[if_neg 'a'];refine gV (Fi i (gV (Fi j (gV (Zy1 ?_)))));show wpAny _ _ (match NF lo a 1 (n:Int)with|(lo,a)=>pure (lo,(1:Int),Di lo a 1)) _ _ s;rw[Qr lo a n];show wpAny _ _ (pure (((a5 n 0 lo:Nat):Int),(1:Int),Di ((a5 n 0 lo:Nat):Int) ((a5 n n a:Nat):Int) 1)) _ _ s;rw[Qs];exact Zy1 h
theorem Qt(xs:Array Value)(i k:Nat):((eG k).filterMap λ(m:Nat)=>xs[((i:Int)+(m:Int)*1).toNat]?).toArray=((xs.toList.drop i).take k).toArray:=by
 have e:(λ(m:Nat)=>xs[((i:Int)+(m:Int)*1).toNat]?)=λm=>xs[i+m]?:=by
  funext m;have:((i:Int)+(m:Int)*1).toNat=i+m:=by lia
  rw[this]
 rw[e];have:=pick_run xs i k;rw[ZtO]at this;have a:((λx=>xs[x]?)∘λx=>i+x)=λm=>xs[i+m]?:=rfl;rw[a]at this;rw[this]
theorem Qu{t e:Addr}{a:Array Value}{p r:Value}{lo c:Option Int}{Q:Value->aq->Prop}(d:IsTup s.heap t a)(u:s.heap.IsSliceOf e p r .none)(v:m4 p lo)(x:m4 r c) (hw:¬(a5 a.size 0 lo=0/\a5 a.size a.size c=a.size)) (h:Q (.ref s.heap.objs.size) {s with heap:=s.heap.push {cls:=.type "tuple",data:=.seq ((a.toList.drop (a5 a.size 0 lo)).take (a5 a.size a.size c-a5 a.size 0 lo)).toArray}}) (hsz:a.size<=aD):wpAny 'h' A (lj (.ref t) (.ref e)) Q E s:=by
 have b:sizeOk (.seq ((a.toList.drop (a5 a.size 0 lo)).take (a5 a.size a.size c-a5 a.size 0 lo)).toArray):=by show((a.toList.drop (a5 a.size 0 lo)).take (a5 a.size a.size c-a5 a.size 0 lo)).toArray.size<=aD;rw[di,kv,Dj,m5];omega
 have z:a5 a.size a.size c<=a.size:=zM _ _ (ba _) c;refine aM (id u) λos f g y=>?_;have i:s.TypeIs (.ref e) "slice":=⟨os,f,g⟩;unfold lj;try with_reducible refine wpAny_holding ?_
 first|refine gV (Zy1 ?_)|skip
 refine gV (ZtP d.typeIs (by exact W) ?_);refine gV (qp (name:=oF "__getitem__") d.typeIs vp (jt vp d.typeIs ZtQ ?_ (ZtR _ _)));show wpAny _ _ (NH (.ref t)>>=_) _ _ s;refine gV (tupleItemsOf_ d ?_);refine gV (sP i ?_);rw[if_pos (by exact W)];refine gV (Fj u v x ?_);have j:¬((((a5 a.size 0 lo:Nat):Int)==0&&(1:Int)==1&&(a5 a.size a.size c-a5 a.size 0 lo)==a.size)=be):=by intro q;rw[cJ,cJ]at q;have B:((a5 a.size 0 lo:Nat):Int)=0:=eq_of_beq q.1.1;have C:a5 a.size a.size c-a5 a.size 0 lo=a.size:=eq_of_beq q.2;exact hw ⟨by lia,by omega⟩
 show wpAny _ _ (if(((a5 a.size 0 lo:Nat):Int)==0&&(1:Int)==1&&(a5 a.size a.size c-a5 a.size 0 lo)==a.size)=be then _ else _) _ _ s;rw[if_neg j,Qt];first|exact gV (m:=vq _) (wpAny_newObj_type (Zy1 ⟨_,W,Zy1 h⟩) b)|exact gV (m:=vq _) (wpAny_newObj_type (gV (Zy1 (Zy1 ⟨_,W,Zy1 h⟩))) b)|exact gV (gV (m:=vq _) (wpAny_newObj_type (Zy1 (Zy1 ⟨_,W,Zy1 h⟩)) b))|exact gV (gV (m:=vq _) (wpAny_newObj_type (Zy1 ⟨_,W,Zy1 h⟩) b))
end
end HT
namespace L2
open PySem PySem.Spec PyProof.Rows
noncomputable abbrev TO:=St->Hp->(Option Int->Hp->Prop)->Prop
def PO(X:Cx)(e:Option Expr)(t:TO):Prop:=∀(zK:List (Addr×Obj))(s:aq)(σ:St)(H:Hp)(Q:Option Int->Hp->Prop),Inv X zK σ H s->t σ H Q-> wpAny 'b' X.A (evalPart e X.env) (λu a=>∃o H',Inv X zK σ H' a/\m4 u o/\Q o H') X.xe s
noncomputable def Qw:TO:=λ_ H Q=>Q am H
noncomputable def Qx(t:TE):TO:=λσ H Q=>t σ H λx a=>∃i,x=.int i/\Q (Z i) a
section
variable {X:Cx}{e:Expr}{te:TE}{lo hi:Option Expr}{tl th:TO}{pos p2:Pos}
theorem Qy:PO X am Qw:=by intro zK s σ H Q I h;rw[evalPart_none];exact Zy1 ⟨am,H,I,.none,h⟩
theorem Qz(h:PE X e te):PO X (Z e) (Qx te):=by intro zK s σ H Q I hw;rw[evalPart_some];refine aT (h zK s σ H _ I hw) λu g a=>?_;obtain⟨x,b,c,d,f⟩:=a;obtain⟨i,rfl,q⟩:=f;obtain⟨t,rfl⟩:=d;exact⟨Z i,b,c,.int i t,q⟩
def mj(X:Cx)(r:V->Option Int->Option Int->Hp->VK->Prop):Prop:=∀(zK:List (Addr×Obj))(s:aq)(σ:St)(H:Hp)(x:V)(v a b:Value)(lo hi:Option Int)(c:Addr)(Q:VK),Inv X zK σ H s->RelV x v->s.heap.IsSliceOf c a b .none->m4 a lo->m4 b hi->r x lo hi H Q-> ∃T id,vr (.type T) "__getitem__"=pure (Z (.builtin id))/\s.TypeIs v T/\wpAny 'b' X.A (lj v (.ref c)) (EP X zK σ Q) X.xe s
theorem mj.or(h:mj X r)(h':mj X j):mj X (λx lo hi H Q=>r x lo hi H Q\/j x lo hi H Q):=by
 intro zK s σ H x v a b lo hi c Q I d f g i q;rcases q with q|q;·exact h zK s σ H x v a b lo hi c Q I d f g i q
 ·exact h' zK s σ H x v a b lo hi c Q I d f g i q
noncomputable def QA(r:V->Option Int->Option Int->Hp->VK->Prop)(te:TE)(tl th:TO):TE:=λσ H Q=>te σ H λx a=>tl σ a λl H2=>th σ H2 λu b=>r x l u b Q
theorem QB(i:mj X r)(j:PE X e te)(m:PO X lo tl)(p:PO X hi th):PE X (.Subscript e (.Slice lo hi am p2) pos) (QA r te tl th):=by intro zK s σ H Q I h;refine Subscript_ (aT (j zK s σ H _ I h) λv t f=>?_);obtain⟨x,y,z,B,C⟩:=f;refine wpAny_Slice (aT (m zK t σ y _ z C) λc E ⟨l,H2,G,J,L⟩=>aT (p zK E σ H2 _ G L) λd a f=>?_);obtain⟨u,g,M,N,O⟩:=f;rw[evalPart_none];refine Zy1 ?_;have U:Inv X zK σ g {a with heap:=a.heap.push {cls:=.type "slice",data:=.fields #[c,d,.none]}}:=M.kept (t':=a.toks) λb ob q=>bR _ q;obtain⟨T,id,Y,ht,hg⟩:=i zK {a with heap:=a.heap.push {cls:=.type "slice",data:=.fields #[c,d,.none]}} σ g x v c d l u a.heap.objs.size Q U B (Zv9 ..) J N O;show wpAny 'b' X.A (NI e (.Slice lo hi am p2) v (.ref a.heap.objs.size)) (EP X zK σ Q) X.xe {a with heap:=a.heap.push {cls:=.type "slice",data:=.fields #[c,d,.none]}};exact tail_any (ops:=[.ref a.heap.objs.size,v]) ht Y hg (by rfl)
def ml(xs:List V)(lo hi:Option Int):List V:=(xs.drop (HT.a5 xs.length 0 lo)).take (HT.a5 xs.length xs.length hi-HT.a5 xs.length 0 lo)
theorem Fl(xs:List V)(lo hi:Option Int):(ml xs lo hi).length<=xs.length:=by grind[ml,kv,Dj]
def QC(K:av):V->Option Int->Option Int->Hp->VK->Prop:=λx lo hi H Q=>∃a xs,x=.ref a/\cF K H a xs∧ ¬(HT.a5 xs.length 0 lo=0/\HT.a5 xs.length xs.length hi=xs.length)/\∀p,H p=am->Q (.ref p) (upd H p (.tup (ml xs lo hi)))
theorem QD:mj X (QC X.K):=by
 intro zK s σ H x v t u lo hi w Q I g i j m h;refine cE h λa xs c p hw q=>?_;clear h;subst c;cases g;refine aM (I.tuple p) λd r f hz=>?_;have hlen:d.toArray.size=xs.length:=by rw[di];exact r.length.symm
 refine⟨"tuple",_,vp.lookup,f.typeIs,?_⟩;refine HT.Qu f i j m (by rw[hlen];exact hw) ?_ 'd';rw[hlen];refine⟨.ref s.heap.objs.size,_,I.laid (t':=s.toks) (o:=.tup (ml xs lo hi)) (λb y q=>bR _ q) (ba _) ?_,W,q _ (I.aR.fresh (ba _))⟩;exact⟨cv (Fl xs lo hi) hz,_,(r.drop (HT.a5 xs.length 0 lo)).take (HT.a5 xs.length xs.length hi-HT.a5 xs.length 0 lo),Dk _ _⟩
def QE(K:av):R2:=λx y H Q=>∃a b xs ys,x=.ref a/\y=.ref b/\cF K H a xs/\cF K H b ys/\xs≠[]/\xs.length+ys.length<=aD∧ (ys=[]->Q (.ref a) H)/\(ys≠[]->∀p,H p=am->Q (.ref p) (upd H p (.tup (xs++ys))))
theorem Vals.zO(r:Vals xs a):a=[]↔xs=[]:=by cases r with|nil=>decide|cons _ _=>simp
theorem QF:dc X (gd .Add) (QE X.K):=by intro zK s σ H x y v u Q I p r h;refine b_ h λa b xs c=>d6 c λys g i t d=>jx d λA B hz C E=>?_;clear h c d;subst g;subst i;cases p;cases r;refine aM (I.tuple t) λG j J _=>?_;refine aM (I.tuple A) λm f p2 _=>?_;refine HT.Qq J p2 (λz=>B (j.zO.mp z)) (λz=>⟨.ref a,H,I,W,C (f.zO.mp z)⟩) (λz=>?_) (by rw[<-j.length,<-f.length];exact hz);refine⟨.ref s.heap.objs.size,_,I.laid (t':=s.toks) (o:=.tup (xs++ys)) (λb L q=>bR _ q) (ba _) ?_,W,E (λw=>z (f.zO.mpr w)) _ (I.aR.fresh (ba _))⟩;exact⟨by simp_all,_,j.append f,Dk _ _⟩
end
noncomputable def iK(n:Nat)(i:Int):Option Nat:=if 0<=i then(if i<n then Z i.toNat else am)else if-(n:Int)<=i then Z (i+n).toNat else am
def bN{a:Type}(xs:List a)(i:Int):Option a:=(iK xs.length i).bind λj=>xs[j]?
theorem Fm{n:Nat}(h:iK n i=Z j):seqIndex? i n=Z j/\j<n/\ -(n:Int)<=i/\i<n:=by
 unfold iK at h;by_cases b:0<=i
 ·rw[if_pos b]at h;by_cases a:i<n;·rw[if_pos a]at h;grind[ao,NJ]
  simp_all
 ·rw[if_neg b]at h;by_cases a: -(n:Int)<=i;·rw[if_pos a]at h;grind[ao,seqIndex_neg]
  simp_all
theorem zP{a:Type}{xs:List a}{i:Int}{v:a}(h:bN xs i=Z v):∃j,seqIndex? i xs.length=Z j/\xs[j]?=Z v/\j<xs.length/\ -(xs.length:Int)<=i/\i<xs.length:=by grind[bN,iK,Fm]
theorem wo{a:Type}{xs:List a}{j:Nat}{v:a}(h:xs[j]?=Z v):bN xs (j:Int)=Z v:=by have b:j<xs.length:=(bF.mp h).1;simp_all[iK,if_pos,bN]
def QG(b:Expr):Prop:=∀o i,y1 b bi o i=operate [o,i] (lj o i)
def mm(X:Cx)(r:R2):Prop:=∀(b a:Expr)(zK:List (Addr×Obj))(s:aq)(σ:St)(H:Hp)(x y:V)(v u:Value)(Q:VK),Inv X zK σ H s->RelV x v->RelV y u->r x y H Q-> y1 a bi v u=operate [v,u] (lj v u)->wpAny 'b' X.A (NI b a v u) (EP X zK σ Q) X.xe s
def wq(X:Cx)(id:String)(r:V->List V->Hp->VK->Prop):Prop:=∀(zK:List (Addr×Obj))(s:aq)(σ:St)(H:Hp)(x:V)(xs:List V)(v:Value)(a:List Value)(Q:VK),Inv X zK σ H s->RelV x v->Vals xs a->r x xs H Q-> wpAny 'b' X.A (call (.builtin id) (v::a)) (EP X zK σ Q) X.xe s
section
variable {X:Cx}{a b:Expr}{ta tb:TE}{pos:Pos}
theorem mm.or(h:mm X r)(h':mm X i):mm X (λx y H Q=>r x y H Q\/i x y H Q):=by
 intro c d zK s σ H x y v u Q I e f q g;rcases q with q|q;·exact h c d zK s σ H x y v u Q I e f q g
 ·exact h' c d zK s σ H x y v u Q I e f q g
theorem zQ(c:mm X r)(d:PE X a ta)(e:PE X b tb)(f:QG b):PE X (.Subscript a b pos) (tE r ta tb):=by intro zK s σ H Q I h;exact Subscript_ (zI d e I h λv u g x y H2 i j m q=>c a b zK g σ H2 x y v u Q i j m q (f _ _))
def Fo(K:av):R2:=λx y H Q=>∃p xs i v,x=.ref p/\y=.int i/\b9 K H p xs/\bN xs i=Z v/\Q v H
def Fp(K:av):R2:=λx y H Q=>∃p xs i v,x=.ref p/\y=.int i/\cF K H p xs/\bN xs i=Z v/\Q v H
def Fq:R2:=λx y H Q=>∃z i c,x=.str z/\y=.int i/\z.length<=aD/\bN z.cps.toList i=Z c/\Q (.str ⟨#[c]⟩) H
theorem Fs:mm X (Fo X.K):=by
 intro g m zK s σ H x y v u Q I O T h L;refine b_ h λp xs i c=>d6 c λz A B U d=>bc d λY q=>?_;clear h c d;subst A;subst B;cases O;obtain⟨t,rfl⟩:=T;refine aM (I.list U) λC r E hz=>?_;refine d6 (zP Y) λj f h2 h3 c=>bc c λh4 h5=>?_;clear c;obtain⟨w,M,G⟩:=r.get h2;have hl:=r.length;have hn:=oX;have e:EP X zK σ Q w s:=⟨z,H,I,G,q⟩;by_cases N:0<=i
 ·have J:i.toNat=j:=by rw[NJ N h5]at f;exact ao f
  exact item_listR E.isList N 'd' (by rw[J];simpa using M) e L
 ·have J:(i+(C.toArray.size:Int)).toNat=j:=by rw[seqIndex_neg 'd' h4]at f;rw[di,<-hl];exact ao f
  exact ZtS (x:=w) E.isList.typeIs ZtT.lookup (wpAny_getItem_list_neg (Q:=λr s'=>r=w/\EP X zK σ Q r s') E.isList 'd' (by simp_all) 'd' (by rw[J];simpa using M) ⟨W,e⟩) L
theorem Fu:mm X (Fp X.K):=by intro e f zK s σ H x y v u Q I E G h J;refine b_ h λp xs i c=>d6 c λz g m L d=>bc d λM q=>?_;clear h c d;subst g;subst m;cases E;obtain⟨t,rfl⟩:=G;refine aM (I.tuple L) λN r C hz=>?_;refine d6 (zP M) λj U O Y c=>bc c λh4 h5=>?_;clear c;obtain⟨w,ew,A⟩:=r.get O;have hl:=r.length;have hn:=oX;have B:EP X zK σ Q w s:=⟨z,H,I,A,q⟩;exact ZtS (x:=w) C.typeIs slot_tuple_getitem.lookup (getItem_tuple (j:=j) (Q:=λr T=>r=w/\EP X zK σ Q r T) C 'd' 'd' (by simp_all) (by grind) ⟨W,B⟩) J
theorem QH:mm X Fq:=by
 intro e f zK s σ H x y v u Q I r w h A;refine dj h λz i c g m d=>bG d λhz B q=>?_;clear h d;subst g;subst m;obtain⟨t,rfl⟩:=r;obtain⟨t',rfl⟩:=w;refine d6 (zP B) λj p C L d=>bc d λE G=>?_;clear d;have J:z.cps.toList.length=z.length:=by simp[Str.length]
 rw[J]at p E G;have hn:=oX;exact tail_any (NK s z t) slot_str_getitem.lookup (getItem_str (c:=c) 'd' (by rw[p];simpa using C) ⟨.str ⟨#[c]⟩,H,I.tok _,⟨_,W⟩,q⟩) A
def QI(K:av):R2:=λx y H Q=>Fo K x y H Q\/Fp K x y H Q\/Fq x y H Q
theorem QJ:mm X (QI X.K):=Fs.or (Fu.or QH)
theorem QK(c:List Value)(n j:Nat)(u:Value):gG (·.setIfInBounds j u) {cls:=.type "list",data:=.seq c.toArray n}={cls:=.type "list",data:=.seq (c.set j u).toArray n}:=by simp[gG]
theorem Inv.lst{s:aq}{xs:List V}(I:Inv X zK σ H s)(h:H p=Z (.lst xs)):∃(c:List Value)(n:Nat),Vals xs c/\s.heap.get? p=Z {cls:=.type "list",data:=.seq c.toArray n}/\xs.length<=aD:=by refine bc (I.aR p _ h) λz d=>b8 d λc n r e=>?_;clear d;exact⟨c,n,r,e,z⟩
theorem Inv.QL{s:aq}{ys:List V}{c its':List Value}{n:Nat}(I:Inv X zK σ H s)(h:H p=Z (.lst xs))(g:s.heap.get? p=Z {cls:=.type "list",data:=.seq c.toArray n})(hf:f {cls:=.type "list",data:=.seq c.toArray n}={cls:=.type "list",data:=.seq its'.toArray d})(r:Vals ys its')(hz:ys.length<=aD)(t:Nat):Inv X zK σ (upd H p (.lst ys)) {s with heap:=s.heap.update p f,toks:=t}:=by
 have e:(s.heap.update p f).get? p=Z {cls:=.type "list",data:=.seq its'.toArray d}:=by rw[m6 f g (by rw[hf]<;>rfl),hf]
 refine I.write (x:=p) (e:=p) (by rw[h];trivial) (.inl W) (λb u i q=>(Dm _ _ (b6 i)).trans q) ⟨_,e⟩ ?_;exact⟨hz,its',d,r,e⟩
def QM:V->V->V->Hp->(Hp->Prop)->Prop:=λo i v H Q=>∃p xs k j,o=.ref p/\i=.int k/\H p=Z (.lst xs)/\iK xs.length k=Z j/\Q (upd H p (.lst (xs.set j v)))
theorem QN:EI X QM:=by intro zK s σ H o i v B C u Q I w x y h;refine b_ h λp xs k c=>d6 c λj e f m d=>bc d λz q=>?_;clear h c d;subst e;subst f;cases w;obtain⟨t,rfl⟩:=x;refine cM (I.lst m) λg n r A hz=>?_;refine jw (Fm z) λE G J L=>?_;have M:=r.length;have hn:=oX;have N:Inv X zK σ (upd H p (.lst (xs.set j v))) {s with heap:=s.heap.update p (gG (·.setIfInBounds j u))}:=I.QL m A (QK g n j u) (r.set y j) (by rw[e_];exact hz) s.toks;grind[NJ,ao,PySem.W.ki_setAt,di,seqIndex_neg,PySem.W.ki_setBack]
theorem QO(lo c:Option Int)(n:Nat):(y2 lo c am n).1=((HT.a5 n 0 lo:Nat):Int)/\(y2 lo c am n).2.1=((HT.a5 n n c:Nat):Int)/\(y2 lo c am n).2.2=1:=by
 refine⟨?_,?_,W⟩;·cases lo with|none=>rfl|some i=>simp only[y2,HT.a5,ZtU,show(1:Int)>0 by decide,if_true];grind
 ·cases c with|none=>rfl|some i=>simp only[y2,HT.a5,ZtU,show(1:Int)>0 by decide,if_true];grind
theorem QP(c:List Value)(lo d:Option Int):slicePick c.toArray lo d am=((c.drop (HT.a5 c.length 0 lo)).take (HT.a5 c.length c.length d-HT.a5 c.length 0 lo)).toArray:=by obtain⟨e,f,g⟩:=QO lo d c.toArray.size;unfold slicePick;rw[e,f,g];simp only[sliceRange_one,pick_run,di]<;>rfl
def QQ(K:av):V->Option Int->Option Int->Hp->VK->Prop:=λx lo c H Q=>∃a xs,x=.ref a/\b9 K H a xs/\∀p,H p=am->Q (.ref p) (upd H p (.lst (ml xs lo c)))
theorem QR:mj X (QQ X.K):=by intro zK s σ H x v t u lo c w Q I f g i j h;refine cM h λa xs d m q=>?_;clear h;subst d;cases f;refine aM (I.list m) λp r e hz=>?_;have hlen:=r.length;refine⟨"list",_,ZtT.lookup,e.isList.typeIs,?_⟩;refine wpAny_getItem_list_slice e.isList g i j .none 'a' ?_ (by simp_all);rw[QP,<-hlen];refine⟨.ref s.heap.objs.size,_,I.laid (t':=s.toks) (o:=.lst (ml xs lo c)) (λb y q=>bR _ q) (ba _) ?_,W,q _ (I.aR.fresh (ba _))⟩;exact⟨cv (Fl xs lo c) hz,_,0,(r.drop (HT.a5 xs.length 0 lo)).take (HT.a5 xs.length xs.length c-HT.a5 xs.length 0 lo),cW _ W⟩
theorem zR:kF X (.builtin "len") (λxs H Q=>∃p ys,xs=[.ref p]/\(b9 X.K H p ys\/cF X.K H p ys)/\Q (.int ys.length) H):=by
 intro zK s σ H xs i Q I r h;refine cM h λp ys c hq q=>?_;clear h;subst c;obtain⟨u,rfl,g⟩:=kG r;cases g;have hn:=oX;rcases hq with hq|hq;·refine aM (I.list hq) λd e f hz=>?_;have hlen:=e.length;exact Calls.call_len_list f.isList (by grind) ⟨.int ys.length,H,I.tok _,⟨s.toks+1,by rw[di,hlen]⟩,q⟩
 ·refine aM (I.tuple hq) λd e f hz=>?_;have hlen:=e.length;exact len_tuple f (by grind) ⟨.int ys.length,H,I.tok _,⟨s.toks+1,by rw[di,hlen]⟩,q⟩
theorem QS:kF X (.builtin "len") (λxs H Q=>∃z,xs=[.str z]/\z.length<=aD/\Q (.int z.length) H):=by intro zK s σ H xs f Q I r h;refine aM h λz c hz q=>?_;clear h;subst c;refine a9 (kG r) λu c d=>gH d λt e=>?_;clear d;subst c;subst e;have hn:=oX;exact len_str 'd' ⟨.int z.length,H,I.tok _,⟨_,W⟩,q⟩
theorem QT:kF X (.type "list") (λxs H Q=>∃p ys,xs=[.ref p]/\(b9 X.K H p ys\/cF X.K H p ys)/\∀l,H l=am->Q (.ref l) (upd H l (.lst ys))):=by
 intro zK s σ H xs B Q I r h;refine cM h λp ys i hq q=>?_;clear h;subst i;obtain⟨u,rfl,y⟩:=kG r;cases y;have z:∀(c:List Value),Vals ys c->ys.length<=aD->∀(h':Heap)(j:Nat),(∀b x,s.heap.get? b=Z x->h'.get? b=Z x)-> h'.get? s.heap.objs.size=Z {cls:=.type "list",dict:=am,data:=.seq c.toArray j,slots:= #[]}->EP X zK σ Q (.ref s.heap.objs.size) {s with heap:=h'}:=λc f hz h' j A e=> ⟨.ref s.heap.objs.size,_,I.laid (t':=s.toks) A (ba _) (show dG X.prog X.w _ h' _ (.lst ys) from⟨hz,c,j,f,e⟩),W,q _ (I.aR.fresh (ba _))⟩;rcases hq with hq|hq;·refine aM (I.list hq) λc f g hz=>?_;have hlen:=f.length;refine aM g.isList λo m t d=>gH d λn v=>?_;clear d;exact call_list_seq p (.inl W) m t v (by grind) (by simp_all)
 ·refine aM (I.tuple hq) λc f g hz=>?_;have hlen:=f.length;refine aM g λo m t d=>gH d λn v=>?_;clear g d;exact call_list_seq p (.inr W) m t v (by grind) (by simp_all)
theorem Fv:kF X (.type "tuple") (λxs H Q=>∃p ys,xs=[.ref p]/\((b9 X.K H p ys/\∀l,H l=am->Q (.ref l) (upd H l (.tup ys)))\/(cF X.K H p ys/\Q (.ref p) H))):=by
 intro zK s σ H xs v Q I r h;obtain⟨p,ys,rfl,h⟩:=h;obtain⟨u,rfl,j⟩:=kG r;cases j;rcases h with⟨d,q⟩|⟨d,q⟩;·obtain⟨c,f,g,hz⟩:=I.list d;have hlen:=f.length;refine call_tuple_list g.isList (λh' m=>?_) (by simp_all);have i:Inv X zK σ H {s with heap:=h'}:=I.kept (t':=s.toks) m;have t:Inv X zK σ (upd H h'.objs.size (.tup ys)) {s with heap:=h'.push {cls:=.type "tuple",data:=.seq c.toArray}}:=i.laid (t':=s.toks) (λb o e=>bR _ e) (ba _) (show dG X.prog X.w _ _ _ (.tup ys) from⟨hz,c,f,Dk _ _⟩);exact⟨.ref h'.objs.size,_,t,W,q _ (i.aR.fresh (ba _))⟩
 ·obtain⟨c,f,g,hz⟩:=I.tuple d;exact call_tuple_same g ⟨.ref p,H,I,W,q⟩
def wt(K:av)(T:String)(x:V)(H:Hp):Prop:=match x with|.str _=>T="str"|.int _=>T="int"|.ref p=>(T="list"/\∃xs,b9 K H p xs)\/(T="tuple"/\∃o,K.lookup p=Z o/\o.cls=.type "tuple"/\o.dict=am)∨ (T="dict"/\((∃kvs,H p=Z (.dK kvs))\/∃kvs,H p=Z (.dT kvs)))\/(T="set"/\∃S n,H p=Z (.set S n))|_=>False
theorem Fw{s:aq}(I:Inv X zK σ H s)(r:RelV x v)(j:wt X.K T x H):s.TypeIs v T/\∀a,v=.ref a->∃w,s.heap.get? a=Z w/\w.dict=am:=by
 cases x with|str z=>obtain⟨t,rfl⟩:=r;cases(show T="str" from j);exact⟨NK s z t,λ_ e=>nomatch e⟩|int i=>obtain⟨t,rfl⟩:=r;cases(show T="int" from j);exact⟨typeIs_int s i t,λ_ e=>nomatch e⟩|ref p=>
  cases r;rcases j with⟨rfl,xs,y⟩|⟨rfl,o,g,A,m⟩|⟨rfl,g⟩|⟨rfl,S,n,g⟩;·refine aM (I.list y) λB _ q _=>?_;refine⟨q.isList.typeIs,λa e=>?_⟩;cases e;refine cE q λo n e c m _=>?_;clear q;exact⟨o,e,m⟩
  ·refine⟨⟨o,I.gh p o g,A⟩,λa e=>?_⟩;cases e;exact⟨o,I.gh _ o g,m⟩
  ·have z:∃o,s.heap.get? p=Z o/\o.ExactDict:=by
    rcases g with⟨kvs,g⟩|⟨kvs,g⟩;·refine bG (I.aR p _ g) λ_ _ d=>a9 d λ_ _ f=>dj f λo _ _ e h _=>?_;clear d f;exact⟨o,e,h⟩
    ·refine bG (I.aR p _ g) λ_ _ d=>a9 d λ_ _ f=>dj f λo _ _ e h _=>?_;clear d f;exact⟨o,e,h⟩
   obtain⟨o,e,h⟩:=z;refine⟨⟨o,e,h.1⟩,λa u=>?_⟩;cases u;exact⟨o,e,h.2.1⟩
  ·refine b_ (I.aR p _ g) λo _ _ d=>aM d λ_ e h _=>?_;clear d;refine⟨⟨o,e,h.1⟩,λa u=>?_⟩;cases u;exact⟨o,e,h.2.1⟩|_=>exact dD j
noncomputable def QU(K:av)(T:String)(r:V->List V->Hp->VK->Prop)(d:TE):TE:=λσ H Q=>d σ H λx c=>wt K T x c/\r x [] c Q
noncomputable def QV(K:av)(T:String)(r:V->List V->Hp->VK->Prop)(d:TE)(t:TA):TE:=λσ H Q=>d σ H λx c=>wt K T x c/\t σ c λxs H2=>r x xs H2 Q
variable {o e:Expr}{es:List Expr}{to:TE}{t:TA}{name:Str}{apos cpos:Pos}{T id:String}{r:V->List V->Hp->VK->Prop}
theorem QW(m:PlainAttrs T)(f:Slot T name id)(g:typeOf (.builtin id)=pure (.type "method_descriptor"))(p:wq X id r)(q:PE X o to) (c:Dp o name X.env (eval o X.env)=eval o X.env:=by rfl) (d:(apos.endLine==cpos.line)=be:=by rfl):PE X (.Call (.Attribute o name apos) [] [] cpos) (QU X.K T r to):=by intro zK s σ H Q I h;refine wpAny_Call_method0_late c d (aT (q zK s σ H _ I h) λv u w=>?_);obtain⟨x,y,i,j,z,A⟩:=w;obtain⟨B,C⟩:=Fw i j z;exact⟨T,id,m,f,g,B,C,ZtV W (PySem.evalArgs_none (p zK u σ y x [] v [] Q i j .nil A))⟩
theorem lD(u:PlainAttrs T)(g:Slot T name id)(j:typeOf (.builtin id)=pure (.type "method_descriptor"))(w:wq X id r)(y:PE X o to)(z:PA X (e::es) t) (d:Dp o name X.env (eval o X.env)=eval o X.env:=by rfl) (i:((ef cpos (a4 (e::es) X.env)).all (λx=>!x.1)&&(backToKw cpos (keywordEach [] X.env)).all (λx=>x.1.isSome) &&decide ((e::es).length+([]:List yY).length+(if([]:List yY).isEmpty then 0 else 1)<30))=be:=by rfl) (f:(apos.endLine==cpos.line)=be:=by rfl) (A:a4 (e::es) X.env=(bi,eval e X.env)::a4 es X.env:=by rfl) (c:(ef cpos (a4 es X.env)).any (·.1)=bi:=by rfl):PE X (.Call (.Attribute o name apos) (e::es) [] cpos) (QV X.K T r to t):=by intro zK s σ H Q I h;refine wpAny_Call_method_late d i f W (aT (y zK s σ H _ I h) λv B C=>?_);obtain⟨x,E,m,p,G,J⟩:=C;obtain⟨L,M⟩:=Fw m p G;refine⟨T,id,u,g,j,L,M,?_⟩;have q:=z cpos zK B σ E _ m J;rw[A]at q⊢;refine ZtV (by show(bi||(ef cpos (a4 es X.env)).any (·.1))=bi;rw[c]<;>rfl) (ZtW ?_);exact aT q<|by rintro N O ⟨vs,H2,U,Y,q2⟩;exact w zK O σ H2 x vs v N Q U p Y q2
end
def tF(X:Cx)(id:String)(r:V->List V->Hp->VK->Prop):Prop:=∀(zK:List (Addr×Obj))(s:aq)(σ:St)(H:Hp)(x:V)(xs:List V)(v:Value)(a:List Value)(Q:VK),Inv X zK σ H s->RelV x v->Vals xs a->r x xs H Q-> wpAny 'b' X.A (call (.builtin id) (v::a)) (EP X zK σ Q) X.xe s
theorem Vals.one(h:Vals [x] a):∃u,a=[u]/\RelV x u:=by cases h with|cons r t=>cases t;exact⟨_,W,r⟩
theorem Vals.zero:∀{a:List Value},Vals [] a->a=[]|_,.nil=>rfl
theorem Vals.dropLast{xs:List V}{a:List Value}(h:Vals xs a):Vals xs.dropLast a.dropLast:=by induction h with|nil=>exact .nil|cons r t b=>cases t with|nil=>exact .nil|cons q t'=>exact .cons r b
section
variable {X:Cx}{zK:List (Addr × Obj)}{σ:St}{H:Hp}{s:aq}{l:Addr}{xs ys:List V}
theorem Inv.wu{a its':List Value}{n:Nat}(I:Inv X zK σ H s)(c:H l=Z (.lst xs))(e:s.heap.get? l=Z {cls:=.type "list",data:=.seq a.toArray n})(hf:f a.toArray=its'.toArray)(d:Vals ys its')(hz:ys.length<=aD):Inv X zK σ (upd H l (.lst ys)) {s with heap:=s.heap.update l (gG f),toks:=t'}:=by have q:=PySem.IsL.update e f;rw[hf]at q;refine I.write (x:=l) (e:=l) (by rw[c];exact trivial) (.inl W) (λi u g h=>(Dm s.heap (gG f) (b6 g)).trans h) ⟨_,q⟩ ?_;exact⟨hz,its',_,d,q⟩
theorem Inv.QX{a:List Value}(I:Inv X zK σ H s)(c:Vals ys a)(hz:ys.length<=aD):Inv X zK σ (upd H s.heap.objs.size (.lst ys)) {s with heap:=s.heap.push {cls:=.type "list",data:=.seq a.toArray},toks:=t'}:=I.laid (λ_ _ q=>bR _ q) (ba _) ⟨hz,a,0,c,cW _ W⟩
theorem Inv.fresh(I:Inv X zK σ H s):H s.heap.objs.size=am:=I.aR.fresh (ba _)
theorem Inv.tG(I:Inv X zK σ H s)(d:H l=Z (.lst xs)):xs.length<=aD/\∃(a:List Value)(n:Nat),Vals xs a/\xs.length=a.length/\s.heap.get? l=Z {cls:=.type "list",data:=.seq a.toArray n}:=by refine bc (I.aR l _ d) λz c=>b8 c λa n r e=>?_;clear c;exact⟨z,a,n,r,r.length,e⟩
theorem Fx{n:Nat}(h:n<=aD):Dq n=bi:=by unfold Dq;exact decide_eq_false 'd'
end
section
variable {X:Cx}
def QY:V->List V->Hp->VK->Prop:=λx vs H Q=>∃l xs y,x=.ref l/\vs=[y]/\H l=Z (.lst xs)/\xs.length<aD/\Q .aC (upd H l (.lst (xs++[y])))
theorem tI:tF X "list.append" QY:=by intro zK s σ H x vs v m Q I g i h;refine dj h λl xs y c d a=>bG a λf hz q=>?_;clear h a;subst c;subst d;cases g;obtain⟨u,rfl,j⟩:=i.one;refine bc (I.tG f) λz a=>cM a λb n r p e=>?_;clear a;refine y3 F.slot_list_append ⟨_,e,W⟩ F.entry_list_append (F.args_list_append_2 _ _) (PySem.list_append l b.toArray n u (by simp_all)) ⟨e,?_⟩;refine⟨.aC,_,I.wu (its':=b++[u]) f e 'k' (r.append (.cons j .nil)) ?_,W,q⟩;grind
def QZ:V->List V->Hp->VK->Prop:=λx vs H Q=>∃l b xs a,x=.ref l/\vs=[.ref b]/\H l=Z (.lst xs)/\H b=Z (.lst a)/\xs.length+a.length<=aD/\Q .aC (upd H l (.lst (xs++a)))
theorem Q0:tF X "list.extend" QZ:=by
 intro zK s σ H x vs v E Q I p t h;refine b_ h λl b xs a=>d6 a λG i j m g=>bG g λw hz q=>?_;clear h a g;subst i;subst j;cases p;obtain⟨u,rfl,y⟩:=t.one;cases y;refine bc (I.tG m) λz a=>cM a λd n r J e=>?_;clear a;refine bc (I.tG w) λL a=>cM a λc n2 A B C=>?_;clear a;have hsz:d.toArray.size+c.toArray.size<=aD:=by rw[di,di];lia
 have f:¬(!d.toArray.isEmpty&&Dq (d.toArray.size+c.toArray.size))=be:=by rw[Fx hsz,vt];exact ei
 refine y3 ZtX ⟨_,e,W⟩ ZtY (ZtZ _ _) (Zt0 l d.toArray n b c.toArray n2 f (by rw[di];lia) (fo hsz)) ⟨e,C,?_⟩;refine⟨.aC,_,I.wu (its':=d++c) m e 'k' (r.append A) ?_,W,q⟩;rw[bB];omega
def Q1:V->List V->Hp->VK->Prop:=λx vs H Q=>∃l xs y,x=.ref l/\vs=[]/\H l=Z (.lst xs)/\xs[xs.length-1]?=Z y/\Q y (upd H l (.lst xs.dropLast))
theorem Q2:tF X "list.pop" Q1:=by
 intro zK s σ H x vs v B Q I j m h;refine dj h λl xs y c d b=>bG b λi p q=>?_;clear h b;subst c;subst d;cases j;have f:=m.zero;subst f;refine bc (I.tG i) λz b=>cM b λa n r t e=>?_;clear b;obtain⟨u,w,A⟩:=r.get p;have g:a.toArray[a.toArray.size-1]?=Z u:=by show a.toArray[a.length-1]?=Z u;rw[<-sQ,<-t];exact w
 refine y3 F.slot_list_pop ⟨_,e,W⟩ F.entry_list_pop (F.args_list_pop_1 _) (MeetsSeq.list_pop_last l a.toArray n u g (by simp_all)) ⟨e,?_⟩;refine⟨y,_,I.wu (its':=a.dropLast) i e ?_ r.dropLast ?_,A,q⟩;·simp
 grind
end
end L2
namespace Fy
open PySem PySem.W PySem.Calls PyProof.Rows
theorem Q3:∀(ns:List Int)(vs:List Value),WellAll P h vs (ns.map WData.int)->sR vs ns:=by intro ns;induction ns with|nil=>intro vs w;rw[vu]at w;cases w;exact .nil|cons n ns c=>intro vs w;rw[br]at w;cases w with|cons a b=>cases a;exact .cons _ _ (c _ b)
theorem Q4{l:OpenLaw}{n:Nat}(hn:l.most=Z n){h:Heap}(b:l.row.toRowW.claim.pre args=be)(g:WellAll P h c args):∃a vs ns,c=[eQ a]/\args=[WData.list (ns.map WData.int)]/\h.get? a=Z {cls:=.type "list",data:=.seq vs.toArray}/\sR vs ns/\ns.length<=n:=by
 have i:WShape.hasAll [] args [.list .int]=be:=(pre_splitW b).1;have m:l.pre.holds [] {args:=args}=be:=(pre_splitW b).2;refine cM (hasAllW_cons i) λd r j t u=>?_;subst j;obtain rfl:=hasAllW_nil u;obtain⟨xs,rfl,v⟩:=hasW_list t;obtain⟨ns,rfl⟩:=items_int v;have hlen:ns.length<=n:=by
  unfold OpenLaw.pre at m;have f:(WTm.not (.lt (.lit (.int (n:Int))) (.len (.arg 0)))).holds [] {args:=[.list (ns.map .int)]}=be:=by have f:=(holds_andW m).1;rw[hn]at f;exact f
  have p:=condW_of f (by rfl);rw[aE]at p;refine Zt1 λq=>?_;have z:(n:Int)<((ns.length:Nat):Int):=by omega
  first|simp_all|(simp at p;omega)
 cases g with|cons w x=>cases x;cases w with|list y e=>exact⟨_,_,ns,W,W,y,Q3 ns _ e,hlen⟩
theorem Q5(l:OpenLaw)(args:List WData):l.row.toRowW.claim.post args (.bool be) args=be:=postW_of (r:=l.row.toRowW) (X:=(be==be)) (by rfl) (show(WTm.eq .res (.lit (.bool be))).value [] {args:=args,res:=Z (.bool be),after:=args}=Z (.bool (be==be)) from w_eq_bool (w_res W) w_lit) W
theorem Q6{l:OpenLaw}{n:Nat}{d:DefRec}(hn:l.most=Z n)(v:d.params.defaults=[])(call:∀(w:World)(c b:aq)(p x:Str->Option Value)(h:Addr)(o:Obj)(y t doc:Value)(a:Addr)(vs:List Value)(ns:List Int),Ground q e [] N w c p x b.heap->O w b.heap-> b.heap.get? h=Z o->o.data=.func (docDef d.name d.params d.body d.scope y t doc)->b.heap.CodeRec t d.name->p d.name=Z (.ref h)-> b.heap.get? a=Z {cls:=.type "list",data:=.seq vs.toArray}->sR vs ns->ns.length<=n->b.gens= #[]-> oD (model l.prog w) qr (.call (.ref h) ⟨[.ref a],[]⟩) (λr u=>r=.ok (.ret (.bool be))/\OldK b.heap u.heap/\u.os=b.os/\mZ u.gens) b):WalkO q e N O l.row.toRowW d [] (λf vs=>NL f vs):=by intro w c b p x G Y h o y t doc Q kV T U z I A hg args J as i L hrd B hlo;obtain rfl:Q=.none:=Dflts.none I v;obtain rfl:kV=.none:=Dflts.noKw I;refine dj (Q4 hn i B) λa vs ns C E j=>bG j λm g hlen=>?_;clear j;subst C;subst E;refine enter_call (oE (call w c b p x h o y t doc a vs ns G Y T (fd_plain U) z A m g hlen hg) λr u M=>?_);refine jw M λH h2 h3 h4=>?_;clear M;subst H;exact⟨.inl ⟨.bool be,.bool be,[],W,λ_=>rfl,.bool be,Q5 l _,λ_=>⟨NM,λ_ hm=>(nomatch hm)⟩⟩,h2,h3,h4⟩
section
set_option backward.match.sparseCases true
set_option backward.match.sparseCases false
end
end Fy
namespace L2
open PySem PySem.Spec PyProof.Rows
theorem tJ:∀{vs:List Value}{ns:List Int},sR vs ns->Vals (ns.map V.int) vs|_,_,.nil=>.nil|_,_,.cons n t h=>.cons ⟨t,W⟩ (tJ h)
def zS(H:Hp):Prop:=∀b,H b=am\/∃o xs,H b=Z (.da o (.lst xs))
theorem Q7{K:av}{k:Nat}{c:aq}{vs:List Value}{ns:List Int}(KX:K.In c.heap)(y:c.heap.Ns dU M)(g:c.heap.Ns Np mb)(O:∀x:Str,x≠"__name__"->mb x=eR x)(A:c.heap.NoLimit)(hg:c.gens= #[])(N:c.heap.get? a=Z {cls:=.type "list",data:=.seq vs.toArray})(hi:sR vs ns)(hl:ns.length<=aD)(hr:bI k qr)(F:∀base:Heap,K.In base->base.Ns dU M->dm P w K M base CX k fa fd [x] sp)(t:∀(s:aq)(u:Value),yW s fd ⟨[u],[]⟩ [(x,u)])(Q:∀H:Hp,zS H->b9 K H a (ns.map V.int)->sp [.ref a] H (λv _=>v=.bl be) λ_ _ _=>False)(T:∀H e i,CX [] H c (λ_ _ _=>False) e i->False):oD (model P w) qr (.call (.ref fa) ⟨[.ref a],[]⟩) (λr i=>r=.ok (.ret (.bool be))/\OldK c.heap i.heap/\i.os=c.os/\mZ i.gens) c:=by
 have rv:=tJ hi;have B:=hi.length;have p:∀H:Hp,zS H->b9 K H a (ns.map V.int)->c5 P w H c.heap->(∀b,H b≠am->b=a)->(H a≠am->K.lookup a=am)-> oD (model P w) qr (.call (.ref fa) ⟨[.ref a],[]⟩) (λr i=>r=.ok (.ret (.bool be))/\OldK c.heap i.heap/\i.os=c.os/\mZ i.gens) c:=by
  intro H hO hS C hA hK;have f:∀{b:Addr}{o:Obj},c.heap.get? b=Z o->H b=am->(mf c.heap H).get? b=Z o:=λe n=>OS e n;have U:∀{b:Addr}{o:Obj}{es:Array DictEntry}{ep:Nat},c.heap.get? b=Z o->o.data=.dict es ep->H b=am:=λ{b o es ep} e d=>by cases q:H b with|none=>rfl|some u=>have Y:b=a:=hA b (by rw[q];simp);subst Y;rw[N]at e;(obtain rfl:=ao e);have d':Data.seq vs.toArray _=Data.dict es ep:=d;injection d'
  have j:∀{b:Addr}{m:Str->Option Value},c.heap.Ns b m->(mf c.heap H).Ns b m:=λ{b m} ⟨o,es,ep,e,d,r⟩=>⟨o,es,ep,f e (U e d),d,r⟩;have E:K.In (mf c.heap H):=λb o e=>f (KX b o e) (by cases q:H b with|none=>rfl|some u=>have Y:b=a:=hA b (by rw[q];simp);subst Y;rw[hK (by rw[q];simp)]at e;injection e);have hM:Mod K M (mf c.heap H):=⟨E,j y,⟨mb,j g,O⟩,by obtain⟨mc,h1,h2⟩:=A;exact⟨mc,j h1,h2⟩⟩;have e0:wj P w K M (mf c.heap H) qr [] c H:=⟨W,hM,λb o e=>OT e,vv (OR _ _),trivial,λb g=>absurd (show b∈([]:List Addr) from g) (by exact nofun),C,.of_eq hg⟩;refine oE ((F _ E (j y)).run qr [] c H ⟨[.ref a],[]⟩ [.ref a] [.ref a] _ _ hr e0 (t c (.ref a)) (.cons W .nil) (Q H hO hS)) λr i h=>?_;cases r with|error e=>exact(T H e i h).elim|ok fl=>cases fl with|next=>exact dD h|brk=>exact dD h|cont=>exact dD h|ret u=>refine fS h λv H' os G un I J=>bc J λr' q=>?_;clear h J;have q':v=.bl be:=q;subst q';obtain rfl:u=sF be:=r';refine⟨W,OldK.of_keep λb o e=>?_,os,G⟩;cases q:H b with|none=>exact un.keep b o e q (by intro z;exact absurd (show b∈([]:List Addr) from z) (by exact nofun)) (by exact nofun)|some u=>
     rcases hO b with z|⟨ob,xs,z⟩;·rw[q]at z;injection z
     ·have z2:=un.hD b ob _ z;obtain⟨e1,_⟩:=C b _ z;obtain⟨e2,_⟩:=I b _ z2;rw[e]at e1;(obtain rfl:=ao e1);exact e2
 cases hk:K.lookup a with|some o=>
  have e:=KX a o hk;rw[N]at e
  (obtain rfl:=ao e);refine p (λ_=>am) (λ_=>.inl W) (.inr ⟨_,vs.toArray,_,hk,W,W,W,by rw[di,B];exact hl,by simpa using rv⟩) (λb u z=>by have L:(am:Option HO)=Z u:=z;injection L) (λb z=>absurd W z) λz=>absurd W z|none=>
  refine p (λb=>if b=a then Z (.da {cls:=.type "list",data:=.seq vs.toArray} (.lst (ns.map V.int)))else am) (λb=>?_) (.inl (.inr ⟨{cls:=.type "list",data:=.seq vs.toArray},if_pos W⟩)) (λb u z=>?_) (λb z=>?_) λ_=>hk
  ·by_cases g:b=a
   ·exact .inr ⟨_,_,if_pos g⟩
   ·exact .inl (if_neg g)
  ·by_cases g:b=a
   ·have L:=(if_pos g).symm.trans z
    (obtain rfl:=ao L);subst g;exact⟨N,by rw[aE];exact hl,vs,_,rv,N⟩
   ·have L:=(if_neg g).symm.trans z;injection L
  ·by_cases g:b=a
   ·exact g
   ·exact absurd (if_neg g) z
theorem Q8{l:Zt2}{n k:Nat}{J:(Str->Option Value)->Heap->Prop}{E:World->Heap->Prop}{d:DefRec}{K:Params->av}{CX:World->iJ}{sp:World->Sp} (hn:l.most=Z n) (t:n<=aD) (y:d.params.defaults=[]) (L:bI k qr) (M:∀(w:World)(h:Heap),E w h->(K w.params).In h) (F:∀(w:World)(j:Str->Option Value)(r:Addr)(h:Heap),(K w.params).In h->h.Ns dU j->j d.name=Z (.ref r)-> ∃z:dF,(∀(s:aq)(u:Value),yW s z ⟨[u],[]⟩ [(x,u)])∧ ∀base:Heap,(K w.params).In base->base.Ns dU j->dm l.prog w (K w.params) j base (CX w) k r z [x] (sp w)) (N:∀(w:World)(H:Hp)(a:Addr)(ns:List Int),ns.length<=n->zS H->b9 (K w.params) H a (ns.map V.int)->sp w [.ref a] H (λv _=>v=.bl be) λ_ _ _=>False) (A:∀(w:World)(H:Hp)(s:aq)(e:Value)(B:aq),CX w [] H s (λ_ _ _=>False) e B->False):Zt3 q c J E l.row.toRowW d [] (λf vs=>NL f vs):=by refine Fy.Q6 hn y λw I m j mb r o pm cd doc a vs ns G Y ho hd O C p i hlen Q=>?_;have KX:=M w _ Y;obtain⟨z,U,hF⟩:=F w j r _ KX G.T.g C;exact Q7 KX G.T.g G.T.b G.T.builtins G.T.nolimit Q p i (cv hlen t) L hF U (by grind) λH e B=>A w H m e B
noncomputable def oY(s:Stmt):Arguments:=match s with|.FunctionDef _ a _ _ _ _ _ _ _ _=>a|_=>{posonlyargs:=[],args:=[],vararg:=am,kwonlyargs:=[],kw_defaults:=[],kwarg:=am,defaults:=[]}
noncomputable def iL(s:Stmt):List Stmt:=match s with|.FunctionDef _ _ b _ _ _ _ _ _ _=>b|_=>[]
noncomputable def de(s:Stmt):Scope:=match s with|.FunctionDef _ _ _ _ _ _ sc _ _ _=>sc|_=>{kind:=.function,names:=[],isGenerator:=bi,isCoroutine:=bi}
noncomputable abbrev eu:iJ:=λ_ _ _ _ _ _=>False
noncomputable abbrev E0:XK:=λ_ _ _=>False
theorem Fz:zL eu X E0:=λ_ _ _ _ _ _ _ h=>h.elim
structure kH(K:av)(x qual:Str)(st:Stmt)(f:Addr)(fd:dF):Prop where
 ex:∃(oc:Value)(od:Option Addr)(kV doc pm:Value)(an:Option Addr)(FC ct:Value)(Q9:Array (Option Value)),fd=qo x qual (oY st) (iL st) (de st) .none kV doc pm an FC ct/\K.lookup f=Z ⟨oc,od,.func fd,Q9⟩/\Dh K FC qual=be
 kp:m3 K (.ref f)=be
section
variable {P:a6}{w:World}{K:av}{mg:Str->Option Value}{base:Heap}
theorem kH.ok{st:Stmt}{ps:List Str}{k:Nat}(F:kH K x b st f p)(S:nG N ps (de st))(len:∀vs H Q E,sp vs H Q E->vs.length=ps.length) (d:∀(c:Value)(A:a_)(a:List Env)(s:aq)(H:Hp)(vs:List V)(Q:VK)(E:XK),bI k (A.deeper (g6 b (de st) s.heap.objs.size f c))->sp vs H Q E-> ∃t,fU (dA eu P w K mg base N b (de st) f c A a s H E).lB (iL st) t/\t {nx:=λ_ H'=>Q .aC H',rt:=Q} (start N vs) H):dm P w K mg base eu (k+1) f p ps sp:=by refine b_ F.ex λv y kV e=>b_ e λdoc z B g=>dj g λc C r i lk j=>?_;clear e g;subst i;refine Ff lk j S len λA a s H vs Q E u m=>?_;obtain⟨t,h,q⟩:=d c A a s H vs Q E u m;exact⟨t,h.lB,q⟩
theorem kH.binds{st:Stmt}{ps:List Str}(F:kH K x a st f p) (h:∀(kV doc e:Value)(g:Option Addr)(b i:Value)(j:List Value),j.length=ps.length->bindArgs (qo x a (oY st) (iL st) (de st) .none kV doc e g b i) ⟨j,[]⟩=pure (ps.zip j)):jC K p ps []:=by refine b_ F.ex λt u kV c=>b_ c λdoc e g d=>dj d λb i q m lk r=>?_;clear c d;subst m;exact .all (h kV doc e g b i)
theorem FD{st:Stmt}{kV:Value}(l:K.lookup f=Z ⟨i,j,.func (qo x a (oY st) (iL st) (de st) .none kV doc g e b h),d⟩) (c:Dh K b a=be) (k:m3 K (.ref f)=be):kH K x a st f (qo x a (oY st) (iL st) (de st) .none kV doc g e b h):=⟨(by grind),k⟩
end
theorem q9{A:a_}{k:Nat}(a:bI k A):A.units+1<cLine:=iG 'k' a.units
theorem FE{n:Nat}(h:n<=1000):n<aD:=iG h 'a'
section
variable {X:Cx}
theorem pv(i:Nat)(b:X.N[i]?=Z x:=by rfl)(c:dv X.env.scope x:=by first|exact sS W|exact Or.inr (sS W)|exact Or.inr (Or.inr W))(d:'f'=bi:=by decide)(a:'m'=bi:=by decide):PE X (.Name x pos) (zy i):=hH b c d a
end
def aw(H H':Hp):Prop:=∀b o,H b=Z o->H' b=Z o
theorem aw.refl(H:Hp):aw H H:=λ_ _ h=>h
theorem aw.trans(a:aw H d)(b:aw d H2):aw H H2:=λc o h=>b c o (a c o h)
theorem aw.seq{K:av}{H H':Hp}{a:Addr}{xs:List V}(e:aw H H')(h:b9 K H a xs):b9 K H' a xs:=by
 rcases h with(h|⟨o,h⟩)|h;·exact .inl (.inl (e _ _ h))
 ·exact .inl (.inr ⟨o,e _ _ h⟩)
 ·exact .inr h
section
variable {κ:Type}[DecidableEq κ]
noncomputable def gk(kvs:List (κ×V))(k:κ):Option V:=(kvs.find? λa=>decide (a.1=k)).map (·.2)
noncomputable def putK(kvs:List (κ×V))(k:κ)(v:V):List (κ×V):=if(kvs.any λa=>decide (a.1=k))=be then kvs.map (λa=>if a.1=k then(a.1,v)else a)else kvs++[(k,v)]
theorem tK{p:κ×V}{k:κ}(e:p.1=k):gk (p::r) k=Z p.2:=by simp[gk,vz,e]
theorem tL{p:κ×V}{k:κ}(e:¬p.1=k):gk (p::r) k=gk r k:=by simp[gk,vz,e]
theorem zT(k:κ):∀kvs:List (κ×V),(kvs.any λa=>decide (a.1=k))=(gk kvs k).isSome
 |[]=>rfl|p::r=>by
  rw[ky];by_cases e:p.1=k;·simp only[tK e,decide_eq_true e,Bool.true_or,Option.isSome_some]
  ·rw[tL e,decide_eq_false e,NN];exact zT k r
theorem zU(kvs:List (κ×V))(k:κ)(v:V):(putK kvs k v).length<=kvs.length+1:=by
 unfold putK;split;·rw[aE];exact i7 _
 ·rw[bB,bh,jP];exact ba _
theorem ik.q_{o:Option V}{u:Option Value}(r:ik o u):o.isSome=u.isSome:=by cases o with
 |none=>cases u with
  |none=>rfl|some _=>exact(show False from r).elim
 |some _=>cases u with|none=>exact(show False from r).elim|some _=>rfl
theorem KV.val(r:KV kvs vs)(k:κ):ik (gk kvs k) (sT vs k):=by unfold KV at r;induction r with|nil=>exact kz|@cons p q ps a h t f=>
  obtain⟨d,g⟩:=h;by_cases e:p.1=k
  ·have c:q.1=k:=d.symm.trans e;have b:sT (q::a) k=Z q.2:=by simp[sT,vz,c]
   rw[tK e,b];exact g
  ·have c:¬q.1=k:=λz=>e (d.trans z);have b:sT (q::a) k=sT a k:=by simp[sT,vz,c]
   rw[tL e,b];exact f
theorem KV.any{kvs:List (κ×V)}{vs:List (κ×Value)}(r:KV kvs vs)(k:κ):(kvs.any λa=>decide (a.1=k))=vs.any λa=>decide (a.1=k):=by unfold KV at r;induction r with|nil=>rfl|cons h t b=>rw[ky,ky,b,h.1]
theorem KV.zV{kvs:List (κ×V)}{vs:List (κ×Value)}(r:KV kvs vs)(k:κ)(c:RelV y u):KV (kvs.map λa=>if a.1=k then(a.1,y)else a) (vs.map λa=>if a.1=k then(a.1,u)else a):=by unfold KV at r⊢;induction r with|nil=>exact .nil|@cons p q ps g h t d=>
  rw[br,br];refine .cons ?_ d;obtain⟨b,f⟩:=h;by_cases e:p.1=k;·rw[if_pos e,if_pos (b.symm.trans e)];exact⟨b,c⟩
  ·rw[if_neg e,if_neg (λz=>e (b.trans z))];exact⟨b,f⟩
theorem KV.put(r:KV kvs vs)(k:κ)(a:RelV y u):KV (putK kvs k y) (stored vs k u):=by
 unfold putK stored;rw[r.any k];by_cases e:(vs.any λb=>decide (b.1=k))=be;·rw[if_pos e,if_pos e];exact r.zV k a
 ·rw[if_neg e,if_neg e];exact Zt4 r ⟨W,a⟩
theorem KV.keys{kvs:List (κ×V)}{vs:List (κ×Value)}(r:KV kvs vs):kvs.map (·.1)=vs.map (·.1):=by unfold KV at r;induction r with|nil=>rfl|cons h t a=>rw[br,br,a,h.1]
theorem KV.length{kvs:List (κ×V)}{vs:List (κ×Value)}(r:KV kvs vs):kvs.length=vs.length:=C7 r
end
theorem ra(r:RelV (kV k) u):(gP P w).is k u=be:=by cases k with|inl i=>obtain⟨t,e⟩:=(show ∃t,u=yR i t from r);subst e;exact OO P w i t|inr x=>obtain⟨t,e⟩:=(show ∃t,u=ko x t from r);subst e;exact OP P w x t
theorem FG:∀{ks:List Key}{a:List Value},Vals (ks.map kV) a->ItemsAre (gP P w) ks a|[],_,r=>by rw[vu]at r;cases r;exact .nil|k::ks,_,r=>by rw[br]at r;cases r with|cons h t=>exact .cons (ra h) (FG t)
noncomputable abbrev KT(H:Hp):List (List Key×V)->List (List Key×Addr×Value)->Prop:=sI λp q=>p.1=q.1/\H q.2.1=Z (.tup (p.1.map kV))/\RelV p.2 q.2.2
theorem KT.val(r:KT H kvs xs)(k:List Key):ik (gk kvs k) ((atKey xs k).map (·.2)):=by induction r with|nil=>exact kz|@cons p q ps a h t f=>
  obtain⟨d,_,g⟩:=h;by_cases e:p.1=k
  ·have c:q.1=k:=d.symm.trans e;have b:atKey (q::a) k=Z q.2:=by simp[atKey,vz,c]
   rw[tK e,b];exact g
  ·have c:¬q.1=k:=λz=>e (d.trans z);have b:atKey (q::a) k=atKey a k:=by simp[atKey,vz,c]
   rw[tL e,b];exact f
theorem KT.zV{kvs:List (List Key×V)}{xs:List (List Key×Addr×Value)}(r:KT H kvs xs)(k:List Key)(d:RelV y u):KT H (kvs.map λb=>if b.1=k then(b.1,y)else b) (xs.map (putAt k u)):=by induction r with|nil=>exact .nil|@cons p q ps i h t f=>
  rw[br,br];refine .cons ?_ f;obtain⟨a,c,g⟩:=h;unfold putAt;by_cases e:p.1=k;·rw[if_pos e,if_pos (a.symm.trans e)];exact⟨a,c,d⟩
  ·rw[if_neg e,if_neg (λz=>e (a.trans z))];exact⟨a,c,g⟩
theorem KT.put(r:KT H kvs xs)(k:List Key)(c:H b=Z (.tup (k.map kV)))(a:RelV y u):KT H (putK kvs k y) (qs xs k b u):=by
 have e:(kvs.any λd=>decide (d.1=k))=(atKey xs k).isSome:=by rw[zT,(r.val k).q_,Dr]
 unfold putK qs;rw[e];by_cases q:(atKey xs k).isSome=be;·rw[if_pos q,if_pos q];exact r.zV k a
 ·rw[if_neg q,if_neg q];exact Zt4 r ⟨W,c,a⟩
theorem KT.keeps(r:KT H kvs xs)(a:∀b ys,H b=Z (.tup ys)->H' b=Z (.tup ys)):KT H' kvs xs:=Paired.Ex r λ_ _ z=>⟨z.1,a _ _ z.2.1,z.2.2⟩
section
variable {P:a6}{w:World}{H:Hp}{h:Heap}{a:Addr}
theorem FH(ok:c5 P w H h)(e:Rd H a u):dG P w H h a u:=e.ok ok
theorem oZ{kvs:List (Key×V)}(ok:c5 P w H h)(e:Rd H a (.dK kvs)):kvs.length<=aD/\(a==ku)=bi/\∃vs,KV kvs vs/\h.DictOf (gP P w) a vs:=show dG P w H h a (.dK kvs) from FH ok e
theorem FI{kvs:List (Key×V)}(ok:c5 P w H h)(e:H a=Z (.dK kvs)):kvs.length<=aD/\(a==ku)=bi/\∃vs,KV kvs vs/\h.DictOf (gP P w) a vs:=oZ ok (.inl e)
theorem tM{ks:List Key}(ok:c5 P w H h)(e:H a=Z (.tup (ks.map kV))):(yS (gP P w)).is h ks a:=by refine bc ((show dG P w H h a (.tup (ks.map kV)) from ok a _ e)) λ_ b=>a9 b λf r c=>aM c λo g i d=>gH d λn j=>?_;clear b c d;exact⟨o,f.toArray,n,g,i,j,by simpa using FG r⟩
theorem tN{kvs:List (List Key×V)}(ok:c5 P w H h)(e:Rd H a (.dT kvs)):kvs.length<=aD/\(a==ku)=bi∧ ∃xs,KT H kvs xs/\h.DictOfH (yS (gP P w)) a xs:=by
 refine bG ((show dG P w H h a (.dT kvs) from FH ok e)) λz y b=>a9 b λxs r c=>dj c λo es ep g i d=>bG d λj u v=>?_;clear b c d;refine⟨z,y,xs,r,o,es,ep,g,i,j,u,λx hx=>?_,v⟩;have all:∀{l:List (List Key×V)}{m:List (List Key×Addr×Value)},KT H l m->∀x∈m,(yS (gP P w)).is h x.1 x.2.1:=by intro l m q;induction q with|nil=>intro x hx;exact nomatch hx|@cons p q ps B f t A=>
   intro x hx;rcases a7.mp hx with e|hx;·subst e;exact tM ok (by rw[<-f.1];exact f.2.1)
   ·exact A x hx
 exact all r x hx
theorem Q_{kvs:List (List Key×V)}(ok:c5 P w H h)(e:H a=Z (.dT kvs)):kvs.length<=aD/\(a==ku)=bi∧ ∃xs,KT H kvs xs/\h.DictOfH (yS (gP P w)) a xs:=tN ok (.inl e)
end
def rb(H:Hp)(a:Addr)(y:V)(r:Option V):Prop:=(∃kvs k,Rd H a (.dK kvs)/\y=kV k/\r=gk kvs k)\/∃kvs k b,Rd H a (.dT kvs)/\y=.ref b/\H b=Z (.tup (k.map kV))/\r=gk kvs k
def rd(H:Hp)(a:Addr)(y v:V)(H':Hp):Prop:=(∃kvs k,H a=Z (.dK kvs)/\y=kV k/\kvs.length<aD/\H'=upd H a (.dK (putK kvs k v)))∨ ∃kvs k b,H a=Z (.dT kvs)/\y=.ref b/\H b=Z (.tup (k.map kV))/\kvs.length<aD/\H'=upd H a (.dT (putK kvs k v))
theorem rd.k{kvs:List (Key×V)}{k:Key}(e:H a=Z (.dK kvs))(b:kvs.length<aD):rd H a (kV k) v (upd H a (.dK (putK kvs k v))):=.inl ⟨kvs,k,e,W,b,W⟩
section
variable {X:Cx}{zK:List (Addr × Obj)}{σ:St}{H:Hp}{s:aq}{a:Addr}{y v:V}{u r:Value}{o:Option V}{A:a_}{E:Value->aq->Prop}
theorem Inv.big(I:Inv X zK σ H s):ku<s.heap.objs.size:=by have h:dU<s.heap.objs.size:=(I.mod.glob.keeps I.bk).lt;exact l8 'a' h
theorem Zip(x:A.units+1<cLine)(I:Inv X zK σ H s)(g:rb H a y (Z v))(q:RelV y u)(h:∀i t,Inv X zK σ H t->RelV v i->Q i t):wpAny 'b' A (lj (.ref a) u) Q E s:=by
 rcases g with⟨kvs,k,e,j,l⟩|⟨kvs,k,b,e,j,B,l⟩;·subst j;refine bG (oZ I.aR e) λz C c=>a9 c λvs d dd=>?_;clear c;obtain⟨i,hw,f⟩:=ik.some_of (v:=v) (o:=sT vs k) (by rw[l];exact d.val k);exact wpAny_getItem_of (ra q) dd.mapOf hw (h i _ (I.tok _) f)
 ·subst j;cases(show u=eQ b from q);refine bG (tN I.aR e) λz C c=>a9 c λxs d dd=>?_;clear c;obtain⟨i,hw,f⟩:=ik.some_of (v:=v) (o:=(atKey xs k).map (·.2)) (by rw[l];exact d.val k);obtain⟨p,G,m⟩:=bu.mp hw;refine Zt5 (Ds x) (tM I.aR B) dd G ?_;rw[m];exact h i _ (I.tok _) f
theorem zW(p:A.units+1<cLine)(I:Inv X zK σ H s)(g:rb H a y o)(j:RelV y u)(h:∀m,Inv X zK σ H m->Q (.bool o.isSome) m):wpAny 'b' A (dE .In u (.ref a)) Q E s:=by
 rcases g with⟨kvs,k,e,f,l⟩|⟨kvs,k,b,e,f,t,l⟩;·subst f;refine bG (oZ I.aR e) λz i c=>a9 c λvs d dd=>?_;clear c;refine wpAny_in_of (ra j) i dd.mapOf ?_;rw[<-(d.val k).q_,<-l];exact h _ (I.tok _)
 ·subst f;cases(show u=eQ b from j);refine bG (tN I.aR e) λz i c=>a9 c λxs d dd=>?_;clear c;refine wpAny_in_heap (Ds p) (tM I.aR t) i dd ?_;have q:=(d.val k).q_;rw[Dr]at q;rw[<-q,<-l];exact h _ (I.tok _)
theorem Ra(p:A.units+1<cLine)(I:Inv X zK σ H s)(g:rb H a y o)(j:RelV y u)(h:∀m,Inv X zK σ H m->Q (.bool (!o.isSome)) m):wpAny 'b' A (dE .NotIn u (.ref a)) Q E s:=by
 rcases g with⟨kvs,k,e,f,l⟩|⟨kvs,k,b,e,f,t,l⟩;·subst f;refine bG (oZ I.aR e) λz i c=>a9 c λvs d dd=>?_;clear c;refine wpAny_notIn_of (ra j) i dd.mapOf ?_;rw[<-(d.val k).q_,<-l];exact h _ (I.tok _)
 ·subst f;cases(show u=eQ b from j);refine bG (tN I.aR e) λz i c=>a9 c λxs d dd=>?_;clear c;refine Zt6 (Ds p) (tM I.aR t) i dd ?_;have q:=(d.val k).q_;rw[Dr]at q;rw[<-q,<-l];exact h _ (I.tok _)
theorem wy{h':Heap}(I:Inv X zK σ H s)(d:tq (H a))(f:m2 a s.heap h')(g:∃q,h'.get? a=Z q)(new:dG X.prog X.w (upd H a c) h' a c):Inv X zK σ (upd H a c) {s with heap:=h',toks:=t'}:=I.write (x:=a) (e:=a) d (.inl W) (λb q h z=>(f.2 b h).trans z) g new
theorem FJ{h':Heap}{kvs:List (Key×V)}(z:kvs.length<=aD)(c:(a==ku)=bi)(b:KV kvs vs)(dd:h'.DictOf (gP P w) a vs):dG P w H' h' a (.dK kvs):=⟨z,c,vs,b,dd⟩
theorem Rb(N:A.units+1<cLine)(I:Inv X zK σ H s)(g:rd H a y v H')(C:RelV y u)(G:RelV v r)(h:∀J,Inv X zK σ H' J->Q () J):wpAny 'b' A (setItem (.ref a) u r) Q E s:=by
 rcases g with⟨kvs,k,e,m,l,p⟩|⟨kvs,k,b,e,m,L,l,p⟩
 ·subst m p;refine bG (FI I.aR e) λz t d=>a9 d λvs f dd=>?_;clear d;have hz:vs.length<=aD:=by rw[<-f.length];exact z
  have x:(putK kvs k v).length<=aD:=by have:=zU kvs k v;lia
  refine wpAny_setItem_pairs (hsz:=hz) (ra C) dd λh' i B=>h _ ?_;have O:∃q,h'.get? a=Z q:=by obtain⟨q,_,_,j,_⟩:=i;exact⟨q,j⟩
  exact wy I (by rw[e];exact kz) B O (FJ x t (f.put k G) i)
 ·subst m p;cases(show u=eQ b from C);refine bG (Q_ I.aR e) λz t d=>a9 d λxs f dd=>?_;clear d;have hz:xs.length<=aD:=by rw[<-C7 f];exact z
  have x:(putK kvs k v).length<=aD:=by have:=zU kvs k v;lia
  refine Zt7 (hsz:=hz) (Ds N) (tM I.aR L) dd λh' i B=>h _ ?_;refine dj i λq es ep j T d=>jw d λU Y _ h5=>?_;clear i d;refine wy I (by rw[e];exact kz) B ⟨q,j⟩ ⟨x,t,_,(f.put k L G).keeps λc ys M=>?_,q,es,ep,j,T,U,Y,h5⟩;rw[bf (Ew M e (λz=>nomatch z))];exact M
end
section
variable {X:Cx}{zK:List (Addr × Obj)}{σ:St}{H:Hp}{s:aq}{a:Addr}{kvs:List (Key × V)}{A:a_}{E:Value->aq->Prop}
theorem FK(I:Inv X zK σ H s)(e:Rd H a (.dK kvs))(h:∀t d,Inv X zK σ H d->Q (.int kvs.length t) d):wpAny 'b' A (call (.builtin "len") [.ref a]) Q E s:=by refine bG (oZ I.aR e) λz f b=>a9 b λvs c dd=>?_;clear b;refine call_len_dict f dd (by rw[<-c.length];rw[sN]at z;lia) ?_;rw[<-c.length];exact h _ _ (I.tok _)
end
def FL(i:Expr):Prop:=∀a b,y1 i bi a b=operate [a,b] (lj a b)
theorem FN{prog:a6}{A:a_}{E:Value->aq->Prop}{s:aq}{g:Env}{b a:Expr}{T id:String}{Q:Value->aq->Prop} (t:vr (.type T) "__getitem__"=pure (Z (.builtin id))) (u:FL a) (h:wpAny 'h' A (eval b g) (λo e=>wpAny 'h' A (eval a g) (λi c=>c.TypeIs o T/\wpAny 'h' A (lj o i) Q E c) E e) E s):wpAny 'h' A (eval (.Subscript b a pos) g) Q E s:=by
 refine Subscript_ (i5 h (λo e m=>i5 m (λi c d=>?_) λ_ _ x=>x) λ_ _ x=>x);obtain⟨q,d⟩:=d;unfold NI;refine gV ?_;rw[getitemInPython_of_ne q.not_modules];refine gV (sU q t ?_);have j:wpAny 'h' A (y1 a bi o i) (λr f=>wpAny 'h' A (letTemporaryGo b o r>>=λ_=>pure r) Q E f) E c:=by rw[u o i];exact wpAny_operating (i5 d (λr f p=>gV (wpAny_letTemporaryGo (Zy1 p))) λ_ _ x=>x)
 first|exact Zy1 (gV j)|exact gV (Zy1 (gV j))|exact gV j
theorem Rc{s:aq}(I:Inv X zK σ H s)(g:rb H a y o):s.TypeIs (.ref a) "dict":=by
 rcases g with⟨kvs,k,e,_,_⟩|⟨kvs,k,b,e,_,_,_⟩;·refine bG (oZ I.aR e) λ_ _ c=>a9 c λvs _ dd=>?_;clear c;exact dd.typeIs
 ·refine bG (tN I.aR e) λ_ _ c=>a9 c λxs _ dd=>?_;clear c;exact dd.typeIs
noncomputable def Rf(b c:TE):TE:=λσ H Q=>b σ H λx d=>c σ d λy H2=>∃a v,x=.ref a/\rb H2 a y (Z v)/\Q v H2
noncomputable def Rg(c d e:TE):TS:=λD σ H=>e σ H λv f=>c σ f λx H2=>d σ H2 λy g=>∃a b,x=.ref a/\rd g a y v b/\D.nx σ b
section
variable {X:Cx}{o i value:Expr}{pos pos':Pos}{td ty tv:TE}
theorem Rh(d:X.A.units+1<cLine)(f:PE X o td)(j:PE X i ty)(m:FL i):PE X (.Subscript o i pos) (Rf td ty):=by intro zK s σ H Q I h;refine FN Zt8.lookup m (aT (f zK s σ H _ I h) λu p ⟨x,q,r,t,w⟩=>aT (j zK p σ q _ r w) λJ L z=>?_);obtain⟨y,H2,c,B,a,v,C,g,E⟩:=z;subst C;obtain rfl:u=eQ a:=t;exact⟨Rc c g,Zip d c g B λM N G b=>⟨v,H2,G,b,E⟩⟩
theorem Ri(b:X.A.units+1<cLine)(c:PE X o td)(d:PE X i ty)(f:PE X value tv)(j:eY value (Z (.Subscript o i pos')) pos.line X.env=pure bi):PS X (.Assign [.Subscript o i pos'] value pos) (Rg td ty tv):=by intro zK s σ H D I h;refine wpAny_Assign_Subscript (aT (f zK s σ H _ I h) λr m ⟨v,p,q,t,w⟩=>aT (c zK m σ p _ q w) λu z ⟨x,H2,B,C,E⟩=>aT (d zK z σ H2 _ B E) λT U G=>?_) j;obtain⟨y,Y,J,L,a,M,N,g,O⟩:=G;subst N;obtain rfl:u=eQ a:=C;exact Rb b J g L t λs4 Q=>⟨σ,M,Q,O⟩
end
theorem Rj(h:Heap)(a:ku<h.objs.size):dG P w H (h.push {cls:=.type "dict",data:=.dict #[]}) h.objs.size (.dK []):=⟨dQ _,beq_eq_false_iff_ne.mpr (b6 (b5 a)),[],.nil,Heap.DictOf.new h⟩
def Rk:TE:=λ_ H Q=>∀p,H p=am->Q (.ref p) (upd H p (.dK []))
section
variable {X:Cx}{pos:Pos}
theorem Rl:PE X (.Dict [] [] pos) Rk:=λzK s σ H Q I h=> wpAny_Dict_empty ⟨.ref s.heap.objs.size,_,I.laid (a:=s.heap.objs.size) (o:=.dK []) (t':=s.toks) (λ_ _ q=>bR _ q) (ba _) (Rj s.heap I.big),W,h _ (I.aR.fresh (ba _))⟩
end
noncomputable def zX:List (TE×TE)->St->Hp->(List (V×V)->Hp->Prop)->Prop|[],_,H,Q=>Q [] H|(tk,a)::r,σ,H,Q=>tk σ H λx b=>a σ b λy H2=>zX r σ H2 λps c=>Q ((x,y)::ps) c
noncomputable abbrev VV:List (V×V)->List (Value×Value)->Prop:=sI λp q=>RelV p.1 q.1/\RelV p.2 q.2
def zY(X:Cx)(pos:Pos)(keys:List (Option Expr))(a:List Expr)(b:List (TE×TE)):Prop:=∀(zK:List (Addr×Obj))(s:aq)(σ:St)(H:Hp)(Q:List (V×V)->Hp->Prop),Inv X zK σ H s->zX b σ H Q-> wpAny 'b' X.A (evalPairs (pairTrees keys a X.env pos)) (λvs c=>∃ps H',Inv X zK σ H' c/\VV ps vs/\Q ps H') X.xe s
theorem Rm:zY X pos [] [] []:=λzK s σ H Q I h=>pairTrees_nil_walk ⟨[],H,I,.nil,h⟩
theorem Ro(c:PE X k tk)(d:PE X v e)(f:zY X pos ks vs a):zY X pos (Z k::ks) (v::vs) ((tk,e)::a):=λzK s σ H Q I h=> pairTrees_cons_walk (aT (c zK s σ H _ I h) λu g ⟨x,i,j,m,p⟩=>aT (d zK g σ i _ j p) λC q ⟨y,H2,r,t,w⟩=> aT (f zK q σ H2 _ r w)<|by rintro ws E ⟨ps,z,A,b,B⟩;exact⟨(x,y)::ps,z,A,.cons ⟨m,t⟩ b,B⟩)
end L2
namespace DL
open PySem PySem.Spec PyProof.Rows L2
inductive D where|aC|bl (b:Bool)|int (i:Int)|str (x:Str)|tup (xs:List D)|lst (xs:List D)|bJ (ns:List Int)|aW (ks:List Key) (vs:List D)|tab (ks vs:List D)
noncomputable def fV:Nat->Heap->Value->D->Prop|n+1,h,.ref b,.tup ds=>∃a:List Value,IsTup h b a.toArray/\a.length=ds.length/\∀p∈a.zip ds,fV n h p.1 p.2|_+1,_,.int i _,.int j=>i=j|_+1,_,.str x _,.str y=>x=y|_,_,_,_=>False
theorem IsTup.inj{x y:List Value}(a:IsTup h b x.toArray)(c:IsTup h b y.toArray):x=y:=by refine aM a λo e _ d=>gH d λn q=>?_;clear a d;refine aM c λf g _ d=>gH d λi j=>?_;clear c d;simp_all
theorem FP{c d:Type}{R:c->d->Prop}(hR:∀a x y,R a x->R a y->x=y):∀{l:List c}{xs ys:List d},l.length=xs.length->l.length=ys.length->(∀p∈l.zip xs,R p.1 p.2)->(∀p∈l.zip ys,R p.1 p.2)->xs=ys|[],[],[],_,_,_,_=>rfl|a::l,x::xs,y::ys,e,h,f,g=>by have:=FP hR (l:=l) (xs:=xs) (ys:=ys) (by grind) (by grind) (λp b=>f p (by simp[b])) λp b=>g p (by simp[b]);rw[this,hR a x y (f (a,x) (by exact .head _)) (g (a,y) (by exact .head _))]
theorem fV.inv{n:Nat}(a:fV n h v d):(∃m b ds c,n=m+1/\v=.ref b/\d=.tup ds/\IsTup h b (c:List Value).toArray/\c.length=ds.length/\∀p∈c.zip ds,fV m h p.1 p.2)\/(∃i t,v=.int i t/\d=.int i)\/∃x t,v=.str x t/\d=.str x:=by cases n with|zero=>exact dD a|succ n=>cases v with
  |ref b=>cases d with|tup ds=>obtain⟨c,q⟩:=a;exact .inl ⟨n,b,ds,c,W,W,W,q⟩|_=>exact dD a
  |int i t=>cases d with|int j=>exact .inr (.inl ⟨i,t,W,congrArg D.int (Dt a)⟩)|_=>exact dD a
  |str x t=>cases d with
   |str y=>exact .inr (.inr ⟨x,t,W,congrArg D.str (Dt a)⟩)|_=>exact dD a
  |_=>exact dD a
theorem fV.inj(n:Nat):∀(v:Value)(x y:D),fV n h v x->fV n h v y->x=y:=by induction n with|zero=>exactλ_ _ _ a _=>dD a|succ n d=>
  intro v x y a c;rcases a.inv with⟨m,b,ds,i1,e,rfl,rfl,t1,l1,f⟩|⟨i,t,rfl,rfl⟩|⟨i,t,rfl,rfl⟩<;>rcases c.inv with⟨r,u,g,i2,j,ev,rfl,t2,l2,p⟩|⟨q,t',ev,rfl⟩|⟨q,t',ev,rfl⟩<;>cases ev;·cases e;cases j;cases IsTup.inj t1 t2;rw[FP d l1 l2 f p]
  ·rfl
  ·rfl
theorem fV.keeps(k:∀b c,IsTup h b c->IsTup h' b c)(n:Nat):∀(v:Value)(x:D),fV n h v x->fV n h' v x:=by induction n with|zero=>exactλ_ _ a=>dD a|succ n d=>
  intro v x a;rcases a.inv with⟨m,b,ds,i1,e,rfl,rfl,t1,l1,f⟩|⟨i,t,rfl,rfl⟩|⟨i,t,rfl,rfl⟩;·cases e;exact⟨i1,k _ _ t1,l1,λp g=>d _ _ (f p g)⟩
  ·rfl
  ·rfl
noncomputable instance:DecidableEq D:=λ_ _=>vA _
theorem Rp{xs ys:List D}{n:Nat}(c:n=xs.length)(d:m=ys.length):((eG (min n m)).all (λj=>decide (xs[j]?=ys[j]?))&&n==m)=decide (D.tup xs=D.tup ys):=by
 subst c d;rw[jQ,cJ,g7,decide_eq_true_eq,beq_iff_eq];constructor;·rintro⟨a,b⟩;congr 1;refine Du λj=>?_;grind
 ·intro h;cases h;simp
theorem wz{a b:Type}{l:List a}{xs:List b}(h:j<l.length)(c:l.length=xs.length):∃x,xs[j]?=Z x/\(l[j],x)∈l.zip xs:=by refine⟨xs[j]''d',cy (by grind),?_⟩;rw[<-Zt9 (h:=by simp;lia)];grind
theorem FT{s:aq}:∀(n:Nat){A:a_}{u v:Value}{x y:D},A.units+n<cLine->fV n s.heap u x->fV n s.heap v y->m7 A s u v (decide (x=y))
 |0,A,u,v,x,y,_,a,_=>dD a|n+1,A,u,v,x,y,E,a,c=>by
  have d:A.units<cLine:=by lia
  rcases a.inv with⟨m,b,xs,i1,e,rfl,rfl,t1,l1,f⟩|⟨i,t,rfl,rfl⟩|⟨i,t,rfl,rfl⟩<;>rcases c.inv with⟨G,g,ys,i2,h,rfl,rfl,t2,l2,p⟩|⟨j,t',rfl,rfl⟩|⟨j,t',rfl,rfl⟩;rotate_left;·rw[decide_eq_false (by exact D.noConfusion)];exact Zt_ _ _ t1 d
  ·rw[decide_eq_false (by exact D.noConfusion)];exact Zua _ _ t1 d
  ·rw[decide_eq_false (by exact D.noConfusion)];exact Zub _ _ t2 d
  ·rw[show decide (D.int i=D.int j)=(i==j) from jQ.mpr (decide_eq_true_iff.trans (.trans ⟨D.int.inj,congrArg _⟩ beq_iff_eq.symm))];exact Zuc i t j t'
  ·rw[decide_eq_false (by exact D.noConfusion)];exact Nl _ _ _ _
  ·rw[decide_eq_false (by exact D.noConfusion)];exact Zud _ _ t2 d
  ·rw[decide_eq_false (by exact D.noConfusion)];exact Nm _ _ _ _
  ·rw[show decide (D.str i=D.str j)=(i==j) from jQ.mpr (decide_eq_true_iff.trans (.trans ⟨D.str.inj,congrArg _⟩ beq_iff_eq.symm))];exact Zue i t j t'
  ·cases e;cases h;by_cases e:b=g
   ·subst e;rw[decide_eq_true (fV.inj (n+1) _ _ _ a c)];exact Zuf _
   refine SeqAt.EqAt.of_refs e ?_;rw[<-Rp (n:=i1.toArray.size) (m:=i2.toArray.size) (by simpa using l1) (by simpa using l2)];refine Zug t1 t2 d λj q r=>?_;obtain⟨x,w,z⟩:=wz (by simpa using q) l1;obtain⟨y,B,C⟩:=wz (by simpa using r) l2;rw[w,B,show decide (Z x=Z y)=decide (x=y) by rw[jQ];simp];exact FT n 'd' (f _ z) (p _ C)
theorem FU{s:aq}:∀(n:Nat){v:Value}{x:D}{Q:Bool->aq->Prop},fV n s.heap v x->Q be s->wpAny (model P w) A (eqIsQuiet n v) Q E s
 |0,v,x,Q,a,_=>dD a|n+1,v,x,Q,a,h=>by
  rcases a.inv with⟨m,b,ds,f,e,rfl,rfl,t,l1,r⟩|⟨i,t,rfl,rfl⟩|⟨i,t,rfl,rfl⟩;rotate_left;·rw[Zuh _ W];exact Zy1 h
  ·rw[Zuh _ W];exact Zy1 h
  cases e;have B:=t.typeIs;refine aM t λo C _ g=>gH g λm G=>?_;clear t g;unfold eqIsQuiet;refine gV (sU B F.slot_tuple_eq.lookup ?_);show wpAny _ _ (NO (.ref _) (.type "tuple")>>=_) _ _ s;refine gV (y4 B isSubtype_tuple_tuple ?_);simp only[Dv,ll,if_false];refine gV (y6 C G ?_);refine gV ?_;show wpAny _ _ (forIn f.toArray _ _) _ _ s;rw[<-Zui];refine Zuj _ (λrest r p=>r.1=am/\p=s/\∀v∈rest,∃d,fV n s.heap v d) _ ?_ ?_ _ _ ⟨W,W,λv I=>?_⟩;·rintro v rest r p ⟨y,rfl,c⟩;obtain⟨d,q⟩:=c v bE;refine gV (FU n q ?_);simp only[Dv,ll,if_false];exact Zy1 ⟨W,W,λu z=>c u (cx _ z)⟩
  ·rintro⟨J,L⟩ p ⟨y,rfl,_⟩;simp only at y;subst y;exact Zy1 h
  ·obtain⟨j,H,rfl⟩:=Zuk.mp (show v∈f by omega);obtain⟨x,_,q⟩:=wz H l1;grind
noncomputable def lE(w:World):Nat->D->Int|_,.int i=>hashInt i|_,.str x=>k_ w x|n+1,.tup ds=>NP (sV (ds.map (lE w n)))|_,_=>0
noncomputable def tO:Nat->D->Nat|n+1,.tup ds=>(ds.map (tO n)).sum+1|_,_=>1
theorem FV:∀(n:Nat){A:a_}{E:Value->aq->Prop}{s:aq}{v:Value}{x:D}{Q:Int->aq->Prop},A.units+n<cLine->fV n s.heap v x->Q (lE w n x) {s with toks:=s.toks+tO n x}->wpAny (model P w) A (pyHash v) Q E s
 |0,A,E,s,v,x,Q,_,a,_=>dD a|n+1,A,E,s,v,x,Q,G,a,h=>by
  rcases a.inv with⟨m,b,ds,y,e,rfl,rfl,t,l1,r⟩|⟨i,t,rfl,rfl⟩|⟨i,t,rfl,rfl⟩;rotate_left;·exact ZtB h
  ·exact ZtC h
  cases e;have d:=t.typeIs;refine aM t λo z _ c=>gH c λm B=>?_;clear t c;unfold pyHash;first|unfold pyHashByItsType|skip
  first|refine gV (wpAny_cRoomFor_or (.inr 'd') ?_)|skip
  refine gV (sU d Dw.lookup ?_);show wpAny _ _ (if(Z (y7 "tuple.__hash__")==Z dC)=be then _ else _) Q E s;rw[if_neg (by rw[beq_builtin_none];exact ei)];refine gV (sU d Dw.lookup ?_);show wpAny _ _ (callSpecialIfBoundUnlessNone? (.ref _) "__hash__" _>>=_) Q E s;refine gV (wpAny_callSpecialIfBoundUnlessNone?_slot d Dw (jt Dw d F.entry_tuple_hash ?_ (F.args_tuple_hash_1 _)));show wpAny _ _ (NH (.ref _)>>=_) _ _ s;refine gV (wpAny_tupleItemsOf z B ?_);refine gV ?_;rw[<-Zui];refine Zuj _ (λrest (b:Array Int) g=>∃done left,ds=done++left/\rest.length=left.length/\(∀p∈rest.zip left,fV n s.heap p.1 p.2)/\b.toList=done.map (lE w n)/\g={s with toks:=s.toks+(done.map (tO n)).sum}) _ ?_ ?_ _ _ ⟨[],ds,W,by omega,by simpa using r,W,W⟩;·rintro x rest b g ⟨done,left,rfl,l,j,q,rfl⟩;cases left with|nil=>simp at l|cons k u=>refine gV (FV n (by grind) (j (x,k) (by exact .head _)) ?_);exact Zy1 ⟨done++[k],u,by simp,by simpa using l,λp C=>j p (by simp[C]),by simp[q],by simp[vB]⟩
  ·rintro b g ⟨done,left,rfl,l,j,q,rfl⟩;have:left=[]:=by cases left<;>simp_all
   subst this;rw[eZ]at h;show wpAny _ _ (retInt (sV b.toList)) _ _ _;rw[q];refine wpAny_ret_mkInt ?_;show wpAny _ _ (if(decide (-(2:Int)^63<=sV (done.map (lE w n)))&&decide (sV (done.map (lE w n))<2^63))=be then _ else _) Q E _
   replace h:Q (NP (sV (done.map (lE w n)))) {s with toks:=s.toks+((done.map (tO n)).sum+1)}:=h;unfold NP at h;by_cases f:(decide (-(2:Int)^63<=sV (done.map (lE w n)))&&decide (sV (done.map (lE w n))<2^63))=be
   ·rw[if_pos f];rw[if_pos f]at h;exact Zy1 (by simpa [vB]using h)
   ·rw[if_neg f];rw[if_neg f]at h;exact gV (wpAny_rule (Zy1 (by simpa [vB]using h)))
theorem Rq{h:Heap}{o:Obj}(j:h.get? d=Z o)(m:o.data=.dict es ep)(g:m2 d h h')(b:Addr)(a:Array Value)(x:IsTup h b a):IsTup h' b a:=by refine aM x λi e c f=>gH f λn q=>?_;clear x f;refine⟨i,(g.2 b ?_).trans e,c,n,q⟩;grind
def tP(P:a6)(w:World):HeapKind P w D where
 is:=λh d a=>fV 8 h (.ref a) d
 hash:=lE w 8
 draws:=tO 8
 room:=λA=>A.units+8<cLine
 inj:=λa b=>fV.inj 8 _ _ _ a b
 keeps:=λa e f g=>fV.keeps (Rq e f g) 8 _ _ a
 pyHash:=λc a h=>FV 8 c a h
 eqBool:=λc a b h=>FT 8 c a b _ _ _ _ h
 quiet:=λa h=>FU 8 a h
noncomputable def d7(K:av)(T:Addr->Option (List V)):Nat->V->D->Prop|n+1,.ref b,.tup ds=>∃xs,(T b=Z xs\/cF K (λ_=>am) b xs)/\xs.length=ds.length/\∀p∈xs.zip ds,d7 K T n p.1 p.2|_+1,.int i,.int j=>i=j|_+1,.str x,.str y=>x=y|_,_,_=>False
theorem d7.inv{K:av}{T:Addr->Option (List V)}{n:Nat}{v:V}(a:d7 K T n v d):(∃m b ds xs,n=m+1/\v=.ref b/\d=.tup ds/\(T b=Z xs\/cF K (λ_=>am) b xs)/\xs.length=ds.length/\∀p∈xs.zip ds,d7 K T m p.1 p.2)\/(∃i m,n=m+1/\v=.int i/\d=.int i)\/∃x m,n=m+1/\v=.str x/\d=.str x:=by cases n with|zero=>exact dD a|succ n=>cases v with
  |ref b=>cases d with|tup ds=>obtain⟨xs,q⟩:=a;exact .inl ⟨n,b,ds,xs,W,W,W,q⟩|_=>exact dD a
  |int i=>cases d with|int j=>exact .inr (.inl ⟨i,n,W,W,congrArg D.int (Dt a)⟩)|_=>exact dD a
  |str x=>cases d with
   |str y=>exact .inr (.inr ⟨x,n,W,W,congrArg D.str (Dt a)⟩)|_=>exact dD a
  |_=>exact dD a
theorem d7.mono{K:av}{T c:Addr->Option (List V)}(h:∀b xs,T b=Z xs->c b=Z xs)(n:Nat):∀(v:V)(x:D),d7 K T n v x->d7 K c n v x:=by induction n with|zero=>exactλ_ _ a=>dD a|succ n d=>
  intro v x a;rcases a.inv with⟨m,b,ds,xs,e,rfl,rfl,t,l,r⟩|⟨i,m,e,rfl,rfl⟩|⟨i,m,e,rfl,rfl⟩;·cases e;exact⟨xs,t.imp (h _ _) id,l,λp f=>d _ _ (r p f)⟩
  ·rfl
  ·rfl
theorem d7.raw{X:Cx}{s:aq}(I:Inv X zK σ H s)(n:Nat):∀(v:V)(u:Value)(x:D),RelV v u->d7 X.K (i9 H) n v x->fV n s.heap u x:=by induction n with|zero=>exactλ_ _ _ _ a=>dD a|succ n h=>
  intro v u x e a;rcases a.inv with⟨m,b,ds,xs,w,rfl,rfl,t,l,r⟩|⟨i,m,_,rfl,rfl⟩|⟨i,m,_,rfl,rfl⟩;rotate_left;·obtain⟨t,rfl⟩:=e;rfl
  ·obtain⟨t,rfl⟩:=e;rfl
  cases e;cases w;refine aM (I.tuple (t.elim (λq=>.inl (oQ.mp q)) λq=>q.elim (λz=>by injection z) .inr)) λf g p _=>?_;refine⟨f,p,by rw[<-g.length,l],λq y=>?_⟩;obtain⟨j,A,rfl⟩:=Zuk.mp y;have c:j<xs.length:=by rw[qt]at A;have:=g.length;lia
  obtain⟨d,B,C⟩:=wz c l;obtain⟨u,E,G⟩:=g.get (cy c);rw[Zt9];have J:=(bF.mp E).2;have L:=(bF.mp B).2;simp only[J,L];exact h _ _ _ G (r _ C)
def FW(K:av)(a:Addr)(ks:List D)(vs:List V)(w:World)(T:Addr->Option (List V))(h:Heap):Prop:=(a==ku)=bi/\ks.length<=aD/\∃xs:List (D×Addr×Value),xs.map (·.1)=ks/\(∀x∈xs,d7 K T 8 (.ref x.2.1) x.1)/\Vals vs (xs.map (·.2.2))∧ ∃o es ep,h.get? a=Z o/\o.ExactDict/\o.data=.dict es ep/\es.toList=xs.map (λx=>⟨lE w 8 x.1,.ref x.2.1,x.2.2⟩)/\ks.Nodup
noncomputable abbrev dB(K:av)(a:Addr)(ks:List D)(vs:List V):HO:=.ext (FW K a ks vs)
theorem z0{P:a6}{w:World}{h':Heap}{H':Hp}{K:av}{a:Addr}{ks:List D}{vs:List V}(m:FW K a ks vs w (i9 H') h'):dG P w H' h' a (dB K a ks vs):=⟨m,by obtain⟨_,_,_,_,_,_,o,_,_,e,_⟩:=m;exact⟨o,e⟩,by rintro t1 t2 q r ⟨b,c,xs,d,f,g,o,es,ep,e,h⟩ i j;exact⟨b,c,xs,d,λx p=>d7.mono i 8 _ _ (f x p),g,o,es,ep,j o e,h⟩⟩
noncomputable def kD:Key->D|.inl i=>.int i|.inr x=>.str x
noncomputable def lF:D->Option Key|.int i=>Z (.inl i)|.str x=>Z (.inr x)|_=>am
noncomputable def mn:Key->Bool|.inl _=>be|.inr x=>decide (x.length<=aD)
noncomputable abbrev St:=L2.St
theorem wA{K:av}{H H':Hp}{a:Addr}{xs:List V}(e:aw H H')(h:cF K H a xs):cF K H' a xs:=by exact h.imp (e _ _) id
theorem Rr(e:aw H H')(h:Rd H a u):Rd H' a u:=by
 rcases h with h|⟨o,h⟩;·exact .inl (e _ _ h)
 ·exact .inr ⟨o,e _ _ h⟩
mutual
inductive Rep(K:av)(H:Hp):V->D->Prop|aC:Rep K H .aC .aC|bl (b:Bool):Rep K H (.bl b) (.bl b)|int (i:Int):Rep K H (.int i) (.int i)|str (x:Str) (h:x.length<=aD):Rep K H (.str x) (.str x)|tup {a:Addr} {xs:List V} {ds:List D} (h:cF K H a xs) (r:aG K H xs ds):Rep K H (.ref a) (.tup ds)|lst {a:Addr} {xs:List V} {ds:List D} (h:Rd H a (.lst xs)) (r:aG K H xs ds):Rep K H (.ref a) (.lst ds)|bJ {a:Addr} {ns:List Int} (h:b9 K H a (ns.map V.int)):Rep K H (.ref a) (.bJ ns)|aW {a:Addr} {ob:Obj} {ks:List Key} {vs:List V} {ds:List D} (h:H a=Z (.da ob (.dK (ks.zip vs)))) (r:aG K H vs ds) (hl:ks.length=vs.length) (hn:ks.Nodup/\∀k∈ks,mn k=be):Rep K H (.ref a) (.aW ks ds)|tab {a:Addr} {ks:List D} {vs:List V} {ds:List D} (h:H a=Z (dB K a ks vs)) (r:aG K H vs ds):Rep K H (.ref a) (.tab ks ds)
inductive aG(K:av)(H:Hp):List V->List D->Prop|nil:aG K H [] []|cons {v:V} {d:D} {vs:List V} {ds:List D} (r:Rep K H v d) (t:aG K H vs ds):aG K H (v::vs) (d::ds)
end
theorem Rep.go{K:av}{H H':Hp}{P:D->Prop}{Q:List D->Prop}(m:∀{a xs ds},P (.tup ds)->cF K H a xs->cF K H' a xs)(e:∀{a xs ds},P (.lst ds)->Rd H a (.lst xs)->Rd H' a (.lst xs))(t:∀{a}{ns:List Int},P (.bJ ns)->b9 K H a (ns.map V.int)->b9 K H' a (ns.map V.int))(u:∀{a f g}{ks:List Key}{ds},P (.aW ks ds)->H a=Z (.da f (.dK g))->H' a=Z (.da f (.dK g)))(w:∀{a ks vs ds},P (.tab ks ds)->H a=Z (dB K a ks vs)->H' a=Z (dB K a ks vs)) (q:∀{ds},P (.tup ds)\/P (.lst ds)\/(∃ks,P (.aW ks ds))\/(∃ks,P (.tab ks ds))->Q ds) (j:∀{d ds},Q (d::ds)->P d/\Q ds) {v:V} {d:D} (r:Rep K H v d):P d->Rep K H' v d:=Rep.rec (motive_1:=λv d _=>P d->Rep K H' v d) (motive_2:=λvs ds _=>Q ds->aG K H' vs ds) (λ_=>.aC) (λb _=>.bl b) (λi _=>.int i) (λx h _=>.str x h) (λh _ c p=>.tup (m p h) (c (q (.inl p)))) (λh _ c p=>.lst (e p h) (c (q (.inr (.inl p))))) (λh p=>.bJ (t p h)) (λh _ e hn c p=>.aW (u p h) (c (q (.inr (.inr (.inl ⟨_,p⟩))))) e hn) (λh _ c p=>.tab (w p h) (c (q (.inr (.inr (.inr ⟨_,p⟩)))))) (λ_=>.nil) (λ_ _ a b p=>.cons (a (j p).1) (b (j p).2)) r
theorem aG.go{K:av}{H H':Hp}{P:D->Prop}{Q:List D->Prop}(b:∀{v d},Rep K H v d->P d->Rep K H' v d)(a:∀{d ds},Q (d::ds)->P d/\Q ds){vs:List V}:∀{ds:List D},aG K H vs ds->Q ds->aG K H' vs ds:=by induction vs with|nil=>intro ds r _;cases r;exact .nil|cons v vs c=>intro ds r p;cases r with|cons r t=>exact .cons (b r (a p).1) (c t (a p).2)
theorem Rep.mono{K:av}{H H':Hp}(e:aw H H'){v:V}(r:Rep K H v d):Rep K H' v d:=r.go (P:=λ_=>True) (Q:=λ_=>True) (λ_ h=>wA e h) (λ_ h=>Rr e h) (λ_ h=>e.seq h) (λ_ h=>e _ _ h) (λ_ h=>e _ _ h) (λ_=>trivial) (λ_=>⟨trivial,trivial⟩) trivial
theorem aG.mono{K:av}{H H':Hp}(e:aw H H'){vs:List V}{ds:List D}(r:aG K H vs ds):aG K H' vs ds:=r.go (P:=λ_=>True) (Q:=λ_=>True) (λr _=>r.mono e) (λ_=>⟨trivial,trivial⟩) trivial
theorem aG.length{K:av}{H:Hp}:∀{vs:List V}{ds:List D},aG K H vs ds->vs.length=ds.length|_,_,.nil=>rfl|_,_,.cons _ t=>by rw[bh,bh,aG.length t]
theorem aG.get{K:av}{H:Hp}:∀{vs:List V}{ds:List D}{i:Nat}{d:D},aG K H vs ds->ds[i]?=Z d->∃v,vs[i]?=Z v/\Rep K H v d|_,_,_,_,.nil,e=>by simp at e|_,_,0,_,.cons r _,e=>by simp at e;subst e;exact⟨_,W,r⟩|_,_,i+1,d,.cons _ t,e=>by obtain⟨v,a,b⟩:=aG.get (i:=i) (d:=d) t (by simpa using e);exact⟨v,by simpa using a,b⟩
theorem aG.append{K:av}{H:Hp}{vs:List V}:∀{ws:List V}{ds es:List D},aG K H vs ds->aG K H ws es->aG K H (vs++ws) (ds++es):=by induction vs with|nil=>intro ws ds es h s;cases h;exact s|cons v vs a=>intro ws ds es h s;cases h with|cons r t=>exact .cons r (a t s)
theorem aG.drop{K:av}{H:Hp}:∀{vs:List V}{ds:List D}(n:Nat),aG K H vs ds->aG K H (vs.drop n) (ds.drop n)|_,_,0,r=>r|_,_,_+1,.nil=>.nil|_,_,n+1,.cons _ t=>aG.drop n t
theorem aG.take{K:av}{H:Hp}:∀{vs:List V}{ds:List D}(n:Nat),aG K H vs ds->aG K H (vs.take n) (ds.take n)|_,_,0,_=>.nil|_,_,_+1,.nil=>.nil|_,_,n+1,.cons r t=>.cons r (aG.take n t)
theorem aG.snoc{K:av}{H:Hp}{vs:List V}{ds:List D}{v:V}(r:aG K H vs ds)(q:Rep K H v d):aG K H (vs++[v]) (ds++[d]):=r.append (.cons q .nil)
theorem tQ{K:av}{H:Hp}:∀ns:List Int,aG K H (ns.map V.int) (ns.map D.int)|[]=>.nil|n::r=>.cons (.int n) (tQ r)
noncomputable abbrev ag:=List (Option D)
structure bL(K:av)(H:Hp)(σ:St)(ρ:ag):Prop where
 len:σ.length=ρ.length
 get:∀(i:Nat)(d:D),ρ[i]?=Z (Z d)->∃v,σ[i]?=Z (Z v)/\Rep K H v d
theorem bL.mono{K:av}{H H':Hp}{σ:St}{a:ag}(r:bL K H σ a)(e:aw H H'):bL K H' σ a:=⟨r.len,λi d h=>by obtain⟨v,b,c⟩:=r.get i d h;exact⟨v,b,c.mono e⟩⟩
theorem bL.set{K:av}{H:Hp}{σ:St}{a:ag}{v:V}(r:bL K H σ a)(i:Nat)(q:Rep K H v d):bL K H (σ.set i (Z v)) (a.set i (Z d)):=by
 refine⟨by rw[e_,e_];exact r.len,λj e h=>?_⟩;by_cases b:i=j
 ·subst b;by_cases c:i<a.length;·rw[ij c]at h;cases h;exact⟨v,ij (by rw[r.len];exact c),q⟩
  ·rw[y8.mpr (by rw[e_];lia)]at h;injection h
 ·rw[dh b]at h⊢;exact r.get j e h
noncomputable def tD(K:av)(f:ag->Option D):TE:=λσ H Q=>∃a d,bL K H σ a/\f a=Z d/\∀v H',aw H H'->Rep K H' v d->Q v H'
noncomputable def FX(K:av)(f:ag->Option Bool):TT:=λσ H Q=>∃a b,bL K H σ a/\f a=Z b/\∀H',aw H H'->Q b H'
noncomputable def Ru(K:av)(f:ag->Option (List D)):TA:=λσ H Q=>∃a ds,bL K H σ a/\f a=Z ds/\∀vs H',aw H H'->aG K H' vs ds->Q vs H'
abbrev DE(X:Cx)(e:Expr)(f:ag->Option D):Prop:=PE X e (tD X.K f)
abbrev DT(X:Cx)(e:Expr)(f:ag->Option Bool):Prop:=PT X e (FX X.K f)
abbrev DW(X:Cx)(e:Expr)(f:ag->Option Bool):Prop:=PW X e (FX X.K f)
abbrev lG(X:Cx)(es:List Expr)(f:ag->Option (List D)):Prop:=PA X es (Ru X.K f)
theorem cQ(h:PE X e t)(a:∀σ H Q,t' σ H Q->t σ H Q):PE X e t':=λzK s σ H Q I hw=>h zK s σ H Q I (a σ H Q hw)
theorem rf(h:PT X e t)(a:∀σ H Q,t' σ H Q->t σ H Q):PT X e t':=λzK s σ H Q I hw=>h zK s σ H Q I (a σ H Q hw)
theorem z3(h:PW X e t)(a:∀σ H Q,t' σ H Q->t σ H Q):PW X e t':=λb zK s σ H Q I hw=>h b zK s σ H Q I (a σ H Q hw)
theorem FY(h:PA X es t)(a:∀σ H Q,t' σ H Q->t σ H Q):PA X es t':=λp zK s σ H Q I hw=>h p zK s σ H Q I (a σ H Q hw)
theorem cz{st:Stmt}(h:PS X st t)(b:∀a σ H,t' a σ H->t a σ H):PS X st t':=λzK s σ H a I hw=>h zK s σ H a I (b a σ H hw)
theorem jD{st:List Stmt}(h:fU X st t)(b:∀a σ H,t' a σ H->t a σ H):fU X st t':=λzK s σ H a I hw=>h zK s σ H a I (b a σ H hw)
theorem bind_some{c d:Type}{o:Option c}{f:c->Option d}{b:d}(h:o.bind f=Z b):∃a,o=Z a/\f a=Z b:=by cases o with|none=>injection h|some a=>exact⟨a,W,h⟩
section
variable {X:Cx}{e b c:Expr}{es:List Expr}{pos:Pos}{f fa fb fc:ag->Option D}{fs:ag->Option (List D)}
noncomputable def aa(i:Nat):ag->Option D:=λg=>match g[i]? with|some (Z d)=>Z d|_=>am
theorem tR(h:aa i g=Z d):g[i]?=Z (Z d):=by unfold aa at h;cases q:g[i]? with|none=>rw[q]at h;injection h|some o=>rw[q]at h;cases o with|none=>injection h|some d'=>(obtain rfl:=ao h);rfl
noncomputable def cC(d:D):ag->Option D:=λ_=>Z d
theorem FZ{x}(g:x.length<=aD:=by decide):DE X (.Constant (.str x) j pos) (cC (.str x)):=cQ O3<|by rintro σ H Q ⟨i,d,r,h,q⟩;(obtain rfl:=ao h);exact q _ H (aw.refl H) (.str x g)
theorem Rv(g:Gl X x)(i:X.mg x=Z u)(r:RelV v u)(j:∀H,Rep X.K H v d)(m:'f'=bi:=by decide):DE X (.Name x pos) (cC d):=cQ (EB g i r m)<|by rintro σ H Q ⟨p,d',_,h,q⟩;(obtain rfl:=ao h);exact q v H (aw.refl H) (j H)
noncomputable def wB:ag->Option (List D):=λ_=>Z []
noncomputable def wC(f:ag->Option D)(g:ag->Option (List D)):ag->Option (List D):=λh=>(f h).bind λd=>(g h).bind λds=>Z (d::ds)
theorem wD:lG X [] wB:=FY gj<|by rintro σ H Q ⟨d,ds,r,h,q⟩;(obtain rfl:=ao h);exact q _ H (aw.refl H) .nil
theorem tS(p:DE X e f)(t:lG X es fs)(u:a4 (e::es) X.env=(bi,eval e X.env)::a4 es X.env:=by rfl):lG X (e::es) (wC f fs):=FY (ek p t u)<|by
  rintro σ H Q ⟨i,ds,r,h,q⟩;refine bS h λd w h=>?_;refine bS h λg x h=>?_
  (obtain rfl:=ao h);exact⟨i,d,r,w,λv A j y=>⟨i,g,r.mono j,x,λvs H2 m z=>q _ H2 (j.trans m) (.cons (y.mono m) z)⟩⟩
theorem cU(h:H p=am)(o:HO):aw H (upd H p o):=λb u q=>by rw[bf (jz q h)];exact q
noncomputable def aH(g:ag->Option (List D)):ag->Option D:=λd=>(g d).bind λds=>Z (.tup ds)
noncomputable def eT(g:ag->Option (List D)):ag->Option D:=λd=>(g d).bind λds=>Z (.lst ds)
def wF(n:Nat)(g:ag->Option (List D)):Prop:=∀d ds,g d=Z ds->ds.length<=n
theorem Rw:wF 0 wB:=λd ds h=>by(obtain rfl:=ao h);exact ba _
theorem Rx{n:Nat}(h:wF n fs):wF (n+1) (wC f fs):=λi ds q=>by
 refine bS q λd m q=>?_;refine bS q λg j q=>?_
 (obtain rfl:=ao q);rw[bh];exact Dx (h i g j)
def nI(X:Cx)(j:Value->Value->Sem Value)(g:D->D->Option D):Prop:=dc X j (λx y H Q=>∃h i d,Rep X.K H x h/\Rep X.K H y i/\g h i=Z d/\∀v H',aw H H'->Rep X.K H' v d->Q v H')
noncomputable def ae(g:D->D->Option D)(fa fb:ag->Option D):ag->Option D:=λd=>(fa d).bind λx=>(fb d).bind λy=>g x y
variable {g g':D->D->Option D}
theorem z4(h:ae g fa fb=f){r:R2}(w:r=λx y H Q=>∃i j d,Rep X.K H x i/\Rep X.K H y j/\g i j=Z d/\∀v H',aw H H'->Rep X.K H' v d->Q v H'):∀σ H Q,tD X.K f σ H Q->tE r (tD X.K fa) (tD X.K fb) σ H Q:=by subst h w;rintro σ H Q ⟨m,d,R,e,q⟩;refine bS e λi A e=>?_;refine bS e λj B e=>?_;exact⟨m,i,R,A,λv J p C=>⟨m,j,R.mono p,B,λu H2 t E=>⟨i,j,d,C.mono t,E,e,λz H' G I=>q z H' (p.trans (t.trans G)) I⟩⟩⟩
noncomputable def cB(f:ag->Option D):ag->Option Bool:=λh=>(f h).bind λd=>match d with|.bl b=>Z b|_=>am
theorem tT{k:Bool}(h:cB f i=Z k):f i=Z (.bl k):=by refine bS h λd j h=>?_;cases d<;>first|(cases h;exact j)|cases h
noncomputable def ez(t u:ag->Option Bool):ag->Option Bool:=λd=>(t d).bind λc=>if c=be then u d else Z bi
noncomputable def lI(t u:ag->Option Bool):ag->Option Bool:=λd=>(t d).bind λc=>if c=be then Z be else u d
noncomputable def gR(t:ag->Option Bool):ag->Option Bool:=λd=>(t d).bind λc=>Z (!c)
def tU(f g:ag->Option D):ag->Option D:=λd=>(cB f d).bind λc=>if c=be then g d else Z (.bl bi)
def wG(f g:ag->Option D):ag->Option D:=λd=>(cB f d).bind λc=>if c=be then Z (.bl be)else g d
def Ry(f:ag->Option D):ag->Option D:=λd=>(cB f d).bind λc=>Z (.bl (!c))
noncomputable def Rz(t:ag->Option Bool)(f g:ag->Option D):ag->Option D:=λd=>(t d).bind λc=>if c=be then f d else g d
noncomputable def RA(g g':D->D->Option D)(fa fb fc:ag->Option D):ag->Option D:=λd=>(fa d).bind λx=>(fb d).bind λy=>(g x y).bind λz=>match z with|.bl be=>(fc d).bind λw=>g' y w|.bl bi=>Z (.bl bi)|_=>am
end
inductive Out where|aF (ρ:ag)|ret (d:D)|brk (ρ:ag)|cnt (ρ:ag)
noncomputable def wants(K:av)(c:Ends)(H:Hp):Out->Prop|.aF b=>∀a H',aw H H'->bL K H' a b->c.nx a H'|.ret d=>∀v H',aw H H'->Rep K H' v d->c.rt v H'|.brk b=>∀a H',aw H H'->bL K H' a b->c.bk a H'|.cnt b=>∀a H',aw H H'->bL K H' a b->c.ct a H'
theorem wants.mono{K:av}{b:Ends}{H H':Hp}{o:Out}(h:wants K b H o)(e:aw H H'):wants K b H' o:=by cases o with|aF c=>exactλa H2 s r=>h a H2 (e.trans s) r|ret d=>exactλa H2 s r=>h a H2 (e.trans s) r|brk c=>exactλa H2 s r=>h a H2 (e.trans s) r|cnt c=>exactλa H2 s r=>h a H2 (e.trans s) r
def F0(K:av)(g:ag->Option Out):TS:=λb σ H=>∃a o,bL K H σ a/\g a=Z o/\wants K b H o
abbrev DS(X:Cx)(st:Stmt)(g:ag->Option Out):Prop:=PS X st (F0 X.K g)
abbrev wH(X:Cx)(st:List Stmt)(g:ag->Option Out):Prop:=fU X st (F0 X.K g)
section
variable {X:Cx}{e c:Expr}{st:Stmt}{rest:List Stmt}{f:ag->Option D}{g u:ag->Option Out}{t:ag->Option Bool}
noncomputable def cR:ag->Option Out:=λa=>Z (.aF a)
noncomputable def a8(g u:ag->Option Out):ag->Option Out:=λa=>(g a).bind λo=>match o with|.aF ρ'=>u ρ'|o=>Z o
theorem RB(a:DS X st g)(h:wH X rest u):wH X (st::rest) (a8 g u):=jD (qT a h)<|by rintro m σ H ⟨i,o,R,e,q⟩;refine bS e λb a e=>?_;refine⟨i,b,R,a,?_⟩;cases b with|aF ρ'=>exactλj H' s r=>⟨ρ',o,r,e,q.mono s⟩|ret d=>(obtain rfl:=ao e);exact q|brk ρ'=>(obtain rfl:=ao e);exact q|cnt ρ'=>(obtain rfl:=ao e);exact q
noncomputable def bj(f:ag->Option D):ag->Option Out:=λa=>(f a).bind λd=>Z (.ret d)
noncomputable def bY(t:ag->Option Bool)(g u:ag->Option Out):ag->Option Out:=λa=>(t a).bind λc=>if c=be then g a else u a
noncomputable def cc(i:Nat)(f:ag->Option D):ag->Option Out:=λa=>(f a).bind λd=>Z (.aF (a.set i (Z d)))
end
noncomputable def lJ(K:av)(F:List D->Option D):Sp:=λvs H Q _=>∃ds d,aG K H vs ds/\F ds=Z d/\∀v H',aw H H'->Rep K H' v d->Q v H'
structure Callee(P:a6)(w:World)(K:av)(mg:Str->Option Value)(base:Heap)(k:Nat)(x:Str)(F:List D->Option D):Prop where ex:∃(f:Addr)(fd:dF)(ps:List Str),mg x=Z (.ref f)/\m3 K (.ref f)=be/\jC K fd ps []/\dm P w K mg base eu k f fd ps (lJ K F)
noncomputable def ax(F:List D->Option D)(g:ag->Option (List D)):ag->Option D:=λa=>(g a).bind F
section
variable {X:Cx}{e:Expr}{es:List Expr}{pos p:Pos}{fs:ag->Option (List D)}{x:Str}
theorem RC{k:Nat}(C:Callee X.prog X.w X.K X.mg X.base k x F)(i:bI k X.A)(j:Gl X x)(m:lG X (e::es) fs)(g:'f'=bi:=by decide)(r:a4 (e::es) X.env=(bi,eval e X.env)::a4 es X.env:=by rfl)(h:(ef pos (a4 es X.env)).any (·.1)=bi:=by rfl):DE X (.Call (.Name x p) (e::es) [] pos) (ax F fs):=by refine dj C.ex λf N ps t u c=>bc c λy z=>?_;clear c;refine cQ (Qn z i j t u y .nil Fz m g r h) λσ H Q B=>?_;obtain⟨E,d,R,e,q⟩:=B;refine bS e λds G e=>?_;exact⟨E,ds,R,G,λvs O I J=>⟨ds,d,by rw[eZ];exact J,e,λv H' L M=>q v H' (I.trans L) M⟩⟩
end
noncomputable def kJ(n:Nat)(ds:List D):ag:=ds.map Z++yZ (n-ds.length) am
theorem RD{K:av}{H:Hp}{N:List Str}{vs:List V}{ds:List D}(r:aG K H vs ds):bL K H (start N vs) (kJ N.length ds):=by
 have a:=r.length;refine⟨by simp[L2.start,kJ,a],λi d h=>?_⟩;unfold kJ at h;by_cases b:i<ds.length;·rw[iF (by simpa using b),bW]at h;cases q:ds[i]? with|none=>rw[q]at h;cases h|some d'=>rw[q]at h;cases h;obtain⟨v,c,e⟩:=r.get q;refine⟨v,?_,e⟩;unfold L2.start;rw[iF (by simp[a];exact b),bW,c];rfl
 ·rw[m8 (by simp;lia),NQ]at h;split at h<;>cases h
section
variable {X:Cx}
theorem dc.imp(h:dc X f r)(a:∀x y H Q,b x y H Q->r x y H Q):dc X f b:=λzK s σ H x y v u Q I c d q=>h zK s σ H x y v u Q I c d (a x y H Q q)
theorem dc.cases(h:∀x y H Q,r x y H Q->∃a,dc X f a/\a x y H Q):dc X f r:=λzK s σ H x y v u Q I b c q=>by obtain⟨a,d,e⟩:=h x y H Q q;exact d zK s σ H x y v u Q I b c e
noncomputable def aQ:D->D->Option D|.int i,.int j=>Z (.int (i+j))|.str x,.str y=>if x.length+y.length<=aD then Z (.str (x++y))else am|.tup xs,.tup ys=>if(!xs.isEmpty)=be/\xs.length+ys.length<=aD then Z (.tup (xs++ys))else am|.lst xs,.lst ys=>if xs.length+ys.length<=aD then Z (.lst (xs++ys))else am|_,_=>am
theorem F8(x y:Str):(x++y).length=x.length+y.length:=by show(x.cps++y.cps).size=_;rw[Array.size_append]<;>rfl
theorem Inv.rh{s:aq}{xs:List V}(I:Inv X zK σ H s)(h:Rd H l (.lst xs)):∃(a:List Value)(n:Nat),Vals xs a/\xs.length=a.length/\s.heap.get? l=Z {cls:=.type "list",data:=.seq a.toArray n}/\xs.length<=aD:=by refine bc (h.ok I.aR) λz b=>b8 b λa n r e=>?_;clear b;exact⟨a,n,r,r.length,e,z⟩
def RE:R2:=λx y H Q=>∃l b xs a,x=.ref l/\y=.ref b/\Rd H l (.lst xs)/\Rd H b (.lst a)/\xs.length+a.length<=aD/\∀p,H p=am->Q (.ref p) (upd H p (.lst (xs++a)))
theorem F9:dc X (gd .Add) RE:=by
 intro zK s σ H x y v u Q I j m h;refine b_ h λl b xs c=>d6 c λE g i p d=>bG d λt hz q=>?_;clear h c d;subst g;subst i;cases j;cases m;refine cE (Inv.rh I p) λf n r G e z=>?_;refine cE (Inv.rh I t) λa n2 w A B J=>?_;refine PySem.P.add_list e B ?_ (by rw[di,di];lia);have C:f.toArray++a.toArray=(f++a).toArray:=by simp
 rw[C];exact⟨.ref _,_,I.QX (t':=s.toks) (r.append w) (by rw[bB];omega),W,q _ I.fresh⟩
theorem F_:nI X (gd .Add) aQ:=dc.cases<|by rintro x y H Q ⟨v,w,d,u,f,e,q⟩;cases u with
 |int i=>cases f with
  |int j=>obtain rfl:=ao e;exact⟨_,P1,i,j,W,W,q _ H (aw.refl H) (.int _)⟩|_=>injection e
 |str x A=>cases f with
  |str y B=>
   have c:(if x.length+y.length<=aD then Z (D.str (x++y))else am)=Z d:=e;split at c;·rename_i hz;obtain rfl:=ao c;exact⟨_,Qh,x,y,W,W,hz,q _ H (aw.refl H) (.str _ (by rw[F8];exact hz))⟩
   ·injection c
  |_=>injection e
 |@tup a xs ds h r=>
  cases f with
  |@tup b ys es m f=>
   have c:(if(!ds.isEmpty)=be/\ds.length+es.length<=aD then Z (D.tup (ds++es))else am)=Z d:=e;split at c
   ·rename_i hz;obtain rfl:=ao c;obtain⟨t,hz⟩:=hz;have l1:=r.length;have l2:=f.length;refine⟨_,QF,a,b,xs,ys,W,W,h,m,?_,by lia,?_,?_⟩
    ·intro z;subst z;cases ds with
     |nil=>simp at t
     |cons _ _=>simp at l1
    ·intro z;subst z;cases es with
     |nil=>rw[eZ]at q;exact q _ H (aw.refl H) (.tup h r)
     |cons _ _=>simp at l2
    ·intro z p g;exact q _ _ (cU g _) (.tup (.of bA) ((r.append f).mono (cU g _)))
   ·injection c
  |_=>injection e
 |@lst a xs ds h r=>
  cases f with
  |@lst b ys es m f=>
   have c:(if ds.length+es.length<=aD then Z (D.lst (ds++es))else am)=Z d:=e;split at c
   ·rename_i hz;obtain rfl:=ao c;have l1:=r.length;have l2:=f.length;exact⟨_,F9,a,b,xs,ys,W,W,h,m,by omega,λp g=>q _ _ (cU g _) (.lst (.inl bA) ((r.append f).mono (cU g _)))⟩
   ·injection c
  |_=>injection e
 |_=>injection e
noncomputable def d1(h:Int->Int->Option D):D->D->Option D|.int i,.int j=>h i j|_,_=>am
theorem Ga{h:Int->Int->Option D}(e:d1 h x y=Z d):∃i j,x=.int i/\y=.int j/\h i j=Z d:=by cases x<;>first|injection e|(cases y<;>first|injection e|exact⟨_,_,W,W,e⟩)
theorem Rep.wI{K:av}{H:Hp}{v:V}(r:Rep K H v (.int i)):v=.int i:=by cases r;rfl
def dI(C:Int->Int->Prop)[∀i j,Decidable (C i j)](g:Int->Int->D):D->D->Option D:=d1 λi j=>if C i j then Z (g i j)else am
theorem wJ[∀i j,Decidable (C i j)](f:dc X h (rI C v))(m:∀H i j,Rep X.K H (v i j) (g i j)):nI X h (dI C g):=dc.imp f<|by
  rintro x y H Q ⟨u,w,d,p,r,e,q⟩;refine cM (Ga e) λi j a b c=>?_;subst a;subst b;split at c;case isFalse=>injection c
  rename_i t;obtain rfl:=ao c;exact⟨i,j,p.wI,r.wI,t,q _ H (aw.refl H) (m H i j)⟩
def d0(g:Int->Int->D):D->D->Option D:=d1 λi j=>Z (g i j)
theorem z5(c:dc X f (oW v))(h:∀H i j,Rep X.K H (v i j) (g i j)):nI X f (d0 g):=dc.imp c<|by rintro x y H Q ⟨t,u,d,m,p,e,q⟩;refine cM (Ga e) λi j a b r=>?_;subst a;subst b;obtain rfl:=ao r;exact⟨i,j,m.wI,p.wI,q _ H (aw.refl H) (h H i j)⟩
noncomputable instance(i j:Int):Decidable (lC i j):=by unfold lC;infer_instance
noncomputable instance(i j:Int):Decidable (q0 i j):=by unfold q0;infer_instance
def il:D->D->Option D:=d0 λi j=>.int (i-j)
def kK:D->D->Option D:=dI lC λi j=>.int (i*j)
def fW:D->D->Option D:=dI (λ_ j=>0<j) λi j=>.int (i%j)
def nJ:D->D->Option D:=dI q0 λi j=>.int (i / j)
noncomputable def bC(x y:Str):Bool:=decide (x.cps.toList<y.cps.toList)
def jX:D->D->Option D:=d0 λi j=>.bl (decide (i<j))
def RF:D->D->Option D:=d0 λi j=>.bl (decide (i<=j))
def mq:D->D->Option D:=d0 λi j=>.bl (decide (j<i))
def RG:D->D->Option D:=d0 λi j=>.bl (decide (j<=i))
noncomputable def eH:D->D->Bool|.aC,.aC=>be|.bl a,.bl b=>a==b|.bl a,.int b=>(if a then 1 else 0)==b|.int a,.bl b=>a==(if b then 1 else 0)|.int a,.int b=>a==b|.str a,.str b=>a==b|_,_=>bi
noncomputable def hV:D->Bool|.bJ _=>be|.aW _ _=>be|.tab .. =>be|.lst _=>be|_=>bi
def z6(x y:D):Option Bool:=if(hV x||hV y)=be then am else Z (eH x y)
mutual
noncomputable def cX:Nat->D->D->Option Bool|0,.tup _,.tup _=>am|n+1,.tup xs,.tup ys=>(eA n xs ys).map λb=>b&&xs.length==ys.length|_,x,y=>z6 x y
noncomputable def eA:Nat->List D->List D->Option Bool|n,x::xs,y::ys=>(cX n x y).bind λb=>(eA n xs ys).map λc=>b&&c|_,_,_=>Z be
end
theorem Inv.lK{s:aq}(I:Inv X zK σ H s)(h:cF X.K H a xs):∃b:List Value,Vals xs b/\s.heap.IsTuple a b.toArray:=by refine aM (I.tuple h) λb r p _=>?_;exact⟨b,r,p⟩
theorem Inv.jE{s:aq}(I:Inv X zK σ H s)(h:Rd H a (.lst xs)):∃b:List Value,Vals xs b/\s.heap.IsList a b.toArray:=by refine cE (Inv.rh I h) λb n r c e _=>?_;exact⟨b,r,⟨_,e,W,_,W⟩⟩
end
noncomputable def ja:D->Bool|.tup _=>be|_=>bi
theorem rj(h:ja d=be):∃xs,d=.tup xs:=by cases d<;>first|exact⟨_,W⟩|injection h
theorem z7(n:Nat)(x y:D)(a:(ja x&&ja y)=bi):cX n x y=z6 x y:=by cases n<;>cases x<;>first|rfl|(cases y<;>first|rfl|injection a)
theorem Gb{n:Nat}(a:(ja x&&ja y)=bi)(h:cX n x y=Z b):b=eH x y/\hV x=bi/\hV y=bi:=by rw[z7 n x y a,z6]at h;simp_all
theorem z8{n:Nat}{xs ys:List D}(h:cX n (.tup xs) (.tup ys)=Z b):∃m c,n=m+1/\eA m xs ys=Z c/\b=(c&&xs.length==ys.length):=by cases n with|zero=>injection h|succ m=>simp only[cX,bu]at h;obtain⟨c,a,d⟩:=h;exact⟨m,c,W,a,d.symm⟩
theorem Gd{n:Nat}:∀{xs ys:List D}{c:Bool},eA n xs ys=Z c->∀(j:Nat)(x y:D),xs[j]?=Z x->ys[j]?=Z y->∃b,cX n x y=Z b|[],ys,c,h,j,x,y,a,d=>by simp at a|x'::xs,[],c,h,j,x,y,a,d=>by simp at d|x'::xs,g::ys,c,h,j,x,y,a,d=>by simp only[eA]at h;refine bS h λb e h=>?_;simp only[bu]at h;obtain⟨i,f,m⟩:=h;cases j with|zero=>simp at a d;subst a d;exact⟨b,e⟩|succ j=>exact Gd f j x y (by simpa using a) (by simpa using d)
def lL(n:Nat)(xs ys:List D)(j:Nat):Bool:=match xs[j]?,ys[j]? with|some x,Z y=>(cX n x y).getD bi|_,_=>bi
theorem Ge(m:Nat)(e:Nat->Bool):(eG (m+1)).all e=(e 0&&(eG m).all λj=>e (j+1)):=by rw[Zul,gg,Zum];rfl
theorem z9{n:Nat}:∀{xs ys:List D}{c:Bool},eA n xs ys=Z c->(eG (min xs.length ys.length)).all (lL n xs ys)=c
 |[],ys,c,h=>by simp_all[eA]|x'::xs,[],c,h=>by simp_all[eA]|x'::xs,a::ys,c,h=>by
  simp only[eA]at h;refine bS h λb d h=>?_;simp only[bu]at h;obtain⟨p,e,f⟩:=h;have g:=z9 e;have i:min (x'::xs).length (a::ys).length=min xs.length ys.length+1:=by simp only[bh];lia
  rw[i,Ge,<-f];have e0:lL n (x'::xs) (a::ys) 0=b:=by simp[lL,d]
  have m:(λj=>lL n (x'::xs) (a::ys) (j+1))=lL n xs ys:=by funext j;simp[lL]
  rw[e0,m,g]
section
variable {X:Cx}{zK:List (Addr × Obj)}{σ:St}{H:Hp}{s:aq}
theorem RH{n:Nat}(p:∀{v:V}{d d':D}{b:Bool},Rep X.K H v d->Rep X.K H v d'->cX n d d'=Z b->b=be):∀{ds a:List D}{b:Bool},aG X.K H vs ds->aG X.K H vs a->eA n ds a=Z b->b=be:=by induction vs with|nil=>intro ds a b r f e;cases r;simp_all[eA,NR]|cons v vs g=>intro ds a b r f e;cases r with|cons r t=>cases f with|cons f t'=>simp only[eA]at e;refine bS e λc h e=>?_;obtain⟨i,j,m⟩:=bu.mp e;grind
theorem Gf(I:Inv X zK σ H s){n:Nat}(r:Rep X.K H v d)(f:Rep X.K H v d')(e:cX n d d'=Z b)(t:∀xs ys,d=.tup xs->d'=.tup ys->b=be):b=be:=by cases a:ja d&&ja d' with
 |true=>rw[cJ]at a;obtain⟨xs,g⟩:=rj a.1;obtain⟨ys,i⟩:=rj a.2;exact t xs ys g i|false=>refine bG (Gb a e) λc j m=>?_;subst c;clear t e;cases r with
  |bJ|aW|tab|lst=>injection j|tup h _=>cases f with
   |bJ|aW|tab|lst=>injection m|tup=>injection a
  |_=>cases f;first|rfl|exact beq_self_eq_true _
theorem RI(I:Inv X zK σ H s){n:Nat}:∀{v:V}{d d':D}{b:Bool},Rep X.K H v d->Rep X.K H v d'->cX n d d'=Z b->b=be:=by induction n with|zero=>intro v d d' b r a e;refine Gf I r a e λxs ys f g=>?_;subst f g;refine b8 (z8 e) λm _ h _=>?_;injection h|succ n j=>intro v d d' b r a e;refine Gf I r a e λxs ys f g=>?_;subst f g;refine cM (z8 e) λm c h f i=>?_;subst i;cases h;cases r with|tup h r=>cases a with|tup h' a=>have q:=I.v9 h h';subst q;rw[RH j r a f,<-r.length,<-a.length];simp
theorem Gg(I:Inv X zK σ H s){A:a_}(c:A.units<cLine)(f:RelV x u)(d:RelV y w)(r:Rep X.K H x g)(i:Rep X.K H y j)(h:(ja g&&ja j)=bi)(v:hV g=bi)(m:hV j=bi):m7 A s u w (eH g j)/\Zun A s u w (eH g j)/\Zuo A s u w (!(eH g j)):=by cases r with
 |bJ|aW|tab|lst=>injection v|aC=>cases f;cases i with
  |bJ|aW|tab|lst=>injection m|aC=>cases d;exact⟨Zuf _,SeqAt.RcAt.none_none,Zv_⟩|bl b=>cases d;exact⟨SeqAt.EqAt.none_bool b,SeqAt.RcAt.none_bool b,Zwa b⟩|int b=>obtain⟨t,rfl⟩:=d;exact⟨SeqAt.EqAt.none_int b t,SeqAt.RcAt.none_int b t,Zwb b t⟩|str b _=>obtain⟨t,rfl⟩:=d;exact⟨SeqAt.EqAt.none_str b t,SeqAt.RcAt.none_str b t,Zwc b t⟩|tup q _=>cases d;obtain⟨_,_,p⟩:=Inv.lK I q;exact⟨SeqAt.EqAt.none_tuple p c,SeqAt.RcAt.none_tuple p c,Zwd p c⟩
 |bl a=>cases f;cases i with
  |bJ|aW|tab|lst=>injection m|aC=>cases d;exact⟨SeqAt.EqAt.bool_none a,SeqAt.RcAt.bool_none a,Zwe a⟩|bl b=>cases d;exact⟨SeqAt.EqAt.bool_bool a b,SeqAt.RcAt.bool_bool a b,Zwf a b⟩|int b=>obtain⟨t,rfl⟩:=d;exact⟨SeqAt.EqAt.bool_int a b t,SeqAt.RcAt.bool_int a b t,Zwg a b t⟩|str b _=>obtain⟨t,rfl⟩:=d;exact⟨SeqAt.EqAt.bool_str a b t,SeqAt.RcAt.bool_str a b t,Zwh a b t⟩|tup q _=>cases d;obtain⟨_,_,p⟩:=Inv.lK I q;exact⟨SeqAt.EqAt.bool_tuple a p c,SeqAt.RcAt.bool_tuple a p c,Zwi a p c⟩
 |int a=>
  obtain⟨t',rfl⟩:=f;cases i with
  |bJ|aW|tab|lst=>injection m
  |aC=>cases d;exact⟨SeqAt.EqAt.int_none a t',SeqAt.RcAt.int_none a t',Zwj a t'⟩
  |bl b=>cases d;exact⟨SeqAt.EqAt.int_bool a t' b,SeqAt.RcAt.int_bool a t' b,Zwk a t' b⟩
  |int b=>obtain⟨t,rfl⟩:=d;exact⟨Zuc a t' b t,SeqAt.RcAt.int_int a t' b t,Zwl a t' b t⟩
  |str b _=>obtain⟨t,rfl⟩:=d;exact⟨Nl a t' b t,SeqAt.RcAt.int_str a t' b t,Zwm a t' b t⟩
  |tup q _=>cases d;obtain⟨_,_,p⟩:=Inv.lK I q;exact⟨Zub a t' p c,SeqAt.RcAt.int_tuple a t' p c,Zwn a t' p c⟩
 |str a _=>
  obtain⟨t',rfl⟩:=f;cases i with
  |bJ|aW|tab|lst=>injection m
  |aC=>cases d;exact⟨SeqAt.EqAt.str_none a t',SeqAt.RcAt.str_none a t',Zwo a t'⟩
  |bl b=>cases d;exact⟨SeqAt.EqAt.str_bool a t' b,SeqAt.RcAt.str_bool a t' b,Zwp a t' b⟩
  |int b=>obtain⟨t,rfl⟩:=d;exact⟨Nm a t' b t,SeqAt.RcAt.str_int a t' b t,Zwq a t' b t⟩
  |str b _=>obtain⟨t,rfl⟩:=d;exact⟨Zue a t' b t,SeqAt.RcAt.str_str a t' b t,Zwr a t' b t⟩
  |tup q _=>cases d;obtain⟨_,_,p⟩:=Inv.lK I q;exact⟨Zud a t' p c,SeqAt.RcAt.str_tuple a t' p c,Zws a t' p c⟩
 |tup z _=>
  cases f;obtain⟨_,_,e⟩:=Inv.lK I z;cases i with
  |bJ|aW|tab|lst=>injection m
  |aC=>cases d;exact⟨SeqAt.EqAt.tuple_none e c,SeqAt.RcAt.tuple_none e c,Zwt e c⟩
  |bl b=>cases d;exact⟨SeqAt.EqAt.tuple_bool b e c,SeqAt.RcAt.tuple_bool b e c,Zwu b e c⟩
  |int b=>obtain⟨t,rfl⟩:=d;exact⟨Zt_ b t e c,SeqAt.RcAt.tuple_int b t e c,Zwv b t e c⟩
  |str b _=>obtain⟨t,rfl⟩:=d;exact⟨Zua b t e c,SeqAt.RcAt.tuple_str b t e c,Zww b t e c⟩
  |tup q _=>injection h
theorem Gh(p:∀{A:a_}{x y:V}{C E:D}{u w:Value}{b:Bool},A.units+m<cLine->RelV x u->RelV y w->Rep X.K H x C->Rep X.K H y E->cX m C E=Z b->m7 A s u w b){A:a_}{d a:List Value}(hu:A.units+(m+1)<cLine)(r:aG X.K H vs xs)(G:aG X.K H f ys)(I:Vals vs d)(J:Vals f a)(N:eA m xs ys=Z c):∀j (L:j<d.toArray.size)(M:j<a.toArray.size),m7 A.in1 s d.toArray[j] a.toArray[j] (lL m xs ys j):=by
 intro j L M;have l1:d.toArray.size=xs.length:=by rw[di,<-I.length];exact r.length
 have l2:a.toArray.size=ys.length:=by rw[di,<-J.length];exact G.length
 have g:=cy (l:=xs) (l1▸L);have h:=cy (l:=ys) (l2▸M);obtain⟨vx,O,i⟩:=r.get g;obtain⟨vy,Q,q⟩:=G.get h;obtain⟨ux,t,v⟩:=I.get O;obtain⟨uy,z,B⟩:=J.get Q;obtain⟨T,e⟩:=Gd N j _ _ g h;obtain⟨_,U⟩:=bF.mp t;obtain⟨_,Y⟩:=bF.mp z;have e3:lL m xs ys j=T:=by rw[lL,g,h];exact congrArg (Option.getD · bi) e
 rw[Zup,Zup,U,Y,e3];exact p (show A.units+1+m<cLine by omega) v B i q e
theorem eq3(I:Inv X zK σ H s):∀(n:Nat){A:a_}{x y:V}{t v:D}{u w:Value}{b:Bool},A.units+n<cLine->RelV x u->RelV y w->Rep X.K H x t->Rep X.K H y v->cX n t v=Z b->m7 A s u w b/\Zun A s u w b/\Zuo A s u w (!b):=by intro n;induction n using Nat.strongRecOn with|_ n U=>
  intro A x y t v u w b Y G J B h e;have g:A.units<cLine:=by omega
  by_cases i:(ja t&&ja v)=be;·rw[cJ]at i;obtain⟨xs,rfl⟩:=rj i.1;obtain⟨ys,rfl⟩:=rj i.2;clear i;refine cM (z8 e) λm c hm L C=>?_;subst C;subst hm;have hs:=λz:x=y=>RI I (z▸B) h e;cases B with|@tup a vs _ q r=>cases h with|@tup a2 vs2 _ q2 h=>
     cases G;cases J;obtain⟨RJ,M,N⟩:=Inv.lK I q;obtain⟨O,Q,T⟩:=Inv.lK I q2;have j:=Gh (λa b c d e f=>(U m (sW m) a b c d e f).1) Y r h M Q L;have k1:=Zug N T g j;have k2:=Zwx N T g j;rw[di,di,<-M.length,<-Q.length,r.length,h.length,z9 L]at k1 k2;refine⟨?_,k1,k2⟩;by_cases p:a=a2;·subst p;rw[hs W];exact .same _
     ·exact .of_refs p k1
  ·refine bG (Gb (jR.mpr i) e) λE h3 h4=>?_;subst E;exact Gg I g G J B h (jR.mpr i) h3 h4
theorem z_(I:Inv X zK σ H s)(n:Nat){A:a_}(h:A.units+n<cLine)(d:RelV x u)(f:RelV y w)(g:Rep X.K H x a)(i:Rep X.K H y c)(e:cX n a c=Z b):m7 A s u w b:=(eq3 I n h d f g i e).1
theorem RL(I:Inv X zK σ H s){A:a_}{b a:List Value}(e:A.units+(m+1)<cLine)(r:aG X.K H vs xs)(f:aG X.K H d ys)(g:Vals vs b)(h:Vals d a)(i:eA m xs ys=Z c):∀j (p:j<b.toArray.size)(q:j<a.toArray.size),m7 A.in1 s b.toArray[j] a.toArray[j] (lL m xs ys j):=Gh (z_ I m) e r f g h i
def bK(n:Nat)(x y:D):Option D:=(cX n x y).map .bl
def eB(n:Nat)(x y:D):Option D:=(cX n x y).map λb=>.bl (!b)
end
section
variable {X:Cx}
theorem RM{n:Nat}(a:X.A.units+n<cLine):nI X (dE .Eq) (bK n):=by intro zK s σ H x y v u Q I c f ⟨j,m,d,g,h,e,q⟩;obtain⟨b,i,rfl⟩:=bu.mp e;exact(eq3 I n a c f g h i).2.1 X.prog X.w X.xe _ ⟨.bl b,H,I,W,q _ H (aw.refl H) (.bl b)⟩
theorem RN{n:Nat}(a:X.A.units+n<cLine):nI X (dE .NotEq) (eB n):=by intro zK s σ H x y v u Q I c f ⟨j,m,d,g,h,e,q⟩;obtain⟨b,i,rfl⟩:=bu.mp e;exact(eq3 I n a c f g h i).2.2 X.prog X.w X.xe _ ⟨.bl (!b),H,I,W,q _ H (aw.refl H) (.bl _)⟩
noncomputable def kN:D->D->Bool|.aC,.aC=>be|.bl a,.bl b=>a==b|_,_=>bi
def nK(x:D):D->Option D|.aC=>Z (.bl (kN x .aC))|_=>am
def jY(x:D):D->Option D|.aC=>Z (.bl (!kN x .aC))|_=>am
theorem Aa{K:av}{H:Hp}{x:V}{d:D}(r:Rep K H x d):decide (x=.aC)=kN d .aC:=by cases r<;>rfl
noncomputable def jZ:D->Bool|.aC=>be|.bl _=>be|.int _=>be|.str _=>be|_=>bi
def mr(d:D)(u:Value):Bool:=match u with|.none=>eH .aC d|.bool b=>eH (.bl b) d|.int i _=>eH (.int i) d|.str z _=>eH (.str z) d|_=>bi
theorem Gi{K:av}{H:Hp}{d a:D}{y:V}(r:RelV y u)(q:Rep K H y a)(f:jZ a=be):mr d u=eH a d:=by cases q with|aC=>cases r;rfl|bl b=>cases r;rfl|int i=>obtain⟨t,rfl⟩:=r;rfl|str z _=>obtain⟨t,rfl⟩:=r;rfl|_=>exact absurd (show bi=be from f) ei
theorem RP{K:av}{H:Hp}{xs:List V}:∀{ds:List D}{a:List Value},Vals xs a->aG K H xs ds->ds.all jZ=be->a.any (mr d)=ds.any λy=>eH y d:=by induction xs with|nil=>intro ds a r q _;cases r;cases q;rfl|cons y xs b=>intro ds a r q f;cases r with|cons r t=>cases q with|cons q c=>rw[gg,cJ]at f;rw[ky,ky,Gi r q f.1,b t c f.2]
theorem RQ(I:Inv X zK σ H s){A:a_}(b:A.units<cLine)(g:RelV x v)(h:Rep X.K H x d)(i:hV d=bi):∀{ds:List D}{a:List Value},Vals xs a->aG X.K H xs ds->ds.all jZ=be->∀u∈a,m7 A s u v (mr d u):=by induction xs with|nil=>intro ds a r q _ u b;cases r;cases b|cons y xs j=>intro ds a r q f m mu;cases r with|cons r t=>cases q with|@cons _ c _ _ q p=>
    rw[gg,cJ]at f;rcases a7.mp mu with rfl|mu
    ·rw[Gi r q f.1];have e:ja c=bi/\hV c=bi:=by have w:=f.1;cases c<;>first|exact⟨W,W⟩|injection w
     exact(Gg I b r g q h (by rw[e.1];rfl) e.2 i).1
    ·exact j t p f.2 m mu
theorem wK(I:Inv X zK σ H s){A:a_}(h:A.units<cLine)(i:RelV x v)(j:Rep X.K H x b){ds:List D}{a:List Value}{f:Bool->D}(g:Vals xs a)(r:aG X.K H xs ds)(e:(if(ds.all jZ&&!hV b)=be then Z (f (ds.any λy=>eH y b))else am)=Z d):d=f (a.toArray.any (mr b))/\∀w∈a.toArray,m7 A s w v (mr b w):=by
 split at e;case isFalse=>injection e
 rename_i c;obtain rfl:=ao e;rw[cJ,sX]at c;exact⟨by rw[List.any_toArray,RP g r c.1],λw hw=>RQ I h i j c.2 g r c.1 w (List.mem_toArray.mp hw)⟩
def tV(x:D):D->Option D|.tup ys=>if(ys.all jZ&&!hV x)=be then Z (.bl (ys.any λy=>eH y x))else am|.lst ys=>if(ys.all jZ&&!hV x)=be then Z (.bl (ys.any λy=>eH y x))else am|_=>am
theorem zW(g:X.A.units+1<cLine):nI X (dE .In) tV:=by intro zK s σ H x y v u Q I i j ⟨m,z,d,t,w,e,q⟩;cases w with|@tup a xs ds h r=>cases j;obtain⟨b,c,p⟩:=Inv.lK I h;obtain⟨rfl,k⟩:=wK (A:=X.A.in1) (f:=.bl) I g i t c r e;exact SeqAt.in_tupleAt (mr m) p k ⟨.bl _,H,I,W,q _ H (aw.refl H) (.bl _)⟩|@lst a xs ds h r=>cases j;obtain⟨b,c,p⟩:=Inv.jE I h;obtain⟨rfl,k⟩:=wK (A:=X.A.in1) (f:=.bl) I g i t c r e;exact SeqAt.in_listAt (mr m) p k ⟨.bl _,H,I,W,q _ H (aw.refl H) (.bl _)⟩|_=>injection e
variable {e:Expr}{es:List Expr}{pos p:Pos}{f:ag->Option D}{fs:ag->Option (List D)}
def ay:D->D->Option D|.tup xs,.int i=>bN xs i|.lst xs,.int i=>bN xs i|.bJ ns,.int i=>(bN ns i).map .int|.str x,.int i=>(bN x.cps.toList i).map λc=>.str ⟨#[c]⟩|_,_=>am
theorem Ab{K:av}{H:Hp}{xs:List V}{ds:List D}(r:aG K H xs ds)(h:bN ds i=Z d):∃v,bN xs i=Z v/\Rep K H v d:=by unfold bN at h⊢;rw[r.length];cases q:iK ds.length i with|none=>simp_all|some j=>rw[q]at h;exact r.get h
def rk(X:Cx)(f:Value)(g:List D->Option D):Prop:=kF X f (λvs H Q=>∃ds d,aG X.K H vs ds/\g ds=Z d/\∀v H',aw H H'->Rep X.K H' v d->Q v H')
noncomputable def k1(f:D->Option D):List D->Option D|[d]=>f d|_=>am
theorem RR{f:D->Option D}(e:k1 f ds=Z d):∃x,ds=[x]/\f x=Z d:=by cases ds with|nil=>injection e|cons x t=>cases t with|nil=>exact⟨x,W,e⟩|cons _ _=>injection e
theorem rl{f:D->Option D}(h:∀{zK:List (Addr×Obj)}{s:aq}{σ:St}{H:Hp}{x:V}{u:Value}{Q:VK}{g d:D},Inv X zK σ H s->RelV x u->Rep X.K H x g->f g=Z d->(∀v H',aw H H'->Rep X.K H' v d->Q v H')->wpAny 'b' X.A (call v [u]) (EP X zK σ Q) X.xe s):rk X v (k1 f):=by intro zK s σ H xs y Q I i z;refine cM z λds d r e q=>?_;clear z;refine a9 (RR e) λx c j=>?_;subst c;clear e;cases r with|cons r t=>cases t;obtain⟨u,rfl,m⟩:=kG i;exact h I m r j q
theorem Ac{f:D->Option D}(h:∀{H:Hp}{x:V}{Q:VK}{c d:D},Rep X.K H x c->f c=Z d->(∀v H',aw H H'->Rep X.K H' v d->Q v H')->∃g,kF X v g/\g [x] H Q):rk X v (k1 f):=rl λI i r e q=>by obtain⟨_,j,m⟩:=h r e q;exact j _ _ _ _ _ _ _ I (.cons i .nil) m
theorem RT{x:Str}{id:String}{g:List D->Option D}(i:rk X (.builtin id) g)(j:Gl X x)(m:X.mg x=am)(r:eR x=Z (.builtin id))(t:lG X (e::es) fs)(hn:x≠"__name__":=by decide) (c:'f'=bi:=by decide) (u:a4 (e::es) X.env=(bi,eval e X.env)::a4 es X.env:=by rfl) (h:(ef pos (a4 es X.env)).any (·.1)=bi:=by rfl):DE X (.Call (.Name x p) (e::es) [] pos) (ax g fs):=cQ (wm i j m r t hn c u h)<|by rintro σ H Q ⟨w,d,R,e,q⟩;refine bS e λds y e=>?_;exact⟨w,ds,R,y,λvs E z A=>⟨ds,d,A,e,λv H' B C=>q v H' (z.trans B) C⟩⟩
theorem RU(i:rk X (.type T) g)(j:Gl X x)(m:X.mg x=am)(r:eR x=Z (.type T))(t:lG X (e::es) fs)(hn:x≠"__name__":=by decide)(c:'f'=bi:=by decide)(u:a4 (e::es) X.env=(bi,eval e X.env)::a4 es X.env:=by rfl)(h:(ef pos (a4 es X.env)).any (·.1)=bi:=by rfl):DE X (.Call (.Name x p) (e::es) [] pos) (ax g fs):=cQ (Fh i j m r t hn c u h)<|by rintro σ H Q ⟨w,d,R,e,q⟩;refine bS e λds y e=>?_;exact⟨w,ds,R,y,λvs E z A=>⟨ds,d,A,e,λv H' B C=>q v H' (z.trans B) C⟩⟩
def cA:List D->Option D:=k1 λd=>match d with|.tup xs=>Z (.int xs.length)|.lst xs=>Z (.int xs.length)|.bJ ns=>Z (.int ns.length)|.str x=>Z (.int x.length)|_=>am
theorem FK:rk X (.builtin "len") cA:=Ac λ{H}{x}{Q}{i}{d} r e q=>by cases r with|tup h c=>(obtain rfl:=ao e);exact⟨_,zR,_,_,W,.inr h,by rw[c.length];exact q _ H (aw.refl H) (.int _)⟩|lst h c=>(obtain rfl:=ao e);exact⟨_,zR,_,_,W,.inl (.inl h),by rw[c.length];exact q _ H (aw.refl H) (.int _)⟩|bJ h=>(obtain rfl:=ao e);exact⟨_,zR,_,_,W,.inl h,by rw[aE];exact q _ H (aw.refl H) (.int _)⟩|str x g=>(obtain rfl:=ao e);exact⟨_,QS,x,W,g,q _ H (aw.refl H) (.int _)⟩|_=>injection e
def Gj:List D->Option D:=k1 λd=>match d with|.tup xs=>Z (.tup xs)|.lst xs=>Z (.tup xs)|_=>am
end
def Wk(K:av)(J:It)(H:Hp)(ds:List D):Prop:=∀H',aw H H'->(∀(i:Nat)(d:D),ds[i]?=Z d->J.go i H'/\∀x a,J.qW i H' x a->aw H' a/\Rep K a x d)/\J.stop ds.length H'
noncomputable def RV(K:av)(f:ag->Option (List D)):TI:=λσ H R=>∃a ds,bL K H σ a/\f a=Z ds/\∀J H',aw H H'->Wk K J H' ds->R J H'
abbrev DI(X:Cx)(tg iter:Expr)(f:ag->Option (List D)):Prop:=PI X tg iter (RV X.K f)
noncomputable def RW(K:av)(g:D->ag->Option ag):TG:=λx σ H Q=>∃b d ρ',bL K H σ b/\Rep K H x d/\g d b=Z ρ'/\∀a H',aw H H'->bL K H' a ρ'->Q a H'
abbrev DG(X:Cx)(tg:Expr)(g:D->ag->Option ag):Prop:=PG X tg (RW X.K g)
noncomputable def gN(i:Nat):D->ag->Option ag:=λd a=>Z (a.set i (Z d))
noncomputable def cn(X:Cx)(a:Scope)(b:List (Str×Addr))(N':List Str)(C:Addr)(dH:aq)(jW:Hp)(c:List Addr):Cx:={X with N:=N',dH:=dH,jW:=jW,env:=Dy a b C X.env,outer:=X.stack,stack:=X.stack,ex:=c,fn:=λ_=>bi,pn:=[],xe:=λ_ _=>False}
noncomputable def jb(cells:List (Str×Addr)):List (Str×Addr)->Prop|[]=>True|(x,c)::r=>cells.lookup x=Z c/\jb cells r
theorem jb.get{cells:List (Str×Addr)}:∀{a:List (Str×Addr)},jb cells a->∀x c,a.lookup x=Z c->cells.lookup x=Z c|[],_,x,c,h=>by simp at h|(y,d)::r,⟨e,b⟩,x,c,h=>by rw[Zuq]at h;cases q:x==y with|true=>simp_all|false=>rw[q]at h;exact jb.get b x c h
noncomputable def jc(a:List (Str×Addr)):List (Str×vm)->Prop|[]=>True|(x,k)::r=>(k=.local\/k=.globalImplicit\/∃c,a.lookup x=Z c)/\jc a r
theorem jc.get{a:List (Str×Addr)}:∀{ns:List (Str×vm)},jc a ns->∀x,ns.lookup x=Z .cell\/ns.lookup x=Z .free->∃c,a.lookup x=Z c|[],_,x,h=>by simp at h|(y,k)::r,⟨d,b⟩,x,h=>by simp only[Zuq]at h;cases q:x==y with|true=>grind|false=>rw[q]at h;exact jc.get b x h
noncomputable def gq(X:Cx)(a:Scope):List Str->List (Option Nat)->Prop|[],[]=>True|_::N,am::cap=>gq X a N cap|x::N,Z i::cap=>(X.N[i]?=Z x/\(X.env.kindOf x=Z .cell\/X.env.kindOf x=Z .free)/\((kA a X.env).names.lookup x=Z .cell\/(kA a X.env).names.lookup x=Z .free))/\gq X a N cap|_,_=>False
theorem gq.len:∀{N:List Str}{cap:List (Option Nat)},gq X a N cap->cap.length=N.length|[],[],_=>rfl|_::N,am::cap,h=>by rw[bh,bh,gq.len (N:=N) (cap:=cap) h]|_::N,Z _::cap,h=>by rw[bh,bh,gq.len h.2]
theorem gq.get{X:Cx}:∀{N:List Str}{cap:List (Option Nat)},gq X a N cap->∀(j i:Nat),cap[j]?=Z (Z i)-> ∃x,N[j]?=Z x/\X.N[i]?=Z x/\(X.env.kindOf x=Z .cell\/X.env.kindOf x=Z .free)/\((kA a X.env).names.lookup x=Z .cell\/(kA a X.env).names.lookup x=Z .free)
 |[],[],_,j,i,h=>by simp at h|x::N,am::cap,h,j,i,e=>by cases j with|zero=>simp at e|succ j=>obtain⟨y,b,c⟩:=gq.get (N:=N) (cap:=cap) h j i (by simpa using e);exact⟨y,by simpa using b,c⟩
 |x::N,Z k::cap,h,j,i,e=>by cases j with
  |zero=>
   have d:k=i:=by simpa using e
   subst d;exact⟨x,W,h.1⟩|succ j=>obtain⟨y,b,c⟩:=gq.get h.2 j i (by simpa using e);exact⟨y,by simpa using b,c⟩
def nL(cap:List (Option Nat))(a:ag):ag:=cap.map λo=>o.bind λi=>aa i a
noncomputable def mv(cap:List (Option Nat))(σ:St):St:=cap.map λo=>o.bind λi=>match σ[i]? with|some (Z v)=>Z v|_=>am
theorem RY{K:av}{H:Hp}{σ:St}{a:ag}(R:bL K H σ a)(cap:List (Option Nat)):bL K H (mv cap σ) (nL cap a):=by refine⟨by simp[mv,nL],λj d h=>?_⟩;unfold nL at h;rw[bW]at h;unfold mv;rw[bW];cases q:cap[j]? with|none=>simp_all|some o=>rw[q]at h;cases o with|none=>(injection h with h;injection h)|some i=>have h':aa i a=Z d:=ao h;obtain⟨v,b,c⟩:=R.get i d (tR h');simp_all
theorem RZ{j:Nat}(h:(mv cap σ)[j]?=Z (Z v)):∃i,cap[j]?=Z (Z i)/\σ[i]?=Z (Z v):=by unfold mv at h;rw[bW]at h;cases q:cap[j]? with|none=>simp_all|some o=>rw[q]at h;cases o with|none=>(injection h with h;injection h)|some i=>grind
def tW(X:Cx)(a:List Expr)(e:ag->Option Bool):Prop:=∀(zK:List (Addr×Obj))(s:aq)(σ:St)(H:Hp)(d:ag)(b:Bool),Inv X zK σ H s->bL X.K H σ d->e d=Z b-> wpAny 'b' X.A (forIn a be λc r=>if r=be then do let ok<-isTrue c X.env (eval c X.env);pure (Zur ok)else pure (Zur r)) (λok f=>ok=b/\∃H',aw H H'/\Inv X zK σ H' f) X.xe s
noncomputable def bT(c:D->ag->Option ag)(e:ag->Option Bool)(f:ag->Option D):ag->List D->Option (List D)|_,[]=>Z []|ρ,d::ds=>(c d ρ).bind λa=>(e a).bind λb=>if b=be then(f a).bind λy=>(bT c e f a ds).map (y:: ·)else bT c e f a ds
def cf(cap:List (Option Nat))(fi:ag->Option (List D))(b:D->ag->Option ag)(c:ag->Option Bool)(d:ag->Option D):ag->Option D:=λa=>(fi a).bind λds=>if ds.length<aD then(bT b c d (nL cap a) ds).map .lst else am
theorem Inv.Gm{X:Cx}{s:aq}(I:Inv X zK σ H s)(hn:H a=am)(j:X.dH.heap.objs.size<=a)(r:a≠X.env.locals)(v:∀x c,X.env.cells.lookup x=Z c->c≠a)(y:∀p∈X.pn++zK,p.1≠a)(new:dG X.prog X.w (upd H a o) s.heap a o):Inv X zK σ (upd H a o) s:=by
 have S:=cU hn o;obtain⟨h,g,d,t,os⟩:=s;refine I.step (h':=h) (g':=g) (d':=d) (t':=t) (ch:=[a]) (λb f=>?_) (λb o _ _ _ e _=>e) (λb o _ _ _ e _=>⟨o.slots,e⟩) (λb o f e n=>?_) (λb o _ e=>⟨o,e⟩) (λb xs e=>S b _ e) (λb o u e=>S b _ e) (λb ps e=>⟨#[],by rw[S b _ e];simp⟩) (λm i=>i) (λb u e=>?_) I.bare;·grind
 ·simp_all[bf]
 ·by_cases f:b=a;·simp_all[bA]
  ·rw[bf f]at e;exact(I.aR b u e).jA (λ_ _ _ q=>q) (λc q=>S c _ q) λc xs q=>S c _ q
noncomputable abbrev j6(ys:List Value)(n:Nat):Obj:={cls:=.type "list",data:=.seq ys.toArray n}
def Ad(K:av)(f:ag->Option (List D)):TE:=λσ H Q=>∃b ds,bL K H σ b/\f b=Z ds/\∀vs a p,aw H a->a p=am->aG K a vs ds->Q (.ref p) (upd a p (.lst vs))
def eC(cap:List (Option Nat))(fi:ag->Option (List D))(b:D->ag->Option ag)(c:ag->Option Bool)(d:ag->Option D):ag->Option (List D):=λa=>(fi a).bind λds=>if ds.length<aD then bT b c d (nL cap a) ds else am
def GE(X:Cx)(b:Expr)(d:ag->Option D)(G:Hp->List V->List D->Prop):Prop:=PE X b (λσ H Q=>∃c y vs a,bL X.K H σ c/\d c=Z y/\G H vs a/\∀v H',aw H H'->G H' (vs++[v]) (a++[y])->Q v H')
theorem Gn(h:DE X a b):GE X a b (aG X.K):=cQ h<|by rintro σ H Q ⟨c,y,vs,d,R,e,g,q⟩;exact⟨c,y,R,e,λv H' s r=>q v H' s ((g.mono s).snoc r)⟩
theorem Gp{X:Cx}{f:Scope}(g0:∀H1,aw H H1->G H1 [] [])(gm:∀H1 H2 vs ds,aw H1 H2->G H1 vs ds->G H2 vs ds)(hc:X.calm=be)(hi:DI X tg iter fi)(R0:oG f X.env=pure Q)(R4:∀y∈f.names,y.2≠ .cell)(Ae:f.kind=.function)(R5:∀y∈f.names,y.2=.local->f.names.lookup y.1=Z .local)(jd:jb X.env.cells Q)(Gq:jc Q (kA f X.env).names)(Gr:gq X f N' cap)(tY:∀C dH jW M,DG (cn X f Q N' C dH jW M) tg gt/\tW (cn X f Q N' C dH jW M) ifs fc/\GE (cn X f Q N' C dH jW M) elt fe G)(hs:∀x,vj iter X.env x=pure x:=by intro _;rfl)(I:Inv X zK σ H s)(R:bL X.K H σ ρ)(e:eC cap fi gt fc fe ρ=Z outs)(fin:∀(C Dd:Addr)(H':Hp)(vs:List V)(s9:aq)(m9:Str->Option Value)(fl:Flow),Inv X zK σ (upd H' Dd (.lst vs)) s9->aw H H'->H' Dd=am->G H' vs outs->s9.heap.Ns C m9->upd H' Dd (.lst vs) C=am-> C≠X.env.locals->X.dH.heap.objs.size<=C->(∀x c,X.env.cells.lookup x=Z c->c≠C)->(∀p∈X.pn++zK,p.1≠C)->compPost 'b' X.A X.xe use Qv (.ref Dd) C (.ok fl) s9):wpAny 'b' X.A (comprehension (.ListComp elt [⟨tg,iter,ifs,0⟩] f pos) f X.env (firstIterPos [⟨tg,iter,ifs,0⟩] pos) (newList []) (firstAsync [⟨tg,iter,ifs,0⟩]) (firstIter [⟨tg,iter,ifs,0⟩] X.env) use) Qv X.xe s:=by
 refine bS e λds wL e=>?_;split at e;case isFalse=>injection e
 case isTrue hlen=>
 have R6:=e;refine wpAny_comprehension_free (use:=use) W hs R0 Ae R5 (aT (hi zK s σ H (λJ H1=>aw H H1/\Wk X.K J H1 ds) I ⟨ρ,ds,R,wL,λJ H1 a b=>⟨a,b⟩⟩) λv s1 h1=>aT h1 λPV q h2=>?_);refine b_ h2 λit M tn nM=>fS nM λJ H2 Af E T Gs tZ=>bG tZ λf2 sH wk=>?_;clear h2 nM tZ;subst Af;refine wpAny_newObj_type (wpAny_newFunctionEnv R4 (by intro y hy;simp at hy) (λO U L=>?_) Ae);dsimp only at U L⊢;generalize Ag:q.heap.push {cls:=.type "list",dict:=am,data:=.seq ([]:List Value).toArray}=G2 at U L⊢;have Ai:G2.objs.size=q.heap.objs.size+1:=by rw[<-Ag,l9]
 have t9:q.heap.objs.size≠G2.objs.size:=by rw[Ai];exact b5 (sW _)
 have Aj:q.heap.objs.size<=G2.objs.size:=by rw[Ai];exact i7 _
 have t:∀b,b<q.heap.objs.size->b≠G2.objs.size/\b≠q.heap.objs.size:=λb B=>⟨by rw[Ai];exact b5 (lp B),b5 B⟩;have old:∀b o,q.heap.get? b=Z o->O.get? b=Z o:=λb o e=>L.extBut b o (t b (bz e)).1 (bR _ (Ag▸bR _ e));have R7:O.get? q.heap.objs.size=Z (j6 [] 0):=L.extBut _ _ t9 (bR _ (Ag▸cW _ W));have wM:∀b∈M,b<q.heap.objs.size:=λb B=>by obtain⟨o,e,_⟩:=T.obj _ _ Gs b B;exact bz e
 have Y:∀x c,X.env.cells.lookup x=Z c->c<q.heap.objs.size:=λx c e=>by obtain⟨v,z⟩:=E.cell x c e;exact z.lt
 have R8:H2 G2.objs.size=am:=E.aR.fresh Aj;have R9:H2 q.heap.objs.size=am:=E.aR.fresh (ba _);have Gu:q.heap.objs.size∉cN X.stack:=λB=>by
  rcases a7.mp (E.vX _ B)with z|z
  ·exact absurd z (oB E.lt)
  ·exact E.Ey (ba _) z
 have R_:c5 X.prog X.w H2 O:=E.aR.kept old;have Ak:(cn X f Q N' G2.objs.size q H2 M).Ok:=by
  refine⟨E.ok.mod,Ae,E.ok.glob,E.ok.blt,Aj,λx y c h1 h2=>E.ok.inj x y c (jd.get x c h1) (jd.get y c h2),λx hx=>Gq.get x hx,λx c z _=>absurd (show bi=be from z) ei,E.ok.hd,E.ok.frames,.inl W,λb B=>⟨(t b (wM b B)).1,λx c h=>(f2 b B).2.2.2.2.1 x c (jd.get x c h)⟩,E.bs,
   cv E.ok.ly E.sz,λb o e B=>?_,λb B z=>?_,E.stack,E.vY⟩
  ·rcases(f2 b B).2.2.2.1 with z|z
   ·exact E.ok.oS b o e z
   ·exact absurd (iE (bz e) (cv E.ok.ly z)) (js _)
  ·rcases a7.mp (E.vX b z)with z|z
   ·exact(f2 b B).2.1 z
   ·exact(f2 b B).2.2.1 z
 have I3:Inv (cn X f Q N' G2.objs.size q H2 M) [(q.heap.objs.size,j6 [] 0)] (mv cap σ) H2 {q with heap:=O,toks:=q.toks+([]:List (Str×Value)).length}:=by
  refine⟨Ak,W,E.bare,Un.kept old,⟨_,U,λj x v hj hv Zv1=>?_⟩,λx c h=>?_,R8,λx c h=>E.fT x c (jd.get x c h),λp hp=>?_,R_,by show(mv cap σ).length=N'.length;rw[<-Gr.len];simp[mv]⟩
  ·obtain⟨i,Sa,Sb⟩:=RZ hv;refine d6 (Gr.get j i Sa) λy hy Se hk j7=>?_;have Am:y=x:=ao (hy.symm.trans hj);subst Am;obtain⟨m,hn,hl⟩:=E.loc;have Sf:dv X.env.scope y:=by
    rcases hk with hk|hk
    ·exact .inr (.inl hk)
    ·exact .inr (.inr hk)
   obtain⟨u,ru,Sg⟩:=hl i y v Se Sb Sf;refine⟨u,ru,.inr ⟨j7,?_⟩⟩;obtain⟨c,v5⟩:=Gq.get y j7;have Sh:=jd.get y c v5;refine⟨c,v5,?_⟩;rcases Sg with⟨Si,_⟩|⟨_,c',zw,Sj⟩
   ·rcases hk with hk|hk<;>(rw[Si]at hk;(injection hk with hk;injection hk))
   ·have ec:c'=c:=ao (zw.symm.trans Sh);subst ec;obtain⟨o,ho,hd⟩:=Sj;exact⟨o,old _ _ ho,hd⟩
  ·refine b8 (E.cell x c (jd.get x c h)) λv o ho hd=>?_;exact⟨v,o,old _ _ ho,hd⟩
  ·have ep:p=(q.heap.objs.size,j6 [] 0):=by simpa [cn]using hp
   subst ep;exact⟨R7,R9,t9,Gu,λv z=>nomatch z⟩
 have Gv:tn 0 O:=T.keep _ _ _ Gs λb B o e=>old b o e;have loop:∀t_:aq,t_={q with heap:=O,toks:=q.toks+([]:List (Str×Value)).length}->
   oD 'b' X.A (.compLoop (.ListComp elt [⟨tg,iter,ifs,0⟩] f pos) 0 (.ref it) (.ref q.heap.objs.size) (Dy f Q G2.objs.size X.env))
    (compPost 'b' X.A X.xe use Qv (.ref q.heap.objs.size) G2.objs.size) t_:=by
  rintro t_ rfl;obtain⟨Sk,Sl,Sm⟩:=tY G2.objs.size q H2 M;refine codeAny_loop W (λk s'=>∃(i:Nat)(ys:List Value)(n:Nat)(vs:List V)(rm:St)(ρ':ag)(H':Hp)(acc rest:List D),i<=ds.length/\k=ds.length-i/\Inv (cn X f Q N' G2.objs.size q H2 M) [(q.heap.objs.size,j6 ys n)] rm H' s'/\tn i s'.heap/\(∀b∈M,H' b=am)/\aw H2 H'∧
   Vals vs ys/\G H' vs acc/\bL X.K H' rm ρ'/\bT gt fc fe ρ' (ds.drop i)=Z rest/\outs=acc++rest/\ys.length<=i) (λk s' hI=>?_) ds.length
   ⟨0,[],0,[],mv cap σ,nL cap ρ,H2,[],outs,dQ _,W,I3,Gv,λb B=>(f2 b B).1,aw.refl _,.nil,g0 _ sH,RY (R.mono sH) cap,R6,W,ba _⟩;refine b_ hI λi ys n nM=>b_ nM λvs rm ρ' tZ=>dj tZ λH' acc rest An Sn Gw=>iH Gw λI' Ao Gx ua wN Gy=>jx Gy λAp Sq g wO wQ=>?_;clear hI nM tZ Gw Gy;subst Sn;have hD':H' q.heap.objs.size=am:=(I'.pin _ (dV _ bE)).2.1;have Aq:∀{Hx:Hp}{px:List (Addr×Obj)},(∀p∈px,p.1=q.heap.objs.size)->(∀b∈M,Hx b=am)->∀b∈M,nE (cn X f Q N' G2.objs.size q H2 M) px Hx b:=λ{Hx px} Gz hn b B=>
   ⟨hn b B,(t b (wM b B)).1,λz=>Ak.nv b B z,.inl B,λx c h=>(Ak.tr b B).2 x c h,λp hp z=>by
    have Ar:p∈px:=by simpa [cn]using hp
    rw[Gz p Ar]at z;exact(t b (wM b B)).2 z.symm⟩
  have one:∀p∈[(q.heap.objs.size,j6 ys n)],p.1=q.heap.objs.size:=λp hp=>by rw[aZ.mp hp]
  show wpAny _ X.A ((compTurn (.ListComp elt [⟨tg,iter,ifs,0⟩] f pos) 0 (.ref it) (.ref q.heap.objs.size) (Dy f Q G2.objs.size X.env)).onRaise (λx=>do noteFrame x (Dy f Q G2.objs.size X.env);theTreesLotGoes x)) _ _ s';refine wpAny_noted ?_;rw[compTurn_list];refine gV (Nr (gV ?_));by_cases mw:i<ds.length
  ·have Sr:ds[i]?=Z ds[i]:=cy mw;obtain⟨As,hy⟩:=(wk H' ua).1 i ds[i] Sr;rw[Dz mw]at g;simp only[bT]at g;refine bS g λrn Au g=>?_;refine bS g λb kO g=>?_;refine aT (T.item (cn X f Q N' G2.objs.size q H2 M) W W W hc i _ s' rm H' _ I' (Aq one Gx) Ao As) λr s4 zZ=>?_;obtain⟨u,hr,h4⟩:=zZ;subst hr;refine gV (aT h4 λ_ s5 ⟨x,H5,I5,r5,y5,Av,zF⟩=>gV ?_);obtain⟨GA,Su⟩:=hy x H5 y5;have zG:=I5.pinned (Aq one zF) (T.obj _ _ Av);have Sv:=Sq.mono GA;refine i5 (Sk _ s5 rm H5 x u (λN H6=>aw H5 H6/\bL X.K H6 N rn) zG r5 ⟨ρ',ds[i],rn,Sv,Su,Au,λN H6 a b=>⟨a,b⟩⟩) (λ_ s6 zZ=>?_) λ_ _ z=>dD z;obtain⟨N,H6,I6,Sw,GC⟩:=zZ;refine gV (i5 (Sl _ s6 N H6 rn b I6 GC kO) (λok s7 zZ=>?_) λ_ _ z=>dD z);obtain⟨aR,H7,GD,I7⟩:=zZ;subst aR;have Aw:=GC.mono GD;have S7:aw H' H7:=GA.trans (Sw.trans GD);have Sx:∀{Ax:St}{Hx:Hp}{sx:aq},Inv (cn X f Q N' G2.objs.size q H2 M) ([(q.heap.objs.size,j6 ys n)]++i_ M s5.heap) Ax Hx sx->sx.heap.get? q.heap.objs.size=Z (j6 ys n)/\Hx q.heap.objs.size=am:=
    λJ=>let z:=J.pin _ (dV _ (d_ _ bE));⟨z.1,z.2.1⟩;have GG:∀{Ax:St}{Hx:Hp}{sx:aq},Inv (cn X f Q N' G2.objs.size q H2 M) ([(q.heap.objs.size,j6 ys n)]++i_ M s5.heap) Ax Hx sx->tn (i+1) sx.heap/\∀b∈M,Hx b=am:=λJ=>
    ⟨T.keep _ _ _ Av λb B o e=>(J.pin (b,o) (dV _ (dV _ (qZ B e)))).1,λb B=>by obtain⟨o,e,d⟩:=T.obj _ _ Av b B;exact(J.pin (b,o) (dV _ (dV _ (qZ B e)))).2.1⟩
   cases ok with|false=>simp only[ll,if_false]at g⊢;obtain⟨t7,f7⟩:=GG I7;exact Zy1 ⟨W,_,by omega,i+1,ys,n,vs,N,rn,H7,acc,rest,mw,W,I7.wd,t7,f7,ua.trans S7,wN,gm _ _ _ _ S7 Ap,Aw,g,wO,NS wQ⟩|true=>
    simp only[if_true]at g⊢;refine bS g λy Sz g=>?_;simp only[bu]at g;obtain⟨SA,g,GH⟩:=g;refine gV (gV (i5 (Sm _ s7 N H7 (λv H8=>aw H7 H8/\G H8 (vs++[v]) (acc++[y])) I7 ⟨rn,y,vs,acc,Aw,Sz,gm _ _ _ _ S7 Ap,λv H8 a b=>⟨a,b⟩⟩) (λxv s8 zZ=>?_) λ_ _ z=>dD z));obtain⟨vy,H8,I8,ry,GI,SE⟩:=zZ;obtain⟨pD,pN⟩:=Sx I8;obtain⟨t8,f8⟩:=GG I8;have SG:ys.toArray.size<=aD:=by rw[di];exact du (iG wQ (l8 mw hlen))
    refine gV (append_at (hsz:=SG) pD λh9 GJ SH=>?_);have S8:aw H' H8:=S7.trans GI;have SI:Inv (cn X f Q N' G2.objs.size q H2 M) [] N H8 s8:=I8.v3 λp hp=>absurd hp 'k';have I9:Inv (cn X f Q N' G2.objs.size q H2 M) [] N H8 {s8 with heap:=h9}:=SI.turned (t':=s8.toks) (λb o B e=>(GJ.2 b B).trans e) pN t9 (.inr (ba _)) (λx c h z=>by
     have:=Y x c (jd.get x c h);rw[z]at this;exact js _ this) (λp hp=>absurd hp (by simp[cn]));have SJ:Inv (cn X f Q N' G2.objs.size q H2 M) [(q.heap.objs.size,j6 (ys++[xv]) (n+1))] N H8 {s8 with heap:=h9}:=I9.v3 λp hp=>by
     have ep:p=(q.heap.objs.size,j6 (ys++[xv]) (n+1)):=by simpa [cn]using hp
     subst ep;refine⟨?_,pN,t9,Gu,λv z=>nomatch z⟩;show h9.get? _=Z (j6 (ys++[xv]) (n+1));rw[SH];show Z ({cls:=.type "list",data:=.seq (ys.toArray.push xv) (n+1)}:Obj)=Z {cls:=.type "list",data:=.seq (ys++[xv]).toArray (n+1)};rw[List.push_toArray]
    refine Zy1 (Zy1 ⟨W,_,by omega,i+1,ys++[xv],n+1,vs++[vy],N,rn,H8,acc++[y],SA,mw,W,SJ,?_,f8,ua.trans S8,wN.append (.cons ry .nil),SE,Aw.mono GI,g,?_,?_⟩)
    ·exact T.keep _ _ _ t8 λb B o e=>(GJ.2 b (t b (wM b B)).2).trans e
    ·rw[wO,<-GH,ju];rfl
    ·rw[bB,vC];exact Dx wQ
  ·have Ay:i=ds.length:=NT An (DA.mp mw);subst Ay;have SK:=(wk H' ua).2;rw[NU]at g;simp only[bT]at g
   (obtain rfl:=ao g);rw[eZ]at wO;subst wO;refine aT (T.done (cn X f Q N' G2.objs.size q H2 M) W W W hc _ _ s' rm H' _ I' (Aq one Gx) Ao SK) λr s9 zZ=>?_;obtain⟨hr,I9⟩:=zZ;subst hr;refine Zy1 ?_;obtain⟨m9,wR,_⟩:=I9.loc;obtain⟨pD,pN,_⟩:=I9.pin (q.heap.objs.size,j6 ys n) (dV _ bE);have J1:Inv X zK σ H' s9:=E.OZ I9.os I9.base I9.aR I9.bare λb B=>⟨(f2 b B).2.2.2.1,(f2 b B).2.1,(f2 b B).2.2.2.2.1,(f2 b B).2.2.2.2.2⟩
   have nC:∀p∈X.pn++zK,p.1≠G2.objs.size:=λp hp=>(t _ (bz (E.pin p hp).1)).1;have nD:∀p∈X.pn++zK,p.1≠q.heap.objs.size:=λp hp=>(t _ (bz (E.pin p hp).1)).2;have hl:vs.length<=aD:=by rw[wN.length];exact du (iG wQ hlen)
   have J3:Inv X zK σ (upd H' q.heap.objs.size (.lst vs)) s9:=Inv.Gm J1 pN E.sz (b6 (t _ E.lt).2) (λx c h=>(t _ (Y x c h)).2) nD ⟨hl,ys,n,wN,pD⟩;exact fin _ _ _ _ _ _ _ J3 (sH.trans ua) pN Ap wR (by rw[bf (b6 t9)];exact I9.free) (b6 (t _ E.lt).1) (cv E.sz Aj) (λx c h=>(t _ (Y x c h)).1) nC
 exact codeAny_compStart_list (loop _ W) (T.self X.A 0 _ _ _ Gv (loop _ W))
theorem GK{X:Cx}{d:Scope}(O:X.calm=be)(T:DI X M iter fi)(i:oG d X.env=pure p)(j:∀y∈d.names,y.2≠ .cell)(m:d.kind=.function)(h:∀y∈d.names,y.2=.local->d.names.lookup y.1=Z .local)(z:jb X.env.cells p)(t:jc p (kA d X.env).names)(u:gq X d N' cap)(A:∀C f g v,DG (cn X d p N' C f g v) M U/\tW (cn X d p N' C f g v) B Y/\DE (cn X d p N' C f g v) E fe)(hs:∀x,vj iter X.env x=pure x:=by intro _;rfl):PE X (.ListComp E [⟨M,iter,B,0⟩] d pos) (Ad X.K (eC cap fi U Y fe)):=by intro zK s σ H Q I ⟨ρ,N,R,e,q⟩;rw[eval_ListComp];refine Gp (G:=aG X.K) (λ_ _=>.nil) (λ_ _ _ _ s r=>r.mono s) O T i j m h z t u (λC f g v=>by obtain⟨a,b,c⟩:=A C f g v;exact⟨a,b,Gn c⟩) hs I R e λC Dd H' vs s9 m9 fl J sm pN rr L hC hL hz hx hp=>?_;refine⟨m9,L,λh10 w=>?_⟩;exact⟨.ref Dd,_,J.turned (t':=s9.toks) (λb o hb e=>(w.2 b hb).trans e) hC hL (.inr hz) hx hp,W,q vs H' _ sm pN rr⟩
theorem GL{G:Hp->Hp->List V->List D->Prop}(g0:∀H m,aw H m->G H m [] [])(gm:∀H m H2 vs ds,aw m H2->G H m vs ds->G H H2 vs ds){X:Cx}{t:Pos}{d:Scope}(hN:X.N.Nodup)(T:X.N[i]?=Z x)(U:Loc X.env.scope x)(hc:X.calm=be)(hi:DI X u iter fi)(w:oG d X.env=pure E)(z:∀y∈d.names,y.2≠ .cell)(A:d.kind=.function)(r:∀y∈d.names,y.2=.local->d.names.lookup y.1=Z .local)(Y:jb X.env.cells E)(L:jc E (kA d X.env).names)(M:gq X d N' cap)(tY:∀C f g O,DG (cn X d E N' C f g O) u gt/\tW (cn X d E N' C f g O) h fc/\∀H,GE (cn X d E N' C f g O) B fe (G H))(hs:∀x,vj iter X.env x=pure x)(Az:eY (.ListComp B [⟨u,iter,h,0⟩] d pos) (Z (.Name x pos')) t.line X.env=pure be)(hf:X.fn x=be\/X.env.scope.names.lookup x=Z .local):PS X (.Assign [.Name x pos'] (.ListComp B [⟨u,iter,h,0⟩] d pos) t) (λDn σ H=>∃ρ j,bL X.K H σ ρ/\eC cap fi gt fc fe ρ=Z j/\∀vs m p,aw H m->m p=am->G H m vs j->Dn.nx (σ.set i (Z (.ref p))) (upd m p (.lst vs))):=by intro zK s σ H Dn I ⟨ρ,j,R,e,q⟩;rw[exec_Assign_Name_used _ _ _ _ Az];refine gV (Nr ?_);refine gV ?_;show wpAny _ _ (comprehension (.ListComp B [⟨u,iter,h,0⟩] d pos) d X.env (firstIterPos [⟨u,iter,h,0⟩] pos) (newList []) (firstAsync [⟨u,iter,h,0⟩]) (firstIter [⟨u,iter,h,0⟩] X.env) (Z (l7 (.Name x pos') X.env))>>=_) _ _ s;refine gV (Gp (G:=G H) (g0 H) (gm H) hc hi w z A r Y L M (λC f g O=>by obtain⟨a,b,c⟩:=tY C f g O;exact⟨a,b,c H⟩) hs I R e λC Dd H' vs s9 m9 fl J sm pN rr wR hC hL hz hx hp=>?_);show wpAny _ _ (l7 (.Name x pos') X.env (.ref Dd)) _ _ s9;refine wpAny_assign_Name (Ez J hN T U (v:=.ref Dd) W (λSM SN SQ=>?_) hf);obtain⟨a,sb,ha⟩:=SQ;have SR:C≠a:=(by grind);refine⟨m9,wR.at' λo ho=>(sb.2 C SR).trans ho,λh11 Q=>?_⟩;refine Zy1 (Zy1 ?_);exact⟨_,_,SN.turned (t':=SM.toks) (λb o hb e=>(Q.2 b hb).trans e) hC hL (.inr hz) hx hp,q vs H' _ sm pN rr⟩
theorem GO{X:Cx}{j:Pos}{d:Scope}(U:X.N.Nodup)(J:X.N[i]?=Z x)(L:Loc X.env.scope x)(Y:X.calm=be)(hi:DI X M iter fi)(m:oG d X.env=pure v)(t:∀y∈d.names,y.2≠ .cell)(u:d.kind=.function)(h:∀y∈d.names,y.2=.local->d.names.lookup y.1=Z .local)(O:jb X.env.cells v)(w:jc v (kA d X.env).names)(z:gq X d N' cap)(Q:∀C f g A,DG (cn X d v N' C f g A) M gt/\tW (cn X d v N' C f g A) B fc/\DE (cn X d v N' C f g A) E fe)(hs:∀x,vj iter X.env x=pure x)(T:eY (.ListComp E [⟨M,iter,B,0⟩] d pos) (Z (.Name x pos')) j.line X.env=pure be)(hf:X.fn x=be\/X.env.scope.names.lookup x=Z .local):PS X (.Assign [.Name x pos'] (.ListComp E [⟨M,iter,B,0⟩] d pos) j) (zC (Ad X.K (eC cap fi gt fc fe)) (zB i)):=cz (GL (G:=λ_=>aG X.K) (λ_ _ _=>.nil) (λ_ _ _ _ _ s r=>r.mono s) U J L Y hi m t u h O w z (λC f g A=>by obtain⟨a,b,c⟩:=Q C f g A;exact⟨a,b,λ_=>Gn c⟩) hs T hf)<|by rintro Dn σ H ⟨ρ,I,R,e,q⟩;exact⟨ρ,I,R,e,λvs H1 p s hp r=>q vs H1 p s hp r⟩
section
variable {X:Cx}{e a b:Expr}{pos p p2:Pos}{f fa fb:ag->Option D}
noncomputable def SS:D->String|.aC=>"NoneType"|.bl _=>"bool"|.int _=>"int"|.str _=>"str"|.tup _=>"tuple"|.lst _=>"list"|.bJ _=>"list"|.aW _ _=>"dict"|.tab .. =>"dict"
inductive Ty where|int|bool|str|tuple|list
noncomputable def Ty.nm:Ty->String|.int=>"int"|.bool=>"bool"|.str=>"str"|.tuple=>"tuple"|.list=>"list"
noncomputable def ub:Ty->D->Bool|.int,.int _=>be|.int,.bl _=>be|.bool,.bl _=>be|.str,.str _=>be|.tuple,.tup _=>be|.list,.lst _=>be|.list,.bJ _=>be|_,_=>bi
theorem SU(K:av)(T:Ty)(d:D):vE K (.type (SS d)) (.type T.nm)=Z (ub T d):=by cases T<;>cases d<;>kernel_rfl
theorem SV(T:Ty):kF X (.builtin "isinstance") (λxs H Q=>∃x d,xs=[x,.ty T.nm]/\Rep X.K H x d/\Q (.bl (ub T d)) H):=by intro zK s σ H xs M Q I J h;refine cM h λx d A r q=>?_;clear h;subst A;refine cM (E5 J) λu N A m L=>?_;subst A;cases L;have e:=SU X.K T d;have g:∀tk,EP X zK σ Q (.bool (ub T d)) {s with toks:=tk}:=λtk=>⟨.bl _,H,I.tok tk,W,q⟩;cases r with|aC=>cases(show u=dC from m);exact m_ PySem.W.kitx_none I.gh kz e (λz=>nomatch z) g|bl y=>cases(show u=sF y from m);exact m_ PySem.W.kitx_bool I.gh kz e (λz=>nomatch z) g|int i=>obtain⟨t,q⟩:=(show ∃t,u=yR i t from m);subst q;exact m_ PySem.W.kitx_int I.gh kz e (λz=>nomatch z) g|str y O=>obtain⟨t,q⟩:=(show ∃t,u=ko y t from m);subst q;exact m_ PySem.W.kitx_str I.gh kz e (λz=>nomatch z) g|@tup a xs ds h G=>cases(show u=eQ a from m);refine a9 (Inv.lK I h) λC _ j=>aM j λo v w _=>?_;clear j;exact m_ PySem.W.kitx_tuple I.gh ⟨o,v,w⟩ e (λz=>nomatch z) g|@lst a xs ds h G=>cases(show u=eQ a from m);refine a9 (Inv.jE I h) λC _ j=>aM j λo v w _=>?_;clear j;exact m_ Zus I.gh ⟨o,v,w⟩ e (λz=>nomatch z) g|@aW a B ks vs ds h G U hn=>cases(show u=eQ a from m);refine bG (oZ I.aR (.inr ⟨_,h⟩)) λ_ _ j=>a9 j λ_ _ E=>dj E λB _ _ v w _=>?_;clear j E;exact m_ Zut I.gh ⟨B,v,w.1⟩ e (λz=>nomatch z) g|@tab a ks vs ds h G=>cases(show u=eQ a from m);obtain⟨⟨_,_,_,_,_,_,B,_,_,v,w,_⟩,_⟩:=I.aR a _ h;exact m_ Zut I.gh ⟨B,v,w.1⟩ e (λz=>nomatch z) g|@bJ a ns h=>cases(show u=eQ a from m);refine aM (I.list h) λC _ o _=>?_;refine aM o.isList λB v w _=>?_;exact m_ Zus I.gh ⟨B,v,w⟩ e (λz=>nomatch z) g
def wU(T:Ty)(f:ag->Option D):ag->Option D:=λg=>(f g).bind λd=>Z (.bl (ub T d))
theorem AA:eR "isinstance"=Z (.builtin "isinstance"):=by decide+kernel
theorem SW:eR "int"=Z (.type "int"):=by decide+kernel
theorem SX:eR "bool"=Z (.type "bool"):=by decide+kernel
theorem GQ:eR "tuple"=Z (.type "tuple"):=by decide+kernel
theorem SY:eR "list"=Z (.type "list"):=by decide+kernel
theorem boot_all:eR "all"=Z (.builtin "all"):=by decide+kernel
theorem boot_sorted:eR "sorted"=Z (.builtin "sorted"):=by decide+kernel
theorem boot_enumerate:eR "enumerate"=Z (.type "enumerate"):=by decide+kernel
theorem S0(T:Ty)(u:Gl X "isinstance")(w:X.mg "isinstance"=am)(g:Gl X x)(h:X.mg x=am)(y:eR x=Z (.type T.nm))(z:DE X a fa)(hn:x≠"__name__":=by decide)(i:'f'=bi:=by decide)(r:a4 [a,.Name x p2] X.env=(bi,eval a X.env)::a4 [.Name x p2] X.env:=by rfl)(j:(ef pos (a4 [.Name x p2] X.env)).any (·.1)=bi:=by rfl)(m:a4 [.Name x p2] X.env=(bi,eval (.Name x p2) X.env)::a4 [] X.env:=by rfl):DE X (.Call (.Name "isinstance" p) [a,.Name x p2] [] pos) (wU T fa):=cQ (wm (SV T) u w AA (ek z (ek (EC (v:=.ty T.nm) g h y W hn i) gj m) r) 'a' (by exact W) r j)<|by
  rintro σ H Q ⟨A,d,R,e,q⟩;refine bS e λt B e=>?_
  (obtain rfl:=ao e);exact⟨A,t,R,B,λv C E G=>⟨v,t,W,G,q _ C E (.bl _)⟩⟩
noncomputable def my(f:ag->Option D):ag->Option D:=λg=>(f g).bind λd=>match d with|.int i=>Z (.int (-i))|_=>am
noncomputable def GS:D->Option Bool|.bl b=>Z b|_=>am
def ro:List D->Option (List Bool)|[]=>Z []|d::ds=>(GS d).bind λb=>(ro ds).map (b:: ·)
theorem GU:∀{ds:List D}{bs:List Bool},ro ds=Z bs->ds=bs.map D.bl|[],bs,h=>by cases h;rfl|d::ds,bs,h=>by refine bS h λb g h=>?_;rw[bu]at h;obtain⟨i,j,rfl⟩:=h;cases d<;>cases g;rw[br,GU j]
theorem GV{K:av}{H:Hp}:∀{bs:List Bool}{vs:List V}{d:List Value},aG K H vs (bs.map D.bl)->Vals vs d->d=bs.map sF|[],_,_,h,g=>by cases h;cases g;rfl|b::bs,_,_,h,g=>by cases h with|cons h t=>cases h;cases g with|cons r i=>cases r;rw[br,GV t i]
def o_:List D->Option D:=k1 λd=>match d with|.lst xs=>(ro xs).map λbs=>.bl (bs.all id)|_=>am
theorem S6(bs:List Bool):(eG bs.length).all (λi=>bs.getD i bi)=bs.all id:=by induction bs with|nil=>rfl|cons b r d=>rw[bh,Ge,gg,<-d];rfl
noncomputable def strOf:D->Option Str|.str x=>Z x|_=>am
def strsOf:List D->Option (List Str)|[]=>Z []|d::ds=>(strOf d).bind λb=>(strsOf ds).map (b:: ·)
theorem mz:∀{ds:List D}{bs:List Str},strsOf ds=Z bs->ds=bs.map D.str|[],bs,h=>by cases h;rfl|d::ds,bs,h=>by refine bS h λb g h=>?_;rw[bu]at h;obtain⟨i,j,rfl⟩:=h;cases d<;>cases g;rw[br,mz j]
theorem uc{K:av}{H:Hp}:∀{bs:List Str}{vs:List V}{d:List Value},aG K H vs (bs.map D.str)->Vals vs d->y9 d bs|[],_,_,h,g=>by cases h;cases g;exact .nil|b::bs,_,_,h,g=>by cases h with|cons h t=>cases h;cases g with|cons r i=>obtain⟨t',rfl⟩:=r;exact .cons _ _ (uc t i)
theorem wV{K:av}{H:Hp}:∀{bs:List Str}{vs:List V},aG K H vs (bs.map D.str)->∀x∈bs,x.length<=aD|[],_,_,x,hx=>by cases hx|b::bs,_,g,x,hx=>by cases g with|cons g t=>cases g with|str _ h=>
    rcases a7.mp hx with rfl|hx;·exact h
    ·exact wV t x hx
theorem ud{K:av}{H:Hp}:∀{bs:List Str}{d:List Value},y9 d bs->(∀x∈bs,x.length<=aD)->Vals (bs.map V.str) d/\aG K H (bs.map V.str) (bs.map D.str)|[],_,.nil,_=>⟨.nil,.nil⟩|b::bs,_,.cons _ t r,h=>by obtain⟨g,i⟩:=ud (K:=K) (H:=H) r λx j=>h x (cx _ j);exact⟨.cons ⟨t,W⟩ g,.cons (.str b (h b bE)) i⟩
def rp(x:Str):List Str->List Str|[]=>[x]|y::r=>if bC y x then y::rp x r else x::y::r
def d8:List Str->List Str|[]=>[]|x::r=>rp x (d8 r)
theorem AB(x:Str):∀l:List Str,(rp x l).Perm (x::l)
 |[]=>.refl _|y::r=>by
  unfold rp;split;·exact((AB x r).cons y).trans (.swap x y r)
  ·exact .refl _
theorem iM:∀l:List Str,(d8 l).Perm l|[]=>.refl _|x::r=>(AB x (d8 r)).trans ((iM r).cons x)
theorem nN(d:bC x y=be)(g:bC y z=be):bC x z=be:=by unfold bC at*;grind
theorem wW{x y:Str}(h:x.cps.toList=y.cps.toList):x=y:=by cases x;simp_all
theorem rq(x y:Str):bC x y=be\/x=y\/bC y x=be:=by unfold bC;simp only[decide_eq_true_eq];grind[wW,List.le_antisymm]
theorem GX(x:Str):bC x x=bi:=by simp[bC,decide_eq_false_iff_not,List.lt_irrefl]
theorem AD(h:bC x y=be):bC y x=bi:=by grind[bC,GX,nN]
abbrev nO(l:List Str):Prop:=l.Pairwise λa b=>bC b a=bi
theorem GY(x:Str):∀l:List Str,nO l->nO (rp x l)
 |[],_=>DB _ _|y::r,h=>by
  have h':=g_.mp h;unfold rp;split
  ·rename_i d;refine g_.mpr ⟨λz hz=>?_,GY x r h'.2⟩;rcases a7.mp ((AB x r).mem_iff.mp hz)with rfl|hz;·exact AD d
   simp_all
  ·rename_i d;have g:bC y x=bi:=jR.mpr d;refine g_.mpr ⟨λz hz=>?_,h⟩;rcases a7.mp hz with rfl|hz;·exact g
   grind[bC,rq,nN]
theorem ue:∀l:List Str,nO (d8 l)|[]=>.nil|x::r=>GY x _ (ue r)
theorem wX:∀{l m:List Str},nO l->nO m->l.Perm m->l=m
 |[],m,_,_,p=>(List.Perm.nil_eq p)|x::r,[],_,_,p=>by simp_all|x::r,y::t,d,g,p=>by
  have e:x=y:=by
   have hx:=a7.mp (p.mem_iff.mp bE);have hy:=a7.mp (p.mem_iff.mpr bE);rcases hx with rfl|hx;·rfl
   ·rcases hy with rfl|hy;·rfl
    ·have h:=(g_.mp g).1 x hx;have i:=(g_.mp d).1 y hy;grind[rq]
  subst e;rw[wX (g_.mp d).2 (g_.mp g).2 (p.cons_inv)]
theorem GZ:∀(r:List Str)(x:Str),risingS x r=be->nO (x::r)
 |[],x,_=>DB _ _|y::r,x,h=>by
  unfold risingS at h;rw[cJ]at h;have i:=GZ r y h.2;have d:bC y x=bi:=by have:=h.1;rw[ltCps_eq]at this;unfold bC;simpa using this
  refine g_.mpr ⟨λz hz=>?_,i⟩;rcases a7.mp hz with rfl|hz;·exact d
  ·have g:=(g_.mp i).1 z hz;cases q:bC z x with
   |false=>rfl|true=>
    rcases rq y z with t|t|t;·rw[nN t q]at d;injection d
    ·rw[t,q]at d;injection d
    ·rw[t]at g;injection g
theorem AE(h:sortedS l=be):nO l:=by cases l with|nil=>exact .nil|cons x r=>exact GZ r x h
theorem AF{s:aq}(I:Inv X zK σ H s){out:Array Value}{g:List V}(hz:g.length<=aD)(h:Vals g out.toList)(i:aG X.K H g ds)(q:∀v H',aw H H'->Rep X.K H' v (.lst ds)->Q v H'):EP X zK σ Q (.ref (s.heap.objs.size+1)) {s with heap:=sortedAll s.heap d out}:=by obtain⟨j,m⟩:=sortedAll_at s.heap d out;have hf:=cU (I.aR.fresh (i7 _)) (.lst g);exact⟨.ref (s.heap.objs.size+1),_,I.laid (t':=s.toks) (o:=.lst g) (λb r q=>sortedAll_old q) (i7 _) ⟨hz,out.toList,j,h,by simpa [cL]using m⟩,W,q _ _ hf (.lst (.inl bA) (i.mono hf))⟩
def AG:List D->Option D:=k1 λd=>match d with|.lst xs=>if xs.length<64 then(strsOf xs).map λbs=>.lst ((d8 bs).map .str)else am|_=>am
def AH:D->D->Option D|.str x,.lst xs=>(strsOf xs).bind λbs=>if(bs.map (·.length)).sum+bs.length*x.length<=1000000 then Z (.str (vF x bs))else am|_,_=>am
theorem S9:wq X "str.join" (λx xs H Q=>∃y j m d,xs=[y]/\Rep X.K H x j/\Rep X.K H y m/\AH j m=Z d/\∀v H',aw H H'->Rep X.K H' v d->Q v H'):=by intro zK s σ H x xs v M Q I A B h;refine b_ h λy j m g=>d6 g λd r C w i=>bc i λe q=>?_;clear h g i;subst r;obtain⟨u,rfl,E⟩:=kG B;cases C with
 |str x N=>obtain⟨t,rfl⟩:=A;cases w with
  |@lst a vs ds h z=>
   cases E;refine bS (show(strsOf ds).bind (λbs=>if(bs.map (·.length)).sum+bs.length*x.length<=1000000 then Z (D.str (vF x bs))else am)=Z d from e) λbs G e=>?_;split at e;case isFalse=>injection e
   rename_i hz
   (obtain rfl:=ao e);rw[mz G]at z;obtain⟨J,L,p⟩:=Inv.jE I h;refine join_list p (uc z L) (cv hz (by exact kB ..)) λt' k=>?_;rw[show Txt.join x bs=vF x bs from StrLaws.glued_eq_join x bs];exact⟨.str _,H,I.tok k,⟨t',W⟩,q _ H (aw.refl H) (.str _ (cv (StrLaws.join_length_le x bs) (cv hz (by exact kB ..))))⟩|_=>injection e
 |_=>first|injection e|(cases w<;>injection e)
noncomputable def wY(T:String)(d:D):Bool:=match d with|.str _=>T=="str"|.lst _=>T=="list"|.bJ _=>T=="list"|_=>bi
theorem G1{K:av}{H:Hp}{v:V}{T:String}(r:Rep K H v d)(h:wY T d=be):wt K T v H:=by cases r with|str x g=>exact eq_of_beq h|lst h' i=>exact .inl ⟨eq_of_beq h,_,.inl h'⟩|bJ h'=>exact .inl ⟨eq_of_beq h,_,h'⟩|_=>injection h
def wZ(fa fb:ag->Option D):ag->Option D:=λd=>(fa d).bind λx=>if wY "str" x=be then(fb d).bind λy=>AH x y else am
theorem S_{apos cpos:Pos}(B:DE X a fa)(C:DE X b fb)(g:Dp a "join" X.env (eval a X.env)=eval a X.env:=by rfl) (i:((ef cpos (a4 [b] X.env)).all (λx=>!x.1)&&(backToKw cpos (keywordEach [] X.env)).all (λx=>x.1.isSome) &&decide (([b]:List Expr).length+([]:List yY).length+(if([]:List yY).isEmpty then 0 else 1)<30))=be:=by rfl) (h:(apos.endLine==cpos.line)=be:=by rfl) (j:a4 [b] X.env=(bi,eval b X.env)::a4 [] X.env:=by rfl):DE X (.Call (.Attribute a "join" apos) [b] [] cpos) (wZ fa fb):=cQ (lD PySem.F.plainAttrs_str PySem.F.slot_str_join PySem.F.type_str_join S9 B (ek C gj j) g i h j W)<|by
  rintro σ H Q ⟨m,d,R,e,q⟩;refine bS e λr E e=>?_;split at e;case isFalse=>injection e
  rename_i G;refine bS e λt I e=>?_;exact⟨m,r,R,E,λv N w y=>⟨G1 y G,m,t,R.mono w,I,λu H2 A J=>⟨u,r,t,d,W,y.mono A,J,e,λz H' L M=>q z H' (w.trans (A.trans L)) M⟩⟩⟩
end
end DL
namespace HT
open PySem PySem.Spec PyProof.Rows L2
section
variable {prog:a6}{w:World}{A:a_}{E:Value->aq->Prop}{s:aq}
theorem Ta{t e:Addr}{a:Array Value}{j p:Value}{lo d:Option Int}{Q:Value->aq->Prop}(b:IsTup s.heap t a)(q:s.heap.IsSliceOf e j p .none)(r:m4 j lo)(u:m4 p d) (hw:a5 a.size 0 lo=0/\a5 a.size a.size d=a.size) (h:Q (.ref t) s):wpAny 'h' A (lj (.ref t) (.ref e)) Q E s:=by
 refine aM (id q) λos f g v=>?_;have i:s.TypeIs (.ref e) "slice":=⟨os,f,g⟩;unfold lj;try with_reducible refine wpAny_holding ?_
 first|refine gV (Zy1 ?_)|skip
 refine gV (ZtP b.typeIs (by exact W) ?_);refine gV (qp (name:=oF "__getitem__") b.typeIs vp (jt vp b.typeIs ZtQ ?_ (ZtR _ _)));show wpAny _ _ (NH (.ref t)>>=_) _ _ s;refine gV (tupleItemsOf_ b ?_);refine gV (sP i ?_);rw[if_pos (by exact W)];refine gV (Fj q r u ?_);have c:(((a5 a.size 0 lo:Nat):Int)==0&&(1:Int)==1&&(a5 a.size a.size d-a5 a.size 0 lo)==a.size)=be:=by rw[hw.1,hw.2];simp
 show wpAny _ _ (if(((a5 a.size 0 lo:Nat):Int)==0&&(1:Int)==1&&(a5 a.size a.size d-a5 a.size 0 lo)==a.size)=be then _ else _) _ _ s;rw[if_pos c];refine gV (m:=Zuu _) ?_;unfold Zuu;refine gV (sP b.typeIs (Zy1 ?_));rw[if_pos (by exact W)];refine gV (wpAny_rule ?_);exact Zy1 ⟨_,W,Zy1 h⟩
end
end HT
namespace DL
open PySem PySem.Spec PyProof.Rows L2
section
variable {X:Cx}{e a c:Expr}{pos p p2:Pos}{f fa:ag->Option D}
def bU{d:Type}(xs:List d)(lo g:Option Int):List d:=(xs.drop (HT.a5 xs.length 0 lo)).take (HT.a5 xs.length xs.length g-HT.a5 xs.length 0 lo)
theorem Tb{d i:Type}(g:d->i)(xs:List d)(lo h:Option Int):(bU xs lo h).map g=bU (xs.map g) lo h:=by unfold bU;rw[NV,Zuv,aE]
theorem AJ{d:Type}(xs:List d)(lo g:Option Int):(bU xs lo g).length<=xs.length:=by unfold bU;rw[kv,Dj];lia
theorem AK{K:av}{H:Hp}{vs:List V}{ds:List D}(r:aG K H vs ds)(lo d:Option Int):aG K H (ml vs lo d) (bU ds lo d):=by unfold ml bU;rw[r.length];exact(r.drop _).take _
def pa:D->Option Int->Option Int->Option D|.lst xs,lo,d=>Z (.lst (bU xs lo d))|.bJ ns,lo,d=>Z (.lst ((bU ns lo d).map .int))|.tup xs,lo,d=>if HT.a5 xs.length 0 lo=0/\HT.a5 xs.length xs.length d=xs.length then am else Z (.tup (bU xs lo d))|.str x,lo,d=>Z (.str ⟨(bU x.cps.toList lo d).toArray⟩)|_,_,_=>am
theorem Tc(lo g:Option Int)(n:Nat):Zuw lo g 1 n=sliceRange ((HT.a5 n 0 lo:Nat):Int) ((HT.a5 n n g:Nat):Int) 1:=by unfold Zuw;have h:∀o d:Option Int,True:=λ_ _=>trivial;cases lo<;>cases g<;>simp only[HT.a5,show(1:Int)>0 by decide,if_true,<-HT.zN]<;>congr 1<;>(try split)<;>(try split)<;>omega
theorem Td(x:Str)(lo d:Option Int):NW x lo d=⟨(bU x.cps.toList lo d).toArray⟩:=by
 have g:x.length=x.cps.toList.length:=by show x.cps.size=_;simp
 unfold NW;rw[Tc,sliceRange_one,pick_run];split;·rename_i h;simp only[cJ,beq_iff_eq,aE,oH]at h;apply wW;have j:=HT.zM x.length 0 (dQ _) lo;have m:=HT.zM x.length x.length (ba _) d;have i:=h.2;unfold bU;rw[<-g,i,show HT.a5 x.length 0 lo=0 by lia,Zux,g,jS]
 ·unfold bU;rw[<-g]
theorem Te:mj X (λx lo m H Q=>∃z,x=.str z/\z.length<=aD/\Q (.str ⟨(bU z.cps.toList lo m).toArray⟩) H):=by intro zK s σ H x v E G lo m J Q I B g C y h;refine aM h λz r hz q=>?_;clear h;subst r;obtain⟨t,rfl⟩:=B;rw[<-Td]at q;refine⟨"str",_,PySem.F.slot_str_getitem.lookup,NK _ _ _,?_⟩;have d:∀t' k,EP X zK σ Q (.str (NW z lo m) t') {s with toks:=k}:=λt' k=>⟨.str _,H,I.tok k,⟨t',W⟩,q⟩;cases C with
 |none=>cases y with
  |none=>exact DC (l:=am) (u:=am) (st:=am) g W (DD ⟨cv (DF z _ _) hz,d⟩)|int j w=>exact DC (l:=am) (u:=Z (j,w)) (st:=am) g W (DD ⟨cv (DF z _ _) hz,d⟩)
 |int i A=>cases y with|none=>exact DC (l:=Z (i,A)) (u:=am) (st:=am) g W (DD ⟨cv (DF z _ _) hz,d⟩)|int j w=>exact DC (l:=Z (i,A)) (u:=Z (j,w)) (st:=am) g W (DD ⟨cv (DF z _ _) hz,d⟩)
noncomputable def Tf(K:av)(f:ag->Option (Option Int)):TO:=λσ H Q=>∃d o,bL K H σ d/\f d=Z o/\∀H',aw H H'->Q o H'
abbrev DO(X:Cx)(e:Option Expr)(f:ag->Option (Option Int)):Prop:=PO X e (Tf X.K f)
theorem G3{e:Option Expr}{t t':TO}(h:PO X e t)(d:∀σ H Q,t' σ H Q->t σ H Q):PO X e t':=λzK s σ H Q I hw=>h zK s σ H Q I (d σ H Q hw)
noncomputable def eU:ag->Option (Option Int):=λ_=>Z am
noncomputable def c6(f:ag->Option D):ag->Option (Option Int):=λg=>(f g).bind λd=>match d with|.int i=>Z (Z i)|_=>am
def gu(fa:ag->Option D)(fl g:ag->Option (Option Int)):ag->Option D:=λd=>(fa d).bind λx=>(fl d).bind λl=>(g d).bind λh=>pa x l h
theorem Tg:mj X (λx lo i H Q=>∃a xs,x=.ref a/\cF X.K H a xs/\(HT.a5 xs.length 0 lo=0/\HT.a5 xs.length xs.length i=xs.length)/\Q (.ref a) H):=by
 intro zK s σ H x v z A lo i B Q I m t u w h;refine cE h λa xs d y hw q=>?_;clear h;subst d;cases m;refine aM (I.tuple y) λg r j hz=>?_;have hlen:g.toArray.size=xs.length:=by rw[di];exact r.length.symm
 refine⟨"tuple",_,vp.lookup,j.typeIs,?_⟩;exact HT.Ta j t u w (by rw[hlen];exact hw) ⟨.ref a,H,I,W,q⟩
def nP:D->Option Int->Option Int->Option D|.tup xs,lo,g=>if HT.a5 xs.length 0 lo=0/\HT.a5 xs.length xs.length g=xs.length then Z (.tup xs)else Z (.tup (bU xs lo g))|d,lo,g=>pa d lo g
def jF(fa:ag->Option D)(fl g:ag->Option (Option Int)):ag->Option D:=λd=>(fa d).bind λx=>(fl d).bind λl=>(g d).bind λh=>nP x l h
theorem G4{lo y:Option Expr}{fl A:ag->Option (Option Int)}(G:DE X a fa)(I:DO X lo fl)(J:DO X y A):DE X (.Subscript a (.Slice lo y am p2) pos) (jF fa fl A):=cQ (QB (QR.or (QD.or (Te.or Tg))) G I J)<|by rintro σ H Q ⟨m,d,R,e,q⟩;refine bS e λL M e=>?_;refine bS e λl N e=>?_;refine bS e λh O e=>?_;refine⟨m,L,R,M,λv H1 t T=>⟨m,l,R.mono t,N,λH2 u=>⟨m,h,R.mono (t.trans u),O,λB C=>?_⟩⟩⟩;have S:=t.trans (u.trans C);have U:=T.mono (u.trans C);have j:∀v H',aw B H'->Rep X.K H' v d->Q v H':=λv H' s r=>q v H' (S.trans s) r;cases U with
  |@lst a vs ds h' i=>(obtain rfl:=ao e);exact .inl ⟨a,vs,W,.inl h',λp g=>j _ _ (cU g _) (.lst (.inl bA) ((AK i l h).mono (cU g _)))⟩|@bJ a ns h'=> (obtain rfl:=ao e);refine .inl ⟨a,_,W,h',λp g=>j _ _ (cU g _) (.lst (.inl bA) ?_)⟩;have z:=(AK (tQ (K:=X.K) (H:=upd B p (.lst (ml (ns.map V.int) l h))) ns) l h);rw[<-Tb]at z;exact z|@tup a vs ds h' i=>
   have w:(if HT.a5 ds.length 0 l=0/\HT.a5 ds.length ds.length h=ds.length then Z (D.tup ds)else Z (D.tup (bU ds l h)))=Z d:=e;split at w
   ·rename_i hw
    (obtain rfl:=ao w);exact .inr (.inr (.inr ⟨a,vs,W,h',by rw[i.length];exact hw,j _ _ (aw.refl _) (.tup h' i)⟩))
   ·rename_i hw
    (obtain rfl:=ao w);exact .inr (.inl ⟨a,vs,W,h',by rw[i.length];exact hw,λp g=>j _ _ (cU g _) (.tup (.of bA) ((AK i l h).mono (cU g _)))⟩)|str x E=> (obtain rfl:=ao e);refine .inr (.inr (.inl ⟨x,W,E,j _ _ (aw.refl _) (.str _ ?_)⟩));show(bU x.cps.toList l h).toArray.size<=aD;rw[di];exact cv (AJ _ _ _) (by have Y:x.cps.size<=aD:=E;simpa using Y)|_=>injection e
noncomputable def sgn(c:Nat):Str:=⟨#[c]⟩
noncomputable abbrev je:=Gj
end
section
variable {X:Cx}{e a b c tg:Expr}{es:List Expr}{p:Pos}{f:ag->Option D}
theorem AL(h:PI X tg iter t)(d:∀σ H R,t' σ H R->t σ H R):PI X tg iter t':=λzK s σ H R I hw=>h zK s σ H R I (d σ H R hw)
noncomputable def sg(c:Nat):Str:=⟨#[c]⟩
noncomputable def G5:D->Option (List D)|.lst xs=>Z xs|.tup xs=>Z xs|.bJ ns=>Z (ns.map .int)|_=>am
def bV(f:ag->Option D):ag->Option (List D):=λd=>(f d).bind G5
noncomputable def cq(lo:Int)(n:Nat):List D:=(eG n).map λi=>.int (lo+(i:Nat))
theorem Th{K:av}{H:Hp}(lo:Int)(n:Nat):Wk K (qY lo n) H (cq lo n):=λH' s=>by
 refine⟨λi d g=>?_,by show n<=_;simp[cq]⟩;unfold cq at g;rw[bW]at g;by_cases h:i<n
 ·rw[Zuy h]at g
  (obtain rfl:=ao g);refine⟨h,λv j m=>?_⟩;obtain⟨q,r⟩:=m;subst q r;exact⟨aw.refl _,.int _⟩
 ·rw[y8.mpr (by simpa using h)]at g;injection g
def AM:Option (List D)->Option (List D):=λo=>o.bind λds=>match ds with|[.int j]=>if-(2^62)<=j/\j<2^62 then Z (cq 0 j.toNat)else am|[.int i,.int j]=>if-(2^62)<=i/\i<2^62/\ -(2^62)<=j/\j<2^62 then Z (cq i (j-i).toNat)else am|_=>am
noncomputable def iN(h:D->ag->Option ag)(gb:ag->Option Out):List D->ag->Option Out|[],i=>Z (.aF i)|d::ds,i=>(h d i).bind λj=>(gb j).bind λo=>match o with|.aF g=>iN h gb ds g|.cnt g=>iN h gb ds g|.brk g=>Z (.aF g)|.ret d=>Z (.ret d)
def hY(fi:ag->Option (List D))(g:D->ag->Option ag)(gb:ag->Option Out):ag->Option Out:=λd=>(fi d).bind λds=>iN g gb ds d
noncomputable def Ti(K:av)(g:List D->ag->Option ag):oV:=λvs σ H Q=>∃h ds ρ',bL K H σ h/\aG K H vs ds/\g ds h=Z ρ'/\∀d H',aw H H'->bL K H' d ρ'->Q d H'
noncomputable def j8:List D->ag->Option ag|[],d=>Z d|_,_=>am
noncomputable def cY(g:D->ag->Option ag)(gs:List D->ag->Option ag):List D->ag->Option ag|d::ds,i=>(g d i).bind λh=>gs ds h|[],_=>am
noncomputable def j9(n:Nat)(gs:List D->ag->Option ag):D->ag->Option ag|.tup ds,d=>if ds.length=n then gs ds d else am|_,_=>am
abbrev Tj(X:Cx)(ts:List Expr)(g:List D->ag->Option ag):Prop:=qV X ts (Ti X.K g)
theorem Inv.Tn{zK:List (Addr×Obj)}{σ:St}{H:Hp}{s:aq}{h':Heap}{ch:List Addr}(I:Inv X zK σ H s)(k:∀b o,b∉ch->s.heap.get? b=Z o->h'.get? b=Z o)(hn:∀j∈ch,H j=am) (g:∀b∈ch,(b∈X.ex\/X.dH.heap.objs.size<=b)/\b≠X.env.locals/\(∀x c,X.env.cells.lookup x=Z c->c≠b)/\∀p∈X.pn++zK,p.1≠b):Inv X zK σ H {s with heap:=h',toks:=t'}:=by
 have h:∀b u,H b=Z u->b∉ch:=λb u e z=>by rw[hn b z]at e;injection e
 refine I.step (g':=s.gens) (d':=s.drawn) (ch:=ch) g (λb o _ _ d e _=>k b o d e) (λb o _ _ d e _=>⟨o.slots,k b o d e⟩) (λ_ _ _ _ n=>n) (λb o d e=>⟨o,k b o d e⟩) (λ_ _ e=>e) (λ_ _ _ e=>e) (λb ps e=>⟨#[],by rw[e];exact W⟩) (λm i=>?_) (λb u e=>?_) I.bare;·refine jy i λo es ep t r=>?_;clear i;exact⟨o,es,ep,k _ o (λz=>(g _ z).2.1 W) t,r⟩
 ·refine(I.aR b u e).jA (λc v d q=>k c v ?_ q) (λ_ q=>q) λ_ _ q=>q;rcases d with z|z;·rw[z];exact h b u e
  ·exact h c _ z
theorem G6{zK:List (Addr×Obj)}{s:aq}{σ:St}{H:Hp}{E:Value->aq->Prop}{r:List Expr}{x1}{t:Pos}{g h:Addr}{j:Int}{old u:Value}{x:V}{h':Heap}{tk:Tok}{J:V->Hp->Prop}{T:Heap->Prop}(I:Inv X zK σ H s)(Q:g≠h)(hf:∀b,b∈[g,h]->nE X zK H b)(U:vG s.heap g h j old)(hsz:h<s.heap.objs.size)(B:IsEnumOut h' g h (j+1) u s.heap.objs.size) (C:h'.get? s.heap.objs.size=Z {cls:=.type "tuple",data:=.seq #[.int j tk,u]}) (G:∀b o,b≠g->b≠h->s.heap.get? b=Z o->h'.get? b=Z o) (Y:RelV x u) (hJ:H s.heap.objs.size=am->J (.ref s.heap.objs.size) (upd H s.heap.objs.size (.tup [.int j,x]))) (hT:∀i:Heap,(∀b o,b≠g->h'.get? b=Z o->i.get? b=Z o)->T i):∃L,Z (eQ s.heap.objs.size)=Z L/\wpAny 'b' X.A (C_ (.Tuple r x1 t) (.ref g) L) (λ_ M=>∃x H',Inv X zK σ H' M/\RelV x L/\J x H'/\((∃old,vG M.heap g h (j+1) old)/\T M.heap)/\∀b,b∈[g,h]->H' b=am) E {s with heap:=h',toks:=tk+1}:=by
 refine⟨_,W,wpAny_letOwnedTupleGo_enum B λi N q=>?_⟩;have m:s.heap.objs.size≠g:=oB (bz U);have d:H s.heap.objs.size=am:=I.aR.fresh (ba _);have I1:Inv X zK σ H {s with heap:=i,toks:=tk+1}:=by refine Inv.Tn (ch:=[g,h]) I (λb o hb ho=>q.extBut b o (λz=>hb (by simp[z])) (G b o (λz=>hb (by simp[z])) (λz=>hb (by simp[z])) ho)) (λb hb=>(hf b hb).1) (λb hb=>?_);refine iH (hf b hb) λj0 j1 j2 j3 j4 j5=>?_;exact⟨j3,j1,j4,j5⟩
 refine⟨.ref s.heap.objs.size,upd H s.heap.objs.size (.tup [.int j,x]),Inv.Gm I1 d I.sz (oB I.lt) (λy c e=>?_) (λp hp=>b5 (bz (I.pin p hp).1)) ⟨(by show 2<=aD;exact kB ..),[.int j tk,u],.cons ⟨_,W⟩ (.cons Y .nil),⟨_,q.extBut _ _ m C,W,_,W⟩⟩,W,hJ d,⟨⟨u,N⟩,hT _ q.extBut⟩,λb hb=>?_⟩;·obtain⟨v,z⟩:=I.cell y c e;exact b5 z.lt
 ·have O:b≠s.heap.objs.size:=by
   rcases a7.mp hb with rfl|hb;·exact b6 m
   ·rw[aZ.mp hb];exact b5 hsz
  rw[bf O];exact(hf b hb).1
def w4(K:av)(a:Addr):It:=⟨λi H=>∃xs x,b9 K H a xs/\xs[i]?=Z x,λi H x H'=>∃p y,H p=am/\H'=upd H p (.tup [.int i,y])/\x=.ref p/\∀xs,b9 K H a xs->xs[i]?=Z y,λi H=>∃xs,b9 K H a xs/\xs.length<=i⟩
theorem To{P:a6}{w:World}{K:av}{q:List Expr}{x1}(a y g:Addr)(m:y≠g):Turn P w K (.Tuple q x1 t) (w4 K a) [y,g] y (λi h=>(∃old,vG h y g ((i:Nat):Int) old)/\h.IsListIter g a i) where
 mem:=by exact .head _
 obj:=λi h st b hb=>by
  obtain⟨⟨old,d⟩,o,j,h3,h4⟩:=st;rcases a7.mp hb with rfl|hb;·exact⟨_,d,λv z=>by injection z⟩
  ·have e:b=g:=by simpa using hb
   subst e;exact⟨o,j,λv z=>by rw[h4]at z;injection z⟩
 keep:=λi h h' st k=>by obtain⟨⟨old,d⟩,o,j,h3⟩:=st;exact⟨⟨old,k y (by exact .head _) _ d⟩,o,k g (by exact .tail _ (.head _)) o j,h3⟩
 item:=by intro X L hw M hc i zK s σ H E I hf st B;subst L hw M;refine b8 B λxs x C G=>?_;clear B;refine aM (I.list C) λN O Q hz=>?_;obtain⟨⟨old,d⟩,j⟩:=st;obtain⟨u,hu,ru⟩:=O.get G;refine wpAny_pyNext_enum_item d j Q.isList (x:=u) (by simpa using hu) m λh' U A Y Tp j7=>?_;exact G6 (J:=(w4 X.K a).qW i H) (T:=λh=>h.IsListIter g a (i+1)) I m hf d (by obtain⟨_,ho,_⟩:=j;exact bz ho) U Y j7 ru (λpb=>⟨_,x,pb,W,W,λys hy=>by rw[I.EH hy C];exact G⟩) λ_ e=>by obtain⟨o,ho,r⟩:=A;exact⟨o,e g o (b6 m) ho,r⟩
 done:=by intro X L hw M hc i zK s σ H E I hf st B;subst L hw M;refine iH (hf g (by exact .tail _ (.head _))) λg0 g1 g2 g3 g4 g5=>?_;obtain⟨xs,C,G⟩:=B;refine aM (I.list C) λN O Q hz=>?_;obtain⟨⟨old,d⟩,j⟩:=st;exact wpAny_pyNext_enum_end (I.ok.hd hc) d j Q.isList (by rw[Zuz];simp;rw[<-O.length];exact G) λh' eb=>⟨W,I.turned (t':=s.toks) (λb o hb e=>eb b o hb e) g0 g1 g3 g4 g5⟩
 self:=λ_ _ _ _ _ st h=>by obtain⟨⟨old,d⟩,_⟩:=st;exact DH d h
noncomputable def iO:Nat->List D->List D|_,[]=>[]|i,d::ds=>.tup [.int ((i:Nat):Int),d]::iO (i+1) ds
theorem pd:∀(ds:List D)(i:Nat),(iO i ds).length=ds.length|[],_=>rfl|_::ds,i=>by rw[iO,bh,bh,pd ds]
theorem AN:∀(ds:List D)(k i:Nat)(d:D),(iO k ds)[i]?=Z d->∃y,ds[i]?=Z y/\d=.tup [.int ((k+i:Nat):Int),y]|[],_,_,_,h=>by simp[iO]at h|y::ds,k,0,d,h=>by simp[iO]at h;exact⟨y,W,h.symm⟩|y::ds,k,i+1,d,h=>by obtain⟨z,g,j⟩:=AN ds (k+1) i d (by simpa [iO]using h);exact⟨z,by simpa using g,by rw[j];congr 3;grind⟩
noncomputable def AO:D->Option (List D)|.lst xs=>Z xs|.tup xs=>Z xs|.bJ ns=>Z (ns.map .int)|_=>am
def jG(f:ag->Option D):ag->Option (List D):=λg=>(f g).bind λd=>(AO d).map (iO 0)
theorem G7{zK:List (Addr×Obj)}{σ:St}{H:Hp}{s:aq}{R:It->Hp->Prop}{E:Value->aq->Prop}{d:List Expr}{x1}{a:Addr}{vs:List V}(I:Inv X zK σ H s)(h:b9 X.K H a vs)(q:R (w4 X.K a) H):wpAny 'b' X.A (call (.type "enumerate") [.ref a]) (λv m=>wpAny 'b' X.A (oC v) (wb X zK σ (.Tuple d x1 g) R) E m) E s:=by
 refine aM (I.list h) λr z t hz=>?_;refine call_enumerate_list t.isList λh' j u B x=>DH j ?_;have y:Inv X zK σ H {s with heap:=h'}:=I.kept (t':=s.toks) x;refine⟨s.heap.objs.size+1,[s.heap.objs.size+1,s.heap.objs.size],_,_,H,W,y,To a _ _ (ZuA _),⟨⟨_,j⟩,u⟩,λb hb=>?_,q⟩;have i:s.heap.objs.size<=b:=by
  rcases a7.mp hb with rfl|hb;·exact i7 _
  ·have e:b=s.heap.objs.size:=by simpa using hb
   rw[e];exact ba _
 exact I.qX i (I.aR.fresh i)
end
end DL
namespace HT
open PySem PySem.Spec PyProof.Rows L2
open AutoSeq1 (wpAny_loadPart')
section
variable {prog:a6}{w:World}{A:a_}{E:Value->aq->Prop}{s:aq}
theorem Tq(a:qu s.heap c t i)(j:IsTup s.heap t b)(m:b[i]?=Z x)(p:∀h',qu h' c t (i+1)->m2 c s.heap h'->Q x {s with heap:=h'}):wpAny 'h' A (DJ (.ref c)) Q E s:=by refine aM (id a) λo f q d=>?_;refine aM j λr g _ e=>gH e λnl h=>?_;clear j e;unfold DJ;refine gV (qp (name:=oF "__next__") a.typeIs DK (jt DK a.typeIs ZuB ?_ (ZuC _)));show wpAny _ _ (field (.ref c) 0>>=_) _ _ s;refine gV (sO f d (x:=.ref t) W ?_);show wpAny _ _ (if(eQ t==dC)=be then _ else _) _ _ s;rw[if_neg (show¬((eQ t==dC)=be) from ei)];show wpAny _ _ (field (.ref c) 1>>=_) _ _ s;refine gV (sO f d (x:=.int i 0) W ?_);show wpAny _ _ (DM (.ref t)>>=_) _ _ s;refine gV (y6 g h ?_);simp only[l_,m];refine gV (qv f d (by exact sW _) (Zy1 ⟨x,W,Zy1 (p _ ⟨_,m6 _ f (Obj.isFreed_of_fields (ZuD d _)),(Obj.cls_mapFields ..).trans q,by rw[ZuD d];exact W⟩ (nc ..))⟩))
theorem G8(q:A.handled=am)(b:qu s.heap f t i)(r:IsTup s.heap t c)(u:c[i]?=am)(v:∀h' e,NX f s.heap h'->(∃o,h'.get? e=Z o/\o.cls=.type "StopIteration")->E (.ref e) {s with heap:=h'}):wpAny 'h' A (DJ (.ref f)) Q E s:=by
 refine aM (id b) λo g y h=>?_;refine aM r λz j _ d=>gH d λnl p=>?_;clear r d;unfold DJ;refine gV (qp (name:=oF "__next__") b.typeIs DK (jt DK b.typeIs ZuB ?_ (ZuC _)));show wpAny _ _ (field (.ref f) 0>>=_) _ _ s;refine gV (sO g h (x:=.ref t) W ?_);show wpAny _ _ (if(eQ t==dC)=be then _ else _) _ _ s;rw[if_neg (show¬((eQ t==dC)=be) from ei)];show wpAny _ _ (field (.ref f) 1>>=_) _ _ s;refine gV (sO g h (x:=.int i 0) W ?_);show wpAny _ _ (DM (.ref t)>>=_) _ _ s;refine gV (y6 j p ?_);simp only[l_,u];refine gV (wpAny_rule (gV (qv g h (by exact oI _) ?_)));show wpAny _ _ (vI (.type "StopIteration") []>>=_) _ _ _;refine gV ?_;simp only[vI,newTuple];refine gV (wpAny_newObj_type ?_ (by size_fits));refine gV (m:=firstArgMember _ _) (DN (a:=dC) (by first|rfl|(simp only[firstArgMember];rfl)) ?_);refine wpAny_newObj_type ?_ (by size_fits);simp only[raiseNew];refine gV (wpAny_handled ?_);first|rw[show A.in1.handled=am from q]|rw[q]
 refine gV (Zy1 (NY (v _ _ (((nc ..).extBut.push _).push _) ⟨_,cW _ W,W⟩)))
end
theorem Tr{A:a_}(p:A.handled=am)(c t:Addr)(f:t≠c)(a:Array Value):Draws prog w A c [c,t] a.size (λi v=>a[i]?=Z v) (λi h=>qu h c t i/\IsTup h t a) where
 live:=λ_ _ st=>by obtain⟨⟨o,g,_⟩,_⟩:=st;exact⟨o,g⟩
 frame:=λ_ _ _ st m=>by obtain⟨⟨o,g,r⟩,o2,b,j⟩:=st;exact⟨⟨o,m c (by exact .head _) o g,r⟩,o2,m t (by exact .tail _ (.head _)) o2 b,j⟩
 item:=λi s Q E y st q=>Tq st.1 st.2 (x:=a[i]) 'k' λh' d e=>q _ h' s.toks 'k' ⟨d,by obtain⟨o2,b,j⟩:=st.2;exact⟨o2,e.extBut t o2 f b,j⟩⟩ e;done:=λs Q E st u=>G8 p st.1 st.2 'k' u
theorem Ts{A:a_}(g:A.handled=am)(b t:Addr)(a:Array Value)(m:a[i]?=am):Draws prog w A b [b,t] i (λ_ _=>False) (λj h=>j=i/\qu h b t i/\IsTup h t a) where
 live:=λ_ _ st=>by obtain⟨_,⟨o,c,_⟩,_⟩:=st;exact⟨o,c⟩
 frame:=λ_ _ _ st f=>by obtain⟨e,⟨o,c,r⟩,o2,d,p⟩:=st;exact⟨e,⟨o,f b (by exact .head _) o c,r⟩,o2,f t (by exact .tail _ (.head _)) o2 d,p⟩
 item:=λj s Q E q st v=>absurd st.1 (b5 q);done:=λs Q E st u=>G8 g st.2.1 st.2.2 m u
theorem Tt(l:Addr)(a:Array Value)(n:Nat)(e:Option Addr)(j:Array (Option Value)):Meets (Builtin.«enumerate.__new__» ⟨[.type "enumerate",.ref l],[]⟩) (λ_ R s=>s.heap.get? l=Z {cls:=.type "tuple",dict:=e,data:=.seq a n,slots:=j}∧ R (.ok (.ret (.ref (s.heap.push {cls:=.type "tuple_iterator",data:=.fields #[.ref l,.int 0 0]}).objs.size))) {s with heap:=(s.heap.push {cls:=.type "tuple_iterator",data:=.fields #[.ref l,.int 0 0]}).push {cls:=.type "enumerate",data:=.fields #[.none,.bool bi,.ref s.heap.objs.size,lh 0,.none,.none]}}):=.of_wp λprog w A R s h=>by
  obtain⟨m,g,d,tk,os⟩:=s;obtain⟨b,h⟩:=h;have f:=sub_enumerate;have i:IsTup (Shared.heap ⟨m,g,d,tk,os⟩) l a:=⟨_,b,W,n,W⟩
  wp_walk using wpAny_loadPart' b;refine wpAny_stack_any λst=>Zy1 ?_;split;·rename_i c _ _ _ _ _;cases(c==sG "enumerate")<;>(wp_walk using wpAny_loadPart' b,iter_tuple i;exact⟨_,W,h⟩)
  ·wp_walk using wpAny_loadPart' b,iter_tuple i;exact⟨_,W,h⟩
section
variable {prog:a6}{w:World}{A:a_}{E:Value->aq->Prop}{s:aq}
theorem Tu(j:IsTup s.heap l a)(h:∀h',vG h' (s.heap.objs.size+1) s.heap.objs.size 0 .none->qu h' s.heap.objs.size l 0->h'.objs.size=s.heap.objs.size+2-> (∀b o,s.heap.get? b=Z o->h'.get? b=Z o)->Q (.ref (s.heap.objs.size+1)) {s with heap:=h'}):wpAny 'h' A (call (.type "enumerate") [.ref l]) Q E s:=by
 obtain⟨⟨c,d,m,p⟩,r,e,n,f⟩:=j
 replace e:c=.type "tuple":=e
 replace f:m=.seq a n:=f;subst e f;refine callType_new F.called_enumerate (by exact W) (F.typeCall_enumerate_1 _) (F.newCall_enumerate_1 _) (λg=>ZuE g _) F.entry_enumerate_new (Tt l a n d p) ⟨r,?_⟩;have hz:(s.heap.push {cls:=.type "tuple_iterator",data:=.fields #[.ref l,.int 0 0]}).objs.size=s.heap.objs.size+1:=l9 ..;show _/\_;rw[hz];have i:vG ((s.heap.push {cls:=.type "tuple_iterator",data:=.fields #[.ref l,.int 0 0]}).push {cls:=.type "enumerate",data:=.fields #[.none,.bool bi,.ref s.heap.objs.size,lh 0,.none,.none]}) (s.heap.objs.size+1) s.heap.objs.size 0 .none:=by have q:=cW (s.heap.push {cls:=.type "tuple_iterator",data:=.fields #[.ref l,.int 0 0]}) (o:={cls:=.type "enumerate",data:=.fields #[.none,.bool bi,.ref s.heap.objs.size,lh 0,.none,.none]}) W;rw[hz]at q;exact q
 exact⟨⟨_,i,W⟩,h _ i ⟨_,bR _ (cW _ W),W,W⟩ (by rw[l9,hz]) λb o x=>bR _ (bR _ x)⟩
end
end HT
namespace DL
open PySem PySem.Spec PyProof.Rows L2
section
variable {X:Cx}{a:Expr}{p:Pos}
def w5(K:av)(a:Addr):It:=⟨λi H=>∃xs x,cF K H a xs/\xs[i]?=Z x,λi H x H'=>∃p y,H p=am/\H'=upd H p (.tup [.int i,y])/\x=.ref p/\∀xs,cF K H a xs->xs[i]?=Z y,λi H=>∃xs,cF K H a xs/\xs.length<=i⟩
theorem Tv{P:a6}{w:World}{K:av}{C:List Expr}{x1}(a y c:Addr)(j:y≠c):Turn P w K (.Tuple C x1 G) (w5 K a) [y,c] y (λi h=>(∃old,vG h y c ((i:Nat):Int) old)/\qu h c a i) where
 mem:=by exact .head _
 obj:=λi h st b hb=>by
  obtain⟨⟨old,d⟩,o,g,h3,h4⟩:=st;rcases a7.mp hb with rfl|hb;·exact⟨_,d,λv z=>by injection z⟩
  ·have e:b=c:=by simpa using hb
   subst e;exact⟨o,g,λv z=>by rw[h4]at z;injection z⟩
 keep:=λi h h' st k=>by obtain⟨⟨old,d⟩,o,g,h3⟩:=st;exact⟨⟨old,k y (by exact .head _) _ d⟩,o,k c (by exact .tail _ (.head _)) o g,h3⟩
 item:=by
  intro X B hw Y hc i zK s σ H E I hf st O;subst B hw Y;refine b8 O λxs x Q U=>?_;clear O;refine aM (I.tuple Q) λf rv m hz=>?_;obtain⟨⟨old,d⟩,g⟩:=st;obtain⟨u,hu,ru⟩:=rv.get U;have Tw:a≠y:=λz=>by
   subst z;refine aM m λo q t _=>?_;clear m;have e:=d.symm.trans q
   (obtain rfl:=ao e);simp at t
  have Tx:a≠c:=λz=>by
   subst z;refine aM m λo q t _=>?_;clear m;refine aM g λo2 L M _=>?_;clear g;rw[q]at L
   (obtain rfl:=ao L);rw[t]at M;simp at M
  have hi:i<f.toArray.size:=by rw[di];exact(bF.mp hu).1
  refine wpAny_pyNext_enum_itemD (HT.Tr (A:=X.A.in1) (I.ok.hd hc) c a Tx f.toArray) d ⟨g,m⟩ hi j (by simp[j,b6 Tw]) λu' h' tk B Tz N TB Tp j7=>?_;have mu:u'=u:=by
   have e:f.toArray[i]?=Z u:=by simpa using hu
   rw[e]at B;exact(ao B).symm
  subst mu;exact G6 (J:=(w5 X.K a).qW i H) (T:=λh=>qu h c a (i+1)) I j hf d (by obtain⟨_,q,_⟩:=g;exact bz q) Tz TB j7 ru (λpb=>⟨_,x,pb,W,W,λys hy=>by rw[I.v9 hy Q];exact U⟩) λ_ e=>by obtain⟨⟨o,q,r⟩,_⟩:=N;exact⟨o,e c o (b6 j) q,r⟩
 done:=by intro X B hw Y hc i zK s σ H E I hf st O;subst B hw Y;refine iH (hf c (by exact .tail _ (.head _))) λg0 g1 g2 g3 g4 g5=>?_;obtain⟨xs,Q,U⟩:=O;refine aM (I.tuple Q) λf rv m hz=>?_;obtain⟨⟨old,d⟩,g⟩:=st;exact wpAny_pyNext_enum_endD (HT.Ts (A:=X.A.in1) (I.ok.hd hc) c a f.toArray (i:=i) (by rw[Zuz];simp;rw[<-rv.length];exact U)) d ⟨W,g,m⟩ λh' eb=>⟨W,I.turned (t':=s.toks) (λb o hb e=>eb b o hb e) g0 g1 g3 g4 g5⟩
 self:=λ_ _ _ _ _ st h=>by obtain⟨⟨old,d⟩,_⟩:=st;exact DH d h
theorem TC{zK:List (Addr×Obj)}{σ:St}{H:Hp}{s:aq}{R:It->Hp->Prop}{E:Value->aq->Prop}{c:List Expr}{x1}{a:Addr}{vs:List V}(I:Inv X zK σ H s)(h:cF X.K H a vs)(q:R (w5 X.K a) H):wpAny 'b' X.A (call (.type "enumerate") [.ref a]) (λv i=>wpAny 'b' X.A (oC v) (wb X zK σ (.Tuple c x1 d) R) E i) E s:=by
 refine aM (I.tuple h) λj x m hz=>?_;refine HT.Tu m λh' g r y t=>DH g ?_;have u:Inv X zK σ H {s with heap:=h'}:=I.kept (t':=s.toks) t;refine⟨s.heap.objs.size+1,[s.heap.objs.size+1,s.heap.objs.size],_,_,H,W,u,Tv a _ _ (ZuA _),⟨⟨_,g⟩,r⟩,λb hb=>?_,q⟩;have f:s.heap.objs.size<=b:=by
  rcases a7.mp hb with rfl|hb;·exact i7 _
  ·have e:b=s.heap.objs.size:=by simpa using hb
   rw[e];exact ba _
 exact I.qX f (I.aR.fresh f)
end
section
def wg(K:av)(h:Str->Option Value)(x:Str)(d:D):Prop:=∃v u,h x=Z u/\RelV v u/\∀H,Rep K H v d
end
def c8(np ns:Nat)(g:ag->Option Out)(ds:List D):Option D:=if ds.length=np then(g (kJ ns ds)).bind λo=>match o with|.ret d=>Z d|.aF _=>Z .aC|_=>am else am
theorem TF{P:a6}{w:World}{K:av}{t:Str->Option Value}{base:Heap}{x b:Str}{st:Stmt}{f:Addr}{u:dF}{N ps:List Str}{k np ns:Nat}{g:ag->Option Out}(Fn:kH K x b st f u)(S:nG N ps (de st))(v:ps.length=np)(hn:N.length=ns) (i:∀(c:Value)(A:a_)(a:List Env)(s:aq)(H:Hp)(E:XK),bI k (A.deeper (g6 b (de st) s.heap.objs.size f c))->wH (dA eu P w K t base N b (de st) f c A a s H E).lB (iL st) g):dm P w K t base eu (k+1) f u ps (lJ K (c8 np ns g)):=by
 subst v hn;have hlen:∀{ds:List D}{d:D},c8 ps.length N.length g ds=Z d->ds.length=ps.length/\∃o,g (kJ N.length ds)=Z o/\(match o with|.ret d=>Z d|.aF _=>Z .aC|_=>am)=Z d:=λ{ds d} h=>by
  unfold c8 at h;split at h;case isFalse=>injection h
  rename_i y;refine bS h λo p j=>?_;exact⟨y,o,p,j⟩
 refine Fn.ok S (by rintro vs H Q E ⟨ds,d,r,e,_⟩;rw[r.length];exact(hlen e).1) (λc A a s H vs Q E z h=>?_);refine cM h λds d r e q=>?_;clear h;refine bc (hlen e) λ_ m=>a9 m λo p j=>?_;clear m;refine⟨_,i c A a s H E z,kJ N.length ds,o,RD r,p,?_⟩;cases o with|ret d'=>(obtain rfl:=ao j);exact q|aF C=>(obtain rfl:=ao j);exactλB H' s _=>q .aC H' s .aC|_=>injection j
theorem TH{P:a6}{w:World}{K:av}{c:Str->Option Value}{base:Heap}{f:Addr}{e:dF}{ps:List Str}:dm P w K c base eu 0 f e ps (lJ K λ_=>am):=by
 have b:∀vs H Q E,¬lJ K (λ_=>am) vs H Q E:=by rintro vs H Q E ⟨ds,d,_,h,_⟩;injection h
 exact⟨λvs H Q E h=>absurd h (b vs H Q E),λA a s H args g vs Q E _ _ _ _ h=>absurd h (b vs H Q E)⟩
noncomputable def cZ:Expr->Bool|.Starred _ _=>bi|_=>be
noncomputable def AQ:Expr->Bool|.UnaryOp _ _ _=>bi|.BoolOp _ _ _=>bi|.IfExp _ _ _ _=>bi|.Compare _ _ _ _=>bi|_=>be
noncomputable def uf:Expr->Bool|.Slice _ _ _ _=>bi|_=>be
noncomputable def j_:Expr->Bool|.Set _ _ _=>bi|_=>be
theorem bP(h:cZ e=be):a4 (e::es) a=(bi,eval e a)::a4 es a:=by cases e<;>first|rfl|injection h
theorem plain_any:∀{es:List Expr},es.all cZ=be->(ef pos (a4 es a)).any (·.1)=bi|[],_=>rfl|e::es,h=>by rw[gg,cJ]at h;rw[bP h.1];show(bi||(ef pos (a4 es a)).any (·.1))=bi;rw[NN];exact plain_any h.2
theorem kP:∀{es:List Expr},es.all cZ=be->(ef pos (a4 es a)).all (λx=>!x.1)=be|[],_=>rfl|e::es,h=>by rw[gg,cJ]at h;rw[bP h.1];show(be&&(ef pos (a4 es a)).all (λx=>!x.1))=be;rw[oJ];exact kP h.2
theorem G9{e:Expr}(h:AQ e=be)(a:Sem Value):isTrue e b a=(do let v<-a;standAt e.pos;holding [v] (truthy v)):=by cases e<;>first|rfl|injection h
theorem ug(h:uf e=be)(o i:Value):y1 e bi o i=operate [o,i] (lj o i):=by cases e<;>first|rfl|injection h
theorem pe(h:j_ e=be)(x:Value):vj e a x=pure x:=by cases e<;>first|rfl|injection h
theorem G_(h:j_ e=be):Nw a e=bi:=by cases e<;>first|rfl|injection h
structure JE(X:Cx)(e:Expr)(f:ag->Option D):Prop where h:DE X e f
structure JT(X:Cx)(e:Expr)(f:ag->Option Bool):Prop where h:DT X e f
structure JW(X:Cx)(e:Expr)(f:ag->Option Bool):Prop where h:DW X e f
structure JA(X:Cx)(es:List Expr)(f:List (ag->Option D))(g:ag->Option (List D)):Prop where
 h:lG X es g
 n:wF f.length g
 st:es.all cZ=be
structure JO(X:Cx)(e:Option Expr)(f:ag->Option (Option Int)):Prop where h:DO X e f
structure JI(X:Cx)(tg e:Expr)(f:ag->Option (List D)):Prop where
 h:DI X tg e f
 s:j_ e=be
structure JG(X:Cx)(e:Expr)(g:D->ag->Option ag):Prop where h:DG X e g
structure uh(X:Cx)(es:List Expr)(g:List D->ag->Option ag):Prop where h:Tj X es g
structure JF(X:Cx)(es:List Expr)(f:ag->Option Bool):Prop where h:tW X es f
structure JS(X:Cx)(st:Stmt)(g:ag->Option Out):Prop where h:DS X st g
structure JB(X:Cx)(st:List Stmt)(g:ag->Option Out):Prop where h:wH X st g
def ai:List (ag->Option D)->ag->Option (List D)|[]=>wB|f::fs=>wC f (ai fs)
theorem Ha:ai [] a=Z []:=rfl
theorem rz:ai (f::fs) a=(f a).bind λd=>(ai fs a).bind λds=>Z (d::ds):=rfl
def dJ(g:ag->Option (List D)):ag->Option (List D):=λa=>AM (g a)
structure dW(X:Cx)(op:Value->Value->Sem Value)(g:D->D->Option D):Prop where h:nI X op g
section
variable {X:Cx}{e a b c:Expr}{es:List Expr}{pos p p2:Pos}{f fa fb fc:ag->Option D}{fs:List (ag->Option D)}{x:Str}{g:D->D->Option D}{ta tb:ag->Option Bool}{rest:List Expr}
theorem TJ(i:Nat)(m:X.N[i]?=Z x)(t:dv X.env.scope x)(u:'f'=bi) (j:'m'=bi):JE X (.Name x pos) (aa i):=⟨cQ (hH m t u j)<|by rintro σ H Q ⟨z,d,r,h,q⟩;exact by obtain⟨v,w,y⟩:=r.get i d (tR h);exact⟨v,w,q v H (aw.refl H) y⟩⟩
theorem TK:JE X (.Constant (.int i) j pos) (cC (.int i)):=⟨cQ zz<|by rintro σ H Q ⟨m,d,r,h,q⟩;(obtain rfl:=ao h);exact q _ H (aw.refl H) (.int i)⟩
theorem TL{b j}:JE X (.Constant (.bool b) j pos) (cC (.bl b)):=⟨cQ O0<|by rintro σ H Q ⟨i,d,r,h,q⟩;(obtain rfl:=ao h);exact q _ H (aw.refl H) (.bl b)⟩
theorem Hb:JE X (.Constant .none j pos) (cC .aC):=⟨cQ O1<|by rintro σ H Q ⟨i,d,r,h,q⟩;(obtain rfl:=ao h);exact q _ H (aw.refl H) .aC⟩
theorem TM{x}(d:x.length<=aD):JE X (.Constant (.str x) j pos) (cC (.str x)):=⟨FZ d⟩
theorem TN(h:wg X.K X.mg x d)(i:Gl X x)(j:'f'=bi):JE X (.Name x pos) (cC d):=⟨by refine cM h λv u m q r=>?_;clear h;exact Rv i m q r j⟩
theorem TQ(m:JE X a fa):JE X (.UnaryOp .USub a pos) (my fa):=⟨cQ (P0 P8 m.h)<|by rintro σ H Q ⟨r,d,R,e,q⟩;refine bS e λj t e=>?_;refine⟨r,j,R,t,λv u w y=>?_⟩;cases j with|int i=>(obtain rfl:=ao e);cases y;exact⟨i,W,q _ u w (.int _)⟩|_=>injection e⟩
theorem TR(d:dW X (gd i) g)(j:JE X a fa)(m:JE X b fb):JE X (.BinOp a i b pos) (ae g fa fb):=⟨cQ (EW d.h j.h m.h) (z4 W W)⟩
theorem TU(d:dW X (dE i) g)(j:JE X a fa)(m:JE X b fb)(q:j_ b=be):JE X (.Compare a [i] [b] pos) (ae g fa fb):=⟨cQ (Qc d.h j.h m.h (G_ q)) (z4 W W)⟩
theorem TV(d:dW X (dE i) g)(j:JE X a fa)(m:JE X b fb)(r:j_ b=be):JT X (.Compare a [i] [b] pos) (cB (ae g fa fb)):=⟨rf (Qe d.h j.h m.h (G_ r))<|by rintro σ H Q ⟨t,k,R,e,q⟩;refine z4 W W σ H _ ⟨t,.bl k,R,tT e,λv H' u w=>?_⟩;cases w;exact⟨k,W,q H' u⟩⟩
theorem TX(d:JE X a fa):JE X (.BoolOp i [a] pos) fa:=⟨Pa d.h⟩
theorem TY(m:JE X a fa)(r:JE X (.BoolOp .And (b::rest) pos) fb):JE X (.BoolOp .And (a::b::rest) pos) (tU fa fb):=⟨cQ (Pb m.h r.h)<|by rintro σ H Q ⟨j,d,R,e,q⟩;refine bS e λc t e=>?_;refine⟨j,.bl c,R,tT t,λv u i w=>?_⟩;cases w;refine⟨c,W,?_⟩;cases c with|true=>rw[if_pos W]at e⊢;exact⟨j,d,R.mono i,e,λv H' y z=>q v H' (i.trans y) z⟩|false=>rw[if_neg ei]at e⊢;(obtain rfl:=ao e);exact q _ u i (.bl bi)⟩
theorem TZ(m:JE X a fa)(r:JE X (.BoolOp .Or (b::rest) pos) fb):JE X (.BoolOp .Or (a::b::rest) pos) (wG fa fb):=⟨cQ (Pc m.h r.h)<|by rintro σ H Q ⟨j,d,R,e,q⟩;refine bS e λc t e=>?_;refine⟨j,.bl c,R,tT t,λv u i w=>?_⟩;cases w;refine⟨c,W,?_⟩;cases c with|true=>rw[if_pos W]at e⊢;(obtain rfl:=ao e);exact q _ u i (.bl be)|false=>rw[if_neg ei]at e⊢;exact⟨j,d,R.mono i,e,λv H' y z=>q v H' (i.trans y) z⟩⟩
theorem T1(d:JT X a ta):JW X (.BoolOp .And [a] pos) ta:=⟨EE d.h⟩
theorem T2(d:JT X a ta):JW X (.BoolOp .Or [a] pos) ta:=⟨O7 d.h⟩
theorem w_and(j:JT X a ta)(m:JW X (.BoolOp .And (b::rest) pos) tb):JW X (.BoolOp .And (a::b::rest) pos) (ez ta tb):=⟨z3 (EF j.h m.h)<|by rintro σ H Q ⟨i,k,R,e,q⟩;refine bS e λc r e=>?_;refine⟨i,c,R,r,λt d=>?_⟩;cases c with|true=>exact⟨i,k,R.mono d,e,λH' u=>q H' (d.trans u)⟩|false=>(obtain rfl:=ao e);exact q t d⟩
theorem w_or(j:JT X a ta)(m:JW X (.BoolOp .Or (b::rest) pos) tb):JW X (.BoolOp .Or (a::b::rest) pos) (lI ta tb):=⟨z3 (O8 j.h m.h)<|by rintro σ H Q ⟨i,k,R,e,q⟩;refine bS e λc r e=>?_;refine⟨i,c,R,r,λt d=>?_⟩;cases c with|true=>(obtain rfl:=ao e);exact q t d|false=>exact⟨i,k,R.mono d,e,λH' u=>q H' (d.trans u)⟩⟩
theorem T3(h:JW X (.BoolOp d l pos) ta):JT X (.BoolOp d l pos) ta:=⟨h.h.pt⟩
theorem T4(d:JT X a ta):JT X (.UnaryOp .Not a pos) (gR ta):=⟨rf (EG d.h)<|by
  rintro σ H Q ⟨i,k,R,e,q⟩;refine bS e λc j e=>?_
  (obtain rfl:=ao e);exact⟨i,c,R,j,q⟩⟩
theorem T5(h:JE X e f)(d:AQ e=be):JT X e (cB f):=⟨rf (ED h.h (G9 d))<|by rintro σ H Q ⟨i,k,R,e,q⟩;exact⟨i,.bl k,R,tT e,λv H' j m=>by cases m;exact⟨k,W,q H' j⟩⟩⟩
theorem T6:JA X [] [] (ai []):=⟨wD,Rw,W⟩
theorem T7(i:JE X e f)(d:JA X es fs (ai fs))(hn:cZ e=be):JA X (e::es) (f::fs) (ai (f::fs)):=⟨tS i.h d.h (bP hn),Rx d.n,by rw[gg,hn,d.st];rfl⟩
theorem w6{n:Nat}(h:vh n 1000=be):n<=aD:=cv (ig h) 'a'
theorem T8(h:JA X es fs (ai fs))(hn:vh fs.length 1000=be):JE X (.Tuple es x1 pos) (aH (ai fs)):=⟨cQ (E7 h.h)<|by
  rintro σ H Q ⟨i,d,r,e,q⟩;refine bS e λds j e=>?_
  (obtain rfl:=ao e);refine⟨i,ds,r,j,λvs v u m=>⟨by rw[m.length];exact cv (h.n i ds j) (w6 hn),λp t=>?_⟩⟩;exact q _ _ (u.trans (cU t _)) (.tup (.of bA) (m.mono (cU t _)))⟩
theorem T9(h:JA X es fs (ai fs))(hn:vh fs.length 1000=be):JE X (.List es pos) (eT (ai fs)):=⟨cQ (wh h.h)<|by
  rintro σ H Q ⟨i,d,r,e,q⟩;refine bS e λds j e=>?_
  (obtain rfl:=ao e);refine⟨i,ds,r,j,λvs v u m=>⟨by rw[m.length];exact cv (h.n i ds j) (w6 hn),λp t=>?_⟩⟩;exact q _ _ (u.trans (cU t _)) (.lst (.inl bA) (m.mono (cU t _)))⟩
theorem T_(J:JE X a fa)(L:JE X b fb)(M:uf b=be):JE X (.Subscript a b pos) (ae ay fa fb):=⟨cQ (zQ QJ J.h L.h (ug M))<|by rintro σ H Q ⟨E,d,R,e,q⟩;refine bS e λN O e=>?_;refine bS e λT U e=>?_;refine⟨E,N,R,O,λv H1 G Y=>⟨E,T,R.mono G,U,λu H2 I y=>?_⟩⟩;have B:=Y.mono I;have A:∀v,Rep X.K H2 v d->Q v H2:=λv hv=>q v H2 (G.trans I) hv;cases B with
  |@tup p xs ds h r=>cases y with|int i=>obtain⟨w,hw,m⟩:=Ab r (show bN ds i=Z d from e);exact .inr (.inl ⟨p,xs,i,w,W,W,h,hw,A w m⟩)|_=>injection e
  |@lst p xs ds h r=>cases y with
   |int i=>obtain⟨w,hw,m⟩:=Ab r (show bN ds i=Z d from e);exact .inl ⟨p,xs,i,w,W,W,.inl h,hw,A w m⟩|_=>injection e
  |@bJ p ns h=>cases y with
   |int i=>
    have t:(bN ns i).map D.int=Z d:=e;rw[bu]at t;obtain⟨n,C,rfl⟩:=t;have h4:bN (ns.map D.int) i=Z (.int n):=by
     unfold bN at C⊢;rw[aE];cases z:iK ns.length i with
     |none=>simp_all
     |some j=>simp_all
    obtain⟨w,hw,m⟩:=Ab (tQ (K:=X.K) (H:=H2) ns) h4;exact .inl ⟨p,_,i,w,W,W,h,hw,A w m⟩
   |_=>injection e
  |str x hx=>
   cases y with
   |int i=>have t:(bN x.cps.toList i).map (λc=>D.str ⟨#[c]⟩)=Z d:=e;rw[bu]at t;obtain⟨c,C,rfl⟩:=t;exact .inr (.inr ⟨x,i,c,W,W,hx,C,A _ (.str _ (show 1<=aD by decide))⟩)
   |_=>injection e
  |_=>injection e⟩
theorem Ua:JO X am eU:=⟨G3 Qy<|by rintro σ H Q ⟨d,o,R,e,q⟩;(obtain rfl:=ao e);exact q H (aw.refl H)⟩
theorem Ub(h:JE X e f):JO X (Z e) (c6 f):=⟨G3 (Qz h.h)<|by rintro σ H Q ⟨j,o,R,e,q⟩;refine bS e λd m e=>?_;refine⟨j,d,R,m,λv r t u=>?_⟩;cases d with|int i=>(obtain rfl:=ao e);cases u;exact⟨i,W,q r t⟩|_=>injection e⟩
theorem Uc{lo i:Option Expr}{fl j:ag->Option (Option Int)}(m:JE X a fa)(r:JO X lo fl)(t:JO X i j):JE X (.Subscript a (.Slice lo i am p2) pos) (gu fa fl j):=⟨cQ (G4 m.h r.h t.h)<|by rintro σ H Q ⟨u,d,R,e,q⟩;refine bS e λv w e=>?_;refine bS e λl y e=>?_;refine bS e λh z e=>?_;refine⟨u,d,R,?_,q⟩;simp only[jF,w,y,z,bx];cases v<;>first|exact e|(simp only[pa,nP]at e⊢;split at e<;>simp_all)⟩
theorem Ud{k:Nat}(C:Callee X.prog X.w X.K X.mg X.base k x F)(m:bI k X.A)(j:JA X (e::es) fs (ai fs))(q:Gl X x)(i:'f'=bi):JE X (.Call (.Name x p) (e::es) [] pos) (ax F (ai fs)):=by have d:=j.st;rw[gg,cJ]at d;exact⟨RC C m q j.h i (bP d.1) (plain_any d.2)⟩
structure JC(X:Cx)(f:Value)(g:List D->Option D):Prop where h:rk X f g
theorem AR{id:String}{g:List D->Option D}(m:JC X (.builtin id) g)(q:X.mg x=am)(r:eR x=Z (.builtin id))(j:JA X (e::es) fs (ai fs))(t:Gl X x)(hn:x≠"__name__") (i:'f'=bi):JE X (.Call (.Name x p) (e::es) [] pos) (ax g (ai fs)):=by have d:=j.st;rw[gg,cJ]at d;exact⟨RT m.h t q r j.h hn i (bP d.1) (plain_any d.2)⟩
theorem Hc{g:List D->Option D}(m:JC X (.type T) g)(q:X.mg x=am)(r:eR x=Z (.type T))(j:JA X (e::es) fs (ai fs))(t:Gl X x)(hn:x≠"__name__") (i:'f'=bi):JE X (.Call (.Name x p) (e::es) [] pos) (ax g (ai fs)):=by have d:=j.st;rw[gg,cJ]at d;exact⟨RU m.h t q r j.h hn i (bP d.1) (plain_any d.2)⟩
theorem Ue(T:Ty)(q:X.mg "isinstance"=am)(d:X.mg x=am)(r:eR x=Z (.type T.nm))(t:JE X a fa)(u:Gl X "isinstance")(i:Gl X x)(j:cZ a=be)(hn:x≠"__name__")(m:'f'=bi):JE X (.Call (.Name "isinstance" p) [a,.Name x p2] [] pos) (wU T fa):=⟨S0 T u q i d r t.h hn m (bP j) (plain_any W) (bP W)⟩
theorem Ug{apos cpos:Pos}{z:Str}(i:JE X b fb)(hz:z.length<=aD)(hn:cZ b=be)(d:(apos.endLine==cpos.line)=be):JE X (.Call (.Attribute (.Constant (.str z) j m) "join" apos) [b] [] cpos) (wZ (cC (.str z)) fb):=⟨S_ (FZ hz) i.h W (by rw[kP (show [b].all cZ=be by rw[gg,hn];rfl)];rfl) d (bP hn)⟩
theorem Hd(i:Nat)(h:X.N.Nodup)(j:X.N[i]?=Z x)(m:Loc X.env.scope x)(hf:X.fn x=be\/X.env.scope.names.lookup x=Z .local):JG X (.Name x pos) (gN i):=⟨by rintro zK s σ H x u Q I r ⟨v,d,ρ',R,t,e,q⟩;exact EK h j m hf zK s σ H x u Q I r (by(obtain rfl:=ao e);exact q _ H (aw.refl H) (R.set i t))⟩
theorem He:uh X [] j8:=⟨by intro zK s σ H xs h Q I r ⟨j,ds,ρ',R,i,d,q⟩;refine EL zK s σ H xs h Q I r ?_;cases i with|nil=>(obtain rfl:=ao d);exact⟨W,q σ H (aw.refl H) R⟩|cons _ _=>injection d⟩
theorem Hf{g:D->ag->Option ag}{gs:List D->ag->Option ag}(u:JG X e g)(v:uh X es gs)(w:(i6 (e::es) X.env).map (·.2)=l7 e X.env::(i6 es X.env).map (·.2)):uh X (e::es) (cY g gs):=⟨by intro zK s σ H xs y Q I r ⟨z,ds,ρ',R,A,i,q⟩;refine EM u.h v.h w zK s σ H xs y Q I r ?_;cases A with|nil=>injection i|cons B t=>refine bS i λd C i=>?_;exact⟨_,_,W,z,_,d,R,B,C,λE L m G=>⟨d,_,ρ',G,t.mono m,i,λj H2 J R2=>q j H2 (m.trans J) R2⟩⟩⟩
theorem Hg{k n:Nat}(h:uh X es gs)(y:X.calm=be)(hn:(i6 es X.env).length=n)(j:(i6 es X.env).findIdx? (·.1)=am):JG X (.Tuple es k pos) (j9 n gs):=⟨by intro zK s σ H v u Q I r ⟨m,d,ρ',R,z,t,q⟩;refine EN y h.h hn j zK s σ H v u Q I r ?_;cases z with
 |@tup a xs ds h' w=>
  have i:(if ds.length=n then gs ds m else am)=Z ρ':=t;split at i;case isFalse=>injection i
  rename_i A;exact⟨a,xs,W,h',by rw[w.length];exact A,m,ds,ρ',R,w,i,q⟩|_=>injection t⟩
theorem Uh:JF X [] (λ_=>Z be):=⟨λzK s σ H d b I R e=>by (obtain rfl:=ao e);exact wpAny_tests_nil ⟨W,H,aw.refl H,I⟩⟩
theorem Ui(h:JT X c ta):JF X [c] ta:=⟨λzK s σ H d b I R e=> wpAny_tests_one (aT (h.h zK s σ H (λk H'=>k=b/\aw H H') I ⟨d,b,R,e,λH' s=>⟨W,s⟩⟩)<|by rintro ok j ⟨H',i,q⟩;exact⟨q.1,H',q.2,i⟩)⟩
theorem Uj{i:Scope}{fi:ag->Option (List D)}{O:D->ag->Option ag}{fc:ag->Option Bool}{T:ag->Option D} (U:JI X L iter fi) (M:∀C j m E,JG (cn X i z N' C j m E) L O/\JF (cn X i z N' C j m E) B fc/\JE (cn X i z N' C j m E) A T) (u:oG i X.env=pure z) (v:∀y∈i.names,y.2≠ .cell) (w:i.kind=.function) (t:∀y∈i.names,y.2=.local->i.names.lookup y.1=Z .local) (N:jb X.env.cells z) (G:jc z (kA i X.env).names) (I:gq X i N' cap) (hc:X.calm=be):JE X (.ListComp A [⟨L,iter,B,0⟩] i pos) (cf cap fi O fc T):=⟨cQ (GK hc U.h u v w t N G I (λC j m E=>by obtain⟨h1,h2,h3⟩:=M C j m E;exact⟨h1.h,h2.h,h3.h⟩) (pe U.s))<|by
  rintro σ H Q ⟨ρ,d,R,e,q⟩;refine bS e λds wL e=>?_;split at e;case isFalse=>injection e
  rename_i hlen;rw[bu]at e;obtain⟨J,Y,rfl⟩:=e;refine⟨ρ,J,R,by simp_all[eC,bx,if_true],λvs H1 p s1 hp r=>?_⟩;exact q _ _ (s1.trans (cU hp _)) (.lst (.inl bA) (r.mono (cU hp _)))⟩
end
section
variable {X:Cx}{e c tg:Expr}{st:Stmt}{rest:List Stmt}{pos:Pos}{f:ag->Option D}{g u:ag->Option Out}{t:ag->Option Bool}
theorem Uk:JB X [] cR:=⟨jD v_<|by rintro a σ H ⟨b,o,R,e,q⟩;(obtain rfl:=ao e);exact q σ H (aw.refl H) R⟩
theorem Ul(h:JS X st g):JB X [st] g:=⟨oT h.h⟩
theorem Um(a:JS X st g)(b:JB X rest u):JB X (st::rest) (a8 g u):=⟨RB a.h b.h⟩
theorem Hh(h:JE X e f):JS X (.Return (Z e) pos) (bj f):=⟨cz (tw h.h)<|by
  rintro i σ H ⟨a,o,R,e,q⟩;refine bS e λd b e=>?_
  (obtain rfl:=ao e);exact⟨a,d,R,b,q⟩⟩
theorem Uo(j:JT X c t)(m:JB X a g)(p:JB X b u):JS X (.If c a b pos) (bY t g u):=⟨cz (qU j.h m.h p.h)<|by rintro v σ H ⟨i,o,R,e,q⟩;refine bS e λk r e=>?_;refine⟨i,k,R,r,λw d=>?_⟩;cases k with|true=>rw[if_pos W]at e;exact⟨i,o,R.mono d,e,q.mono d⟩|false=>rw[if_neg ei]at e;exact⟨i,o,R.mono d,e,q.mono d⟩⟩
theorem Up(i:Nat)(b:X.N.Nodup)(h:JE X e f)(j:X.N[i]?=Z x)(m:Loc X.env.scope x)(p:eY e (Z (.Name x pos')) pos.line X.env=pure bi)(hf:X.fn x=be\/X.env.scope.names.lookup x=Z .local):JS X (.Assign [.Name x pos'] e pos) (cc i f):=⟨cz (kE b j m h.h p hf)<|by
  rintro A σ H ⟨r,o,R,e,q⟩;refine bS e λd w e=>?_
  (obtain rfl:=ao e);exact⟨r,d,R,w,λv y a z=>q _ y a ((R.mono a).set i z)⟩⟩
theorem Uq(U:JI X tg iter fi)(hg:JG X tg L)(hb:JB X body gb)(hp:PassesOwn 'b' X.A X.env X.xe)(hc:X.calm=be):JS X (.For tg iter body [] pos) (hY fi L gb):=⟨cz (EV hp hc U.h hg.h hb.h (pe U.s))<|by
  rintro Dn σ H ⟨Y,o,R,M,q⟩;refine bS M λds h1 M=>?_;refine⟨Y,ds,R,h1,λJ H1 s1 wk=>?_⟩;refine⟨λi m p H'=>i<=ds.length/\m=ds.length-i/\∃ρ',bL X.K H' p ρ'/\aw H1 H'/\iN L gb (ds.drop i) ρ'=Z o,⟨ds.length,dQ _,W,Y,R.mono s1,aw.refl _,M⟩,?_⟩;rintro i m p H' ⟨N,rfl,ρ',R',G,a⟩;have O:wants X.K Dn H' o:=q.mono (s1.trans G);by_cases j:i<ds.length;·right;rw[Dz j]at a;refine bS a λB h2 a=>?_;refine bS a λo1 h3 a=>?_;obtain⟨Q,hy⟩:=(wk H' G).1 i ds[i] (cy j);refine⟨Q,λC H2=>∃b,bL X.K H2 C b/\aw H' H2/\iN L gb (ds.drop (i+1)) b=Z o,by rintro C H2 ⟨b,R2,S2,e2⟩;exact⟨_,by omega,j,W,b,R2,G.trans S2,e2⟩,λx H2 hx=>?_⟩;obtain⟨s2,rx⟩:=hy x H2 hx;refine⟨ρ',ds[i],B,R'.mono s2,rx,h2,λUr H3 s3 R3=>⟨B,o1,R3,h3,?_⟩⟩;have I:=s2.trans s3;cases o1 with|aF b=>exactλr E y z=>⟨b,z,I.trans y,a⟩|cnt b=>exactλr E y z=>⟨b,z,I.trans y,a⟩|brk b=>(obtain rfl:=ao a);exactλr E y z=>O r E (I.trans y) z|ret d=>(obtain rfl:=ao a);exactλv E y z=>O v E (I.trans y) z
  ·left;have T:i=ds.length:=NT N (DA.mp j);subst T;rw[NU]at a
   (obtain rfl:=ao a);exact⟨(wk H' G).2,O p H' (aw.refl _) R'⟩⟩
end
section
variable {X:Cx}
theorem Us:dW X (gd .Add) aQ:=⟨F_⟩
theorem Ut:dW X (gd .Sub) il:=⟨z5 P2 λ_ _ _=>.int _⟩
theorem Uu:dW X (gd .Mult) kK:=⟨wJ P4 λ_ _ _=>.int _⟩
theorem Uv:dW X (gd .Mod) fW:=⟨wJ P6 λ_ _ _=>.int _⟩
theorem Uw:dW X (gd .FloorDiv) nJ:=⟨wJ P5 λ_ _ _=>.int _⟩
theorem Ux:dW X (dE .Lt) jX:=⟨z5 P9 λ_ _ _=>.bl _⟩
theorem Uy:dW X (dE .Gt) mq:=⟨z5 P_ λ_ _ _=>.bl _⟩
theorem Uz{k:Nat}(a:bI k X.A):dW X (dE .Eq) (bK 64):=⟨RM a.units⟩
theorem UA{k:Nat}(a:bI k X.A):dW X (dE .NotEq) (eB 64):=⟨RN a.units⟩
theorem UB:dW X (dE .Is) nK:=⟨by intro zK s σ H x y v u Q I a b ⟨g,h,d,c,f,e,q⟩;cases f with|aC=>(obtain rfl:=ao e);exact Qa zK s σ H x .aC v u Q I a b ⟨W,by rw[Aa c];exact q _ H (aw.refl H) (.bl _)⟩|_=>injection e⟩
theorem UC:dW X (dE .IsNot) jY:=⟨by intro zK s σ H x y v u Q I a b ⟨g,h,d,c,f,e,q⟩;cases f with|aC=>(obtain rfl:=ao e);exact Qb zK s σ H x .aC v u Q I a b ⟨W,by rw[Aa c];exact q _ H (aw.refl H) (.bl _)⟩|_=>injection e⟩
theorem UD{k:Nat}(a:bI k X.A):dW X (dE .In) tV:=⟨DL.zW (q9 a)⟩
theorem UE:JC X (.builtin "len") cA:=⟨DL.FK⟩
theorem k_all(t:X.calm=be):JC X (.builtin "all") o_:=⟨rl λ{zK}{s}{σ}{H}{x}{u}{Q}{N}{d} I w r e q=>by have y:X.A.in1.handled=am:=I.ok.hd t;cases r with
 |@lst a vs ds h g=>
  cases w;have j:(ro ds).map (λbs=>D.bl (bs.all id))=Z d:=e;rw[bu]at j;obtain⟨bs,B,rfl⟩:=j;rw[GU B]at g;obtain⟨C,E,p⟩:=Inv.jE I h;have G:=GV g E;subst G;obtain⟨O,f,_⟩:=id p;refine call_all_walk (Nv p ?_);refine⟨s.heap.objs.size,_,_,_,_,_,λi=>bs.getD i bi,W,ZuF y s.heap.objs.size a (b5 (bz f)) (bs.map sF).toArray,⟨⟨_,cW _ W,W,W⟩,p.at λo e=>bR _ e⟩,?_,?_⟩
  ·intro i v T U E' J L;have c:(bs.map sF)[i]?=Z v:=by simpa using J
   rw[bW]at c;cases z:bs[i]? with
   |none=>rw[z]at c;injection c|some b=>
    rw[z]at c
    (obtain rfl:=ao c);refine wpAny_truthy_bool ?_;have:bs.getD i bi=b:=by rw[ma,z];rfl
    rw[<-this];exact L
  ·intro h' tk M;refine⟨.bl _,H,I.kept (t':=tk) λb o m=>M b o (by simpa using b5 (bz m)) (bR _ m),W,?_⟩;have hz:(bs.map sF).toArray.size=bs.length:=by exact aE ..
   rw[hz,S6];exact q _ H (aw.refl H) (.bl _)
 |_=>injection e⟩
theorem UG:JC X (.builtin "sorted") AG:=⟨rl λ{zK}{s}{σ}{H}{x}{u}{Q}{C}{d} I m r e q=>by cases r with|@lst a vs ds h f=>
  cases m;have c:(if ds.length<64 then(strsOf ds).map (λbs=>D.lst ((d8 bs).map .str))else am)=Z d:=e;split at c;case isFalse=>injection c
  rename_i b;rw[bu]at c;obtain⟨bs,i,rfl⟩:=c;have t:=f.length;rw[mz i]at f;obtain⟨v,j,p⟩:=Inv.jE I h;refine sorted_strs p (uc f j) (by rw[<-j.length,t];exact b) λout g w y z=>?_;have eq:g=d8 bs:=wX (AE z) (ue bs) (y.trans (iM bs).symm);subst eq;obtain⟨A,B⟩:=ud (K:=X.K) (H:=H) w (by grind[wV,iM]);exact AF I (by rw[aE,(iM bs).length_eq,<-show ds.length=bs.length by rw[mz i,aE]];exact du (l8 b 'a')) A B q|_=>injection e⟩
theorem UH(c:X.calm=be):JC X (.type "tuple") je:=⟨Ac λ{H}{x}{Q}{f}{d} r e q=>by cases r with|tup h a=>(obtain rfl:=ao e);exact⟨_,Fv,_,_,W,.inr ⟨h,q _ H (aw.refl H) (.tup h a)⟩⟩|lst h a=>(obtain rfl:=ao e);exact⟨_,Fv,_,_,W,.inl ⟨.inl h,λl b=>q _ _ (cU b _) (.tup (.of bA) (a.mono (cU b _)))⟩⟩|_=>injection e⟩
end
noncomputable def az(H:Hp)(O:List Addr):Hp:=λb=>if b∈O then am else H b
noncomputable def lay(H:Hp)(O:List Addr)(H':Hp):Hp:=λb=>if b∈O then H b else H' b
theorem eI(h:b∈O):az H O b=am:=if_pos h
theorem cb(h:b∉O):az H O b=H b:=if_neg h
theorem gS(h:b∈O):lay H O H' b=H b:=if_pos h
theorem eJ(h:b∉O):lay H O H' b=H' b:=if_neg h
theorem gT(H:Hp):az H []=H:=by rfl
theorem gU(h:az H O b=Z o):b∉O/\H b=Z o:=by grind[eI,cb]
theorem hZ(H:Hp)(O:List Addr):aw (az H O) H:=λb o h=>(gU h).2
theorem AS(h:∀b∈O,H' b=am):az (lay H O H') O=H':=by
 funext b;by_cases a:b∈O;·grind[eI]
 ·rw[cb a,eJ a]
def mB(a:Addr)(u:HO):Prop:=(∃vs,u=.lst vs)\/(∃kvs,u=.dK kvs)\/∃K ks vs,u=dB K a ks vs
def jf(H:Hp)(O:List Addr):Prop:=∀a∈O,∃u,H a=Z u/\mB a u
section
variable {X:Cx}{zK:List (Addr × Obj)}{σ:St}{H:Hp}{s:aq}{O:List Addr}
theorem Inv.nQ(I:Inv X zK σ H s)(h:H a=Z u)(m:mB a u):∃o,s.heap.get? a=Z o/\(∀v,o.data≠ .cell v)/\∀(H':Hp)(h':Heap),h'.get? a=Z o->(∀b xs,H b=Z (.tup xs)->H' b=Z (.tup xs))->dG X.prog X.w H' h' a u:=by
 rcases m with⟨vs,rfl⟩|⟨kvs,rfl⟩|⟨K,ks,vs,rfl⟩;·refine bc (I.aR a _ h) λz c=>b8 c λi n r e=>?_;clear c;exact⟨_,e,λv z=>(by injection z),λH' h' g _=>⟨z,i,n,r,g⟩⟩
 ·refine bG (I.aR a _ h) λz p c=>a9 c λvs t d=>dj d λo es ep y A f=>bc f λB C=>?_;clear c d f;exact⟨o,y,(by simp_all),λH' h' g _=>⟨z,p,vs,t,o,es,ep,g,A,B,C⟩⟩
 ·refine bG ((I.aR a _ h).1) λE G c=>d6 c λxs J L M d=>dj d λo es ep e N f=>bc f λj Q=>?_;clear c d f;exact⟨o,e,λv z=>(by rw[j]at z;injection z),λH' h' g T=>z0 ⟨E,G,xs,J,λx U=>d7.mono (λb xs q=>oQ.mpr (T b xs (oQ.mp q))) 8 _ _ (L x U),M,o,es,ep,g,N,j,Q⟩⟩
theorem UI(I:Inv X zK σ H s)(c:b∈X.fs):H b=am:=by refine bc (I.ok.iI.mem c) λ_ a=>a9 a λo d _=>?_;clear a;exact I.base.free b o d (I.ok.mh b c) λz=>I.ok.nv b z c
theorem Inv.hide(I:Inv X zK σ H s)(j:jf H O):Inv X (zK++i_ O s.heap) σ (az H O) s:=by
 have r:∀b∈O,∀u,H b=Z u->mB b u:=λb f u e=>by obtain⟨A,h,m⟩:=j b f;simp_all
 have a:∀b u,H b=Z u->¬mB b u->az H O b=Z u:=(by grind[absurd,cb]);have none_of:∀b,H b=am->az H O b=am:=(by grind[eI,cb]);refine⟨I.ok,I.os,I.bare,⟨I.base.keep,I.base.slot,λb o e n t=>none_of b (I.base.free b o e n t),I.base.there,λb xs e=>a b _ (I.base.jV b xs e) (by rintro(⟨_,z⟩|⟨_,z⟩|⟨_,_,_,z⟩)<;>injection z),λb o u e=>a b _ (I.base.hD b o u e) (by rintro(⟨_,z⟩|⟨_,z⟩|⟨_,_,_,z⟩)<;>injection z),λb ps e=>?_⟩,I.loc,I.cell,none_of _ I.free,λx c e=>none_of _ (I.fT x c e),λp w=>?_,λb u e=>?_,I.len⟩;·obtain⟨more,q⟩:=I.base.jB b ps e;exact⟨more,a b _ q (by rintro(⟨_,z⟩|⟨_,z⟩|⟨_,_,_,z⟩)<;>injection z)⟩
 ·have g:p∈X.pn++zK\/p∈i_ O s.heap:=by
   rcases bQ.mp w with h|h;·simp_all
   ·grind
  rcases g with h|h;·refine jx (I.pin p h) λe n r B d=>?_;simp_all
  ·obtain⟨f,e⟩:=EU h;obtain⟨u,i,m⟩:=j _ f;refine aM (Inv.nQ I i m) λo q C _=>?_;rw[q]at e;have ep:o=p.2:=ao e;refine⟨by rw[q,ep],eI f,λz=>?_,λz=>?_,λv z=>?_⟩
   ·rw[z,I.free]at i;injection i
   ·grind[UI]
   simp_all
 ·obtain⟨f,y⟩:=gU e;refine(I.aR b u y).jA (λ_ _ _ q=>q) (λc q=>a c _ q (by rintro(⟨_,z⟩|⟨_,z⟩|⟨_,_,_,z⟩)<;>injection z)) λc xs q=>a c _ q (by rintro(⟨_,z⟩|⟨_,z⟩|⟨_,_,_,z⟩)<;>injection z)
theorem Inv.Hi(I:Inv X zK σ H s)(v:jf H O)(J:Inv X (zK++i_ O s.heap) j H' y)(S:∀b xs,az H O b=Z (.tup xs)->H' b=Z (.tup xs)):Inv X zK j (lay H O H') y/\∀b∈O,H' b=am:=by
 have C:∀b xs,H b=Z (.tup xs)->lay H O H' b=Z (.tup xs):=λb xs e=>by
  have a:b∉O:=λz=>by
   obtain⟨u,h,m⟩:=v b z;rw[e]at h
   (obtain rfl:=ao h);rcases m with⟨_,z⟩|⟨_,z⟩|⟨_,_,_,z⟩<;>injection z
  rw[eJ a];exact S _ _ (by rw[cb a];exact e)
 have g:∀b∈O,∃u,H b=Z u/\dG X.prog X.w (lay H O H') y.heap b u/\H' b=am:=λb a=>by obtain⟨u,i,m⟩:=v b a;refine aM (Inv.nQ I i m) λo q _ r=>?_;obtain⟨E,G,_⟩:=J.pin (b,_) (dV _ (dV _ (qZ a q)));exact⟨u,i,r _ _ E C,G⟩
 have hn:∀b∈O,H' b=am:=λb a=>by obtain⟨_,_,_,z⟩:=g b a;exact z
 have out:∀b u,H' b=Z u->b∉O:=λb u e a=>by rw[hn b a]at e;injection e
 have f:∀b u,H' b=Z u->lay H O H' b=Z u:=λb u e=>by rw[eJ (out b u e)];exact e
 refine⟨⟨J.ok,J.os,J.bare,⟨J.base.keep,J.base.slot,λb o e n A=>?_,J.base.there,λb xs e=>f b _ (J.base.jV b xs e),λb o u e=>f b _ (J.base.hD b o u e),λb ps e=>?_⟩,J.loc,J.cell,?_,λx c e=>?_,λp B=>?_,λb u e=>?_,J.len⟩,hn⟩
 ·by_cases a:b∈O
  ·rw[gS a];exact I.base.free b o e n A
  ·rw[eJ a];exact J.base.free b o e n A
 ·obtain⟨more,q⟩:=J.base.jB b ps e;exact⟨more,f b _ q⟩
 ·by_cases a:X.env.locals∈O
  ·rw[gS a];exact I.free
  ·rw[eJ a];exact J.free
 ·by_cases a:c∈O
  ·rw[gS a];exact I.fT x c e
  ·rw[eJ a];exact J.fT x c e
 ·have t:p∈X.pn++(zK++i_ O s.heap):=by
   rcases bQ.mp B with h|h
   ·exact d_ _ h
   ·exact dV _ (d_ _ h)
  refine jx (J.pin p t) λe n L M d=>?_;refine⟨e,?_,L,M,d⟩;by_cases a:p.1∈O
  ·rw[gS a];exact(I.pin p B).2.1
  ·rw[eJ a];exact n
 ·by_cases a:b∈O
  ·rw[gS a]at e;refine aM (g b a) λN i r _=>?_;rw[i]at e
   (obtain rfl:=ao e);exact r
  ·rw[eJ a]at e;exact(J.aR b u e).jA (λ_ _ _ q=>q) (λc q=>f c _ q) λc xs q=>f c _ q
theorem Inv.w8(I:Inv X zK σ H s)(c:jf H O)(J:Inv X (zK++i_ O s.heap) a H' d)(S:aw (az H O) H'):Inv X zK a (lay H O H') d/\∀b∈O,H' b=am:=Inv.Hi I c J λb xs=>S b _
end
inductive XD where|t (o:Option Addr) (ks:List D)|n|x (b:Addr)|s (ks:List Key)
noncomputable def XD.fl:XD->Bool|.t _ _=>be|.x _=>be|_=>bi
inductive SD where|ak (d:D)|ow (κ:Option (List Key)) (ds:List D)|xt (κ:XD) (ds:List D)
noncomputable abbrev SD.own(ds:List D):SD:=.ow am ds
noncomputable def lM:Option (List Key)->List V->HO|none,vs=>.lst vs|some ks,vs=>.dK (ks.zip vs)
theorem Hj(a:Addr)(κ:Option (List Key))(vs:List V):mB a (lM κ vs):=by cases κ with|none=>exact .inl ⟨vs,W⟩|some ks=>exact .inr (.inl ⟨_,W⟩)
def pf(κ:Option (List Key))(vs:List V):Prop:=∀ks,κ=Z ks->ks.length=vs.length/\ks.Nodup/\∀k∈ks,mn k=be
theorem Hk(vs:List V):pf am vs:=λ_ z=>by injection z
noncomputable abbrev ar:=List (Option SD)
noncomputable def UJ:Option SD->Option D|some (.ak d)=>Z d|_=>am
noncomputable def UK:Option SD->Option D|some (.ak d)=>Z d|some (.ow am ds)=>Z (.lst ds)|some (.xt (.t _ ks) ds)=>Z (.tab ks ds)|some (.xt .n ds)=>Z (.lst ds)|some (.xt (.x _) ds)=>Z (.lst ds)|_=>am
def pv(a:ar):ag:=a.map UJ
def fz(a:ar):ag:=a.map UK
def OX(K:av)(H G:Hp)(κ:XD)(a:Addr)(A:List Addr)(ds:List D):Prop:=match κ with|.t o ks=>A=[]/\∃vs,H a=Z (dB K a ks vs)/\aG K G vs ds/\ks.length=vs.length/\∀b,o=Z b->a=b|.n=>H a=Z (.lst (A.map .ref))/\A.Nodup/\A.length=ds.length/\∀(j:Nat)(b:Addr)(d:D),A[j]?=Z b->ds[j]?=Z d->∃vs es,d=.lst es/\H b=Z (.lst vs)/\aG K G vs es|.x b=>a=b/\A=[]/\∃vs,H a=Z (.lst vs)/\aG K G vs ds|.s ks=>∃T:List Addr,H a=Z (.dK (ks.zip (T.map .ref)))/\pf (Z ks) (T.map .ref)/\A.Nodup/\T.length=ds.length/\A.length=ds.length/\∀(j:Nat)(b c:Addr)(d:D),A[j]?=Z b->T[j]?=Z c->ds[j]?=Z d->∃v k vs es,G c=Z (.tup [v,.ref b])/\Rep K G v k/\d=.tup [k,.lst es]/\H b=Z (.lst vs)/\aG K G vs es
theorem OX.flat{K:av}{H G:Hp}{κ:XD}{a:Addr}{A:List Addr}{ds:List D}(h:OX K H G κ a A ds)(e:κ.fl=be):A=[]:=by cases κ with|t o ks=>exact h.1|x b=>exact h.2.1|_=>injection e
theorem OX.mono{K:av}{H H' G B:Hp}{κ:XD}{a:Addr}{A:List Addr}{ds:List D}(h:OX K H G κ a A ds)(e:∀b∈a::A,H' b=H b)(s:aw G B):OX K H' B κ a A ds:=by cases κ with|t o ks=>refine bc h λg f=>aM f λvs i m p=>?_;clear h f;exact⟨g,vs,(e a (by exact .head _)).trans i,m.mono s,p⟩|s ks=>refine d6 h λT g i m f=>bG f λp r C=>?_;clear h f;exact⟨T,(e a (by exact .head _)).trans g,i,m,p,r,λj b c d q u E=>by obtain⟨v,k,vs,es,w,y,z,I,J⟩:=C j b c d q u E;exact⟨v,k,vs,es,s _ _ w,y.mono s,z,(e b (cx _ (cj q))).trans I,J.mono s⟩⟩|n=>refine jw h λg i m p=>?_;clear h;exact⟨(e a (by exact .head _)).trans g,i,m,λj b d q u=>by obtain⟨vs,es,w,y,z⟩:=p j b d q u;exact⟨vs,es,w,(e b (cx _ (cj q))).trans y,z.mono s⟩⟩|x b=>exact bG h λg i m=>a9 m λvs p r=>⟨g,i,vs,(e a (by exact .head _)).trans p,r.mono s⟩
def Off(σ:St)(a:ar)(A:List Addr):Prop:=∀(j:Nat)(κ:Option (List Key))(es:List D)(b:Addr),a[j]?=Z (Z (.ow κ es))->σ[j]?=Z (Z (.ref b))->b∉A
def RX(K:av)(H:Hp)(σ:St)(c:ar)(O:List Addr):Prop:=∀(i:Nat)(κ:XD)(ds:List D),c[i]?=Z (Z (.xt κ ds))->(∀j κ' es,c[j]?=Z (Z (.xt κ' es))->j=i\/κ.fl=be/\κ'.fl=be/\σ[j]?≠σ[i]?)/\∃a A,σ[i]?=Z (Z (.ref a))/\(∀b∈a::A,b∈O)/\a∉A/\OX K H (az H O) κ a A ds/\Off σ c (a::A)
theorem RX.of{K:av}{H H':Hp}{σ c:St}{f ρ':ar}{O g:List Addr}(R:RX K H σ f O)(m:∀(i:Nat)(κ:XD)(ds:List D),ρ'[i]?=Z (Z (.xt κ ds))->f[i]?=Z (Z (.xt κ ds))/\c[i]?=σ[i]?)(q:aw (az H O) (az H' g))(r:∀A,(∀b∈A,b∈O)->Off σ f A->(∀b∈A,b∈g/\H' b=H b)/\Off c ρ' A):RX K H' c ρ' g:=λi κ ds h=>by obtain⟨t,p⟩:=m i κ ds h;refine bc (R i κ ds t) λu d=>fS d λa A v w x y B=>?_;clear d;obtain⟨b1,b2⟩:=r _ w B;exact⟨λj κ' es e=>(u j κ' es (m _ _ _ e).1).imp_right λz=>⟨z.1,z.2.1,by rw[(m _ _ _ e).2,p];exact z.2.2⟩,a,A,p.trans v,λb h=>(b1 b h).1,x,y.mono (λb h=>(b1 b h).2) q,b2⟩
structure RO(K:av)(H:Hp)(σ:St)(ρ:ar)(O:List Addr):Prop where
 len:σ.length=ρ.length
 ls:jf H O
 ak:∀(i:Nat)(d:D),ρ[i]?=Z (Z (.ak d))->∃v,σ[i]?=Z (Z v)/\Rep K (az H O) v d
 ow:∀(i:Nat)(κ:Option (List Key))(ds:List D),ρ[i]?=Z (Z (.ow κ ds))->∃a vs,σ[i]?=Z (Z (.ref a))/\a∈O/\H a=Z (lM κ vs)/\aG K (az H O) vs ds/\pf κ vs
 inj:∀(i j:Nat)(κ κ':Option (List Key))(ds es:List D)(a:Addr),ρ[i]?=Z (Z (.ow κ ds))->ρ[j]?=Z (Z (.ow κ' es))->σ[i]?=Z (Z (.ref a))->σ[j]?=Z (Z (.ref a))->i=j
 xt:RX K H σ ρ O
section
variable {K:av}{H H':Hp}{σ:St}{ρ:ar}{O:List Addr}
theorem RO.own(R:RO K H σ ρ O)(i:Nat)(ds:List D)(h:ρ[i]?=Z (Z (.own ds))):∃a vs,σ[i]?=Z (Z (.ref a))/\a∈O/\H a=Z (.lst vs)/\aG K (az H O) vs ds:=let ⟨a,vs,b,c,d,e,_⟩:=R.ow i am ds h
 ⟨a,vs,b,c,d,e⟩
theorem AU:∀{vs:List V}{ds:List D},vs.length=ds.length->(∀(j:Nat)(v:V)(d:D),vs[j]?=Z v->ds[j]?=Z d->Rep K H v d)->aG K H vs ds|[],[],_,_=>.nil|v::vs,d::ds,h,q=>.cons (q 0 v d W W) (AU (by simpa using h) λj v d a b=>q (j+1) v d (by simpa using a) (by simpa using b))
theorem RO.pv(R:RO K H σ ρ O):bL K (az H O) σ (pv ρ):=by refine⟨by rw[R.len];simp[DL.pv],λi d h=>?_⟩;unfold DL.pv at h;rw[bW]at h;cases q:ρ[i]? with|none=>simp_all|some o=>rw[q]at h;cases o with|none=>(injection h with h;injection h)|some x=>cases x with|ak d'=>cases h;exact R.ak i d q|ow κ ds=>(injection h with h;injection h)|xt κ ds=>(injection h with h;injection h)
theorem RO.fz(R:RO K H σ ρ O):bL K H σ (fz ρ):=by refine⟨by rw[R.len];simp[DL.fz],λi d h=>?_⟩;unfold DL.fz at h;rw[bW]at h;cases q:ρ[i]? with|none=>simp_all|some o=>rw[q]at h;cases o with|none=>(injection h with h;injection h)|some x=>cases x with
   |ak d'=>cases h;obtain⟨v,e,u⟩:=R.ak i d q;exact⟨v,e,u.mono (hZ H O)⟩|ow κ ds=>cases κ with
    |some ks=>(injection h with h;injection h)|none=>cases h;refine cE (R.own i ds q) λa vs e _ w f=>?_;exact⟨.ref a,e,.lst (.inl w) (f.mono (hZ H O))⟩
   |xt κ ds=>refine bc (R.xt i κ ds q) λ_ c=>fS c λa A e _ _ f _=>?_;clear c;cases κ with|t o ks=>cases h;refine bc f λ_ c=>aM c λvs g m _=>?_;clear f c;exact⟨.ref a,e,.tab g (m.mono (hZ H O))⟩|s ks=>(injection h with h;injection h)|n=>cases h;refine jw f λg _ m y=>?_;clear f;exact⟨.ref a,e,.lst (.inl g) (AU (by simpa using m) λj v d r z=>by rw[bW]at r;obtain⟨b,B,rfl⟩:=bu.mp r;refine cM (y j b d B z) λvs es p C E=>?_;subst p;exact .lst (.inl C) (E.mono (hZ H O)))⟩|x b=>cases h;exact bG f λ_ _ G=>a9 G λvs g m=>⟨.ref a,e,.lst (.inl g) (m.mono (hZ H O))⟩
structure SO(H H':Hp)(O:List Addr):Prop where
 same:aw (az H O) (az H' O)
 own:∀a∈O,H' a=H a
theorem SO.refl(H:Hp)(O:List Addr):SO H H O:=⟨aw.refl _,λ_ _=>rfl⟩
theorem SO.trans(a:SO d H2 O)(b:SO H2 e O):SO d e O:=⟨a.same.trans b.same,λc h=>(b.own c h).trans (a.own c h)⟩
theorem SO.of(c:jf H O)(h:aw H H'):SO H H' O:=⟨λb o e=>by obtain⟨d,f⟩:=gU e;rw[cb d];exact h b o f,λa g=>by obtain⟨vs,e,_⟩:=c a g;rw[e];exact h a _ e⟩
theorem RO.mono(R:RO K H σ ρ O)(s:SO H H' O):RO K H' σ ρ O:=⟨R.len,λa g=>by obtain⟨u,e,p⟩:=R.ls a g;exact⟨u,(s.own a g).trans e,p⟩,λi d h=>by obtain⟨v,f,c⟩:=R.ak i d h;exact⟨v,f,c.mono s.same⟩,λi κ ds h=>by obtain⟨a,vs,f,c,q,r,t⟩:=R.ow i κ ds h;exact⟨a,vs,f,c,(s.own a c).trans q,r.mono s.same,t⟩,R.inj,R.xt.of (λ_ _ _ h=>⟨h,W⟩) s.same λA j o=>⟨λb m=>⟨j b m,s.own b (j b m)⟩,o⟩⟩
theorem RO.set(R:RO K H σ ρ O)(i:Nat)(q:Rep K (az H O) v d):RO K H (σ.set i (Z v)) (ρ.set i (Z (.ak d))) O:=by
 have old:∀(j:Nat)(x:SD),(ρ.set i (Z (.ak d)))[j]?=Z (Z x)->(j=i/\i<ρ.length/\x=.ak d)\/(j≠i/\ρ[j]?=Z (Z x)):=(by grind);refine⟨by rw[e_,e_];exact R.len,R.ls,λj e h=>?_,λj κ ds h=>?_,λj k κ κ' ds es a g m p r=>?_,R.xt.of (λj κ ds h=>?_) (aw.refl _) λA t o=>⟨λb u=>⟨t b u,W⟩,λj κ es b g m=>?_⟩⟩;rotate_left 3
 ·rcases old j _ h with⟨_,_,c⟩|⟨f,h⟩;·injection c
  ·exact⟨h,dh (b6 f)⟩
 ·rcases old j _ g with⟨_,_,c⟩|⟨f,g⟩;·injection c
  ·rw[dh (b6 f)]at m;exact o j κ es b g m
 ·rcases old j _ h with⟨rfl,w,c⟩|⟨f,h⟩;·cases c;exact⟨v,ij (by rw[R.len];exact w),q⟩
  ·rw[dh (b6 f)];exact R.ak j e h
 ·rcases old j _ h with⟨_,_,c⟩|⟨f,h⟩
  ·injection c
  ·rw[dh (b6 f)];exact R.ow j κ ds h
 ·rcases old j _ g with⟨_,_,c⟩|⟨f,g⟩
  ·injection c
  ·rcases old k _ m with⟨_,_,c⟩|⟨y,m⟩
   ·injection c
   ·rw[dh (b6 f)]at p;rw[dh (b6 y)]at r;exact R.inj j k κ κ' ds es a g m p r
theorem RO.Hl(R:RO K H σ ρ O)(i:Nat)(B:H p=am)(q:aG K (az H O) vs ds)(C:pf κ vs):RO K (upd H p (lM κ vs)) (σ.set i (Z (.ref p))) (ρ.set i (Z (.ow κ ds))) (p::O)/\aw (az H O) (az (upd H p (lM κ vs)) (p::O)):=by
 have g:p∉O:=λh=>by obtain⟨vs,e,_⟩:=R.ls p h;simp_all
 have m:aw (az H O) (az (upd H p (lM κ vs)) (p::O)):=λb o e=>by obtain⟨E,L⟩:=gU e;have M:b≠p:=jz L B;simp_all[cb,bf]
 have old:∀(j:Nat)(x:SD),(ρ.set i (Z (.ow κ ds)))[j]?=Z (Z x)->(j=i/\i<ρ.length/\x=.ow κ ds)\/(j≠i/\ρ[j]?=Z (Z x)):=(by grind);refine⟨⟨by rw[e_,e_];exact R.len,λa ha=>?_,λj e h=>?_,λj κ' es h=>?_,λj k N Q es fs a d c r w=>?_,R.xt.of (λj κ ds h=>?_) m λA G o=>⟨λb E=>⟨cx _ (G b E),bf λz=>g (z▸G b E)⟩,λj κ es b d c=>?_⟩⟩,m⟩;rotate_left 4
 ·rcases old j _ h with⟨_,_,t⟩|⟨f,h⟩;·injection t
  ·exact⟨h,dh (b6 f)⟩
 ·rcases old j _ d with⟨rfl,u,_⟩|⟨f,d⟩;·rw[ij (by rw[R.len];exact u)]at c;cases c;exactλz=>g (G _ z)
  ·rw[dh (b6 f)]at c;exact o j κ es b d c
 ·rcases a7.mp ha with rfl|ha;·exact⟨_,bA,Hj _ _ _⟩
  ·obtain⟨y,e,T⟩:=R.ls a ha;exact⟨y,by rw[bf (jz e B)];exact e,T⟩
 ·rcases old j _ h with⟨_,_,t⟩|⟨f,h⟩
  ·injection t
  ·rw[dh (b6 f)];obtain⟨v,d,c⟩:=R.ak j e h;exact⟨v,d,c.mono m⟩
 ·rcases old j _ h with⟨rfl,u,t⟩|⟨f,h⟩
  ·cases t;exact⟨p,vs,ij (by rw[R.len];exact u),bE,bA,q.mono m,C⟩
  ·rw[dh (b6 f)];refine fS (R.ow j κ' es h) λa y d c r w U=>?_;exact⟨a,y,d,cx _ c,by rw[bf (jz r B)];exact r,w.mono m,U⟩
 ·have J:∀(j:Nat)(κ:Option (List Key))(es:List D)(a:Addr),ρ[j]?=Z (Z (.ow κ es))->σ[j]?=Z (Z (.ref a))->a≠p:=λj κ es a d c z=>by refine cE (R.ow j κ es d) λb y Y q2 q3 _=>?_;simp_all
  rcases old j _ d with⟨rfl,u,_⟩|⟨f,I⟩;·grind
  ·rw[dh (b6 f)]at r;rcases old k _ c with⟨rfl,u,_⟩|⟨C,c⟩
   ·grind
   ·rw[dh (b6 C)]at w;exact R.inj j k _ _ es fs a I c r w
theorem RO.new(R:RO K H σ ρ O)(i:Nat)(a:H p=am)(q:aG K (az H O) vs ds):RO K (upd H p (.lst vs)) (σ.set i (Z (.ref p))) (ρ.set i (Z (.own ds))) (p::O)/\aw (az H O) (az (upd H p (.lst vs)) (p::O)):=R.Hl (κ:=am) i a q (Hk vs)
theorem RO.Hm(R:RO K H σ ρ O)(f:ρ[i]?=Z (Z (.ow κ ds)))(E:σ[i]?=Z (Z (.ref a)))(I:a∈O)(q:aG K (az H O) v es)(G:pf κ' v):RO K (upd H a (lM κ' v)) σ (ρ.set i (Z (.ow κ' es))) O/\az (upd H a (lM κ' v)) O=az H O:=by
 have w:az (upd H a (lM κ' v)) O=az H O:=by
  funext b;by_cases p:b∈O;·simp_all[eI]
  ·grind[cb,bf]
 have J:i<ρ.length:=(bF.mp f).1;have old:∀(j:Nat)(x:SD),(ρ.set i (Z (.ow κ' es)))[j]?=Z (Z x)->(j=i/\x=.ow κ' es)\/(j≠i/\ρ[j]?=Z (Z x)):=(by grind);refine⟨⟨by rw[e_];exact R.len,λb p=>?_,λj e h=>?_,λj c fs h=>?_,λj k c L r fs b g m y B=>?_,R.xt.of (λj κ ds h=>?_) (by rw[w];exact aw.refl _) λA M o=>⟨λb p=>⟨M b p,bf λz=>o i κ ds a f E (z▸p)⟩,λj c N b g m=>?_⟩⟩,w⟩;rotate_left 4
 ·rcases old j _ h with⟨_,C⟩|⟨t,h⟩;·injection C
  ·exact⟨h,W⟩
 ·rcases old j _ g with⟨rfl,_⟩|⟨t,g⟩;·exact o j κ ds b f m
  ·exact o j _ _ b g m
 ·by_cases z:b=a
  ·subst z;exact⟨_,bA,Hj _ _ _⟩
  ·rw[bf z];exact R.ls b p
 ·rw[w];rcases old j _ h with⟨_,C⟩|⟨t,h⟩
  ·injection C
  ·exact R.ak j e h
 ·rw[w];rcases old j _ h with⟨rfl,C⟩|⟨t,h⟩
  ·grind[bA]
  ·refine cE (R.ow j c fs h) λb ws g m y B=>?_;have Q:b≠a:=λz=>t (R.inj j i _ _ fs ds a h f (by simp_all) E);grind[bf]
 ·rcases old j _ g with⟨rfl,_⟩|⟨t,u⟩
  ·rcases old k _ m with⟨rfl,_⟩|⟨G,d⟩
   ·rfl
   ·exact R.inj j k _ _ ds fs b f d y B
  ·rcases old k _ m with⟨rfl,_⟩|⟨G,d⟩
   ·exact R.inj j k _ _ r ds b u f y B
   ·exact R.inj j k _ _ r fs b u d y B
theorem RO.chg(R:RO K H σ ρ O)(d:ρ[i]?=Z (Z (.own ds)))(e:σ[i]?=Z (Z (.ref a)))(b:a∈O)(q:aG K (az H O) c es):RO K (upd H a (.lst c)) σ (ρ.set i (Z (.own es))) O/\az (upd H a (.lst c)) O=az H O:=R.Hm (κ':=am) d e b q (Hk c)
end
mutual
noncomputable def cG:D->Bool|.lst _=>bi|.bJ _=>bi|.aW _ _=>bi|.tab .. =>bi|.tup xs=>cO xs|_=>be
noncomputable def cO:List D->Bool|[]=>be|x::xs=>cG x&&cO xs
end
theorem Hn(n:cO (d::ds)=be):cG d=be/\cO ds=be:=by simpa [cO]using n
theorem Rep.hide{K:av}{H:Hp}{O:List Addr}(c:jf H O){v:V}(r:Rep K H v d):cG d=be->Rep K (az H O) v d:=r.go (P:=λd=>cG d=be) (Q:=λds=>cO ds=be) (λ{a xs ds} _ h=>h.imp_left λh=>by
  by_cases b:a∈O
  ·obtain⟨vs,q,e⟩:=c a b;rw[h]at q
   (obtain rfl:=ao q);rcases e with⟨_,z⟩|⟨_,z⟩|⟨_,_,_,z⟩<;>injection z
  ·rw[cb b];exact h) (λn=>by simp[cG]at n) (λn=>by simp[cG]at n) (λn=>by simp[cG]at n) (λn=>by simp[cG]at n) (λn=>by simpa [cG]using n) Hn
theorem aG.hide{K:av}{H:Hp}{O:List Addr}(a:jf H O){vs:List V}{ds:List D}(r:aG K H vs ds):cO ds=be->aG K (az H O) vs ds:=r.go (P:=λd=>cG d=be) (Q:=λds=>cO ds=be) (λr=>r.hide a) Hn
def UL(K:av)(f:ar->Option D):TE:=λσ H Q=>∃a O d,RO K H σ a O/\f a=Z d/\∀v H',SO H H' O->Rep K (az H' O) v d->Q v H'
def vH(f:ag->Option D):ar->Option D:=λa=>f (pv a)
def vZ(f:ag->Option D):ar->Option D:=λa=>(f (fz a)).bind λd=>if cG d=be then Z d else am
section
variable {X:Cx}{e b:Expr}{p:Pos}{f fa fb:ag->Option D}{fl:ag->Option (List D)}
noncomputable def w9:D->Option (List D)|.lst xs=>Z xs|_=>am
noncomputable def Ho:D->Option (List D)|.lst xs=>Z xs|.tup xs=>Z xs|_=>am
def nR(fa fb:ag->Option D):ag->Option (List D):=λc=>(fa c).bind λx=>(fb c).bind λy=>(w9 x).bind λxs=>(w9 y).bind λys=>if xs.length+ys.length<=aD then Z (xs++ys)else am
def w_(fa:ag->Option D):ag->Option (List D):=λc=>(fa c).bind Ho
def UM(K:av)(f:ar->Option (List D)):TE:=λσ H Q=>∃c O ds,RO K H σ c O/\f c=Z ds/\∀vs H' p,SO H H' O->H' p=am->aG K (az H' O) vs ds->Q (.ref p) (upd H' p (.lst vs))
def lH(f:ag->Option (List D)):ar->Option (List D):=λc=>f (pv c)
def lZ(f:ag->Option (List D)):ar->Option (List D):=λc=>(f (fz c)).bind λds=>if cO ds=be then Z ds else am
theorem AV{r:Type}{fl:ag->Option r}{ds:r->List D}{o:r->Addr->List V->HO}(h:PE X e (λσ H Q=>∃g z,bL X.K H σ g/\fl g=Z z/\∀vs c p,aw H c->c p=am->aG X.K c vs (ds z)->Q (.ref p) (upd c p (o z p vs)))):PE X e (λσ H Q=>∃g O z,RO X.K H σ g O/\fl (pv g)=Z z/\∀vs H' p,SO H H' O->H' p=am->aG X.K (az H' O) vs (ds z)->Q (.ref p) (upd H' p (o z p vs))):=by
 intro zK s σ H Q I ⟨g,O,z,R,A,q⟩;refine aT (h _ s σ (az H O) (λv H2=>∃vs c p,v=.ref p/\H2=upd c p (o z p vs)/\aw (az H O) c/\c p=am/\aG X.K c vs (ds z)) (Inv.hide I R.ls) ⟨pv g,z,R.pv,A,λvs c p j m t=>⟨vs,c,p,W,W,j,m,t⟩⟩) λu N B=>?_;obtain⟨v,H2,J,C,vs,c,p,E,G,j,m,t⟩:=B;subst E G;obtain⟨y,hn⟩:=Inv.w8 I R.ls J (j.trans (cU m _));have i:p∉O:=λh=>by have:=hn p h;rw[bA]at this;injection this
 have w:∀b∈O,c b=am:=λb d=>by have:=hn b d;rw[bf (λz=>i (by rw[<-z];exact d))]at this;exact this
 have e:=AS (H:=H) w;have L:lay H O (upd c p (o z p vs))=upd (lay H O c) p (o z p vs):=by
  funext b;by_cases d:b∈O;·rw[gS d,bf (λz=>i (by rw[<-z];exact d)),gS d]
  ·rw[eJ d];by_cases x:b=p;·subst x;rw[bA,bA]
   ·rw[bf x,bf x,eJ d]
 rw[L]at y;exact⟨.ref p,_,y,C,q vs _ p ⟨by rw[e];exact j,λa M=>gS M⟩ (by rw[eJ i];exact m) (by rw[e];exact t)⟩
end
inductive aK where|aF (ρ:ar)|ret (d:D)|brk (ρ:ar)|cnt (ρ:ar)
def nS(K:av)(e:Ends)(H:Hp)(O:List Addr):aK->Prop|.aF c=>∀a H' b,aw (az H O) (az H' b)->RO K H' a c b->e.nx a H'|.ret d=>∀v H',aw (az H O) H'->Rep K H' v d->e.rt v H'|.brk c=>∀a H' b,aw (az H O) (az H' b)->RO K H' a c b->e.bk a H'|.cnt c=>∀a H' b,aw (az H O) (az H' b)->RO K H' a c b->e.ct a H'
theorem nS.mono{K:av}{b:Ends}{H H':Hp}{O c:List Addr}{o:aK}(h:nS K b H O o)(e:aw (az H O) (az H' c)):nS K b H' c o:=by cases o with|aF f=>exactλa H2 O2 s r=>h a H2 O2 (e.trans s) r|ret d=>exactλv H2 s r=>h v H2 (e.trans s) r|brk f=>exactλa H2 O2 s r=>h a H2 O2 (e.trans s) r|cnt f=>exactλa H2 O2 s r=>h a H2 O2 (e.trans s) r
def Hq(K:av)(g:ar->Option aK):TS:=λb σ H=>∃a O o,RO K H σ a O/\g a=Z o/\nS K b H O o
structure KS(X:Cx)(st:Stmt)(g:ar->Option aK):Prop where h:PS X st (Hq X.K g)
structure KB(X:Cx)(st:List Stmt)(g:ar->Option aK):Prop where h:fU X st (Hq X.K g)
structure eL(X:Cx)(e:Expr)(f:ar->Option D):Prop where h:PE X e (UL X.K f)
structure KF(X:Cx)(e:Expr)(f:ar->Option (List D)):Prop where h:PE X e (UM X.K f)
structure JL(X:Cx)(e:Expr)(f:ag->Option (List D)):Prop where h:PE X e (Ad X.K f)
section
variable {X:Cx}{e c:Expr}{st:Stmt}{rest:List Stmt}{pos p:Pos}{f:ag->Option D}{fo:ar->Option D}{lo:ar->Option (List D)}{fl:ag->Option (List D)}{g u:ar->Option aK}{t:ag->Option Bool}{x:Str}
theorem UN(h:JE X e f):eL X e (vH f):=⟨by intro zK s σ H Q I ⟨m,O,d,R,r,q⟩;refine aT (h.h _ s σ (az H O) (λv b=>aw (az H O) b/\Rep X.K b v d) (Inv.hide I R.ls) ⟨pv m,d,R.pv,r,λv b i j=>⟨i,j⟩⟩) λu B w=>?_;obtain⟨v,b,J,y,i,j⟩:=w;obtain⟨z,hn⟩:=Inv.w8 I R.ls J i;have e:=AS (H:=H) hn;exact⟨v,lay H O b,z,y,q v _ ⟨by simp_all,λa A=>gS A⟩ (by simp_all)⟩⟩
theorem UO(h:JE X e f):eL X e (vZ f):=⟨cQ h.h<|by
 rintro σ H Q ⟨b,O,d,R,a,q⟩;refine bS a λd' i a=>?_;split at a;case isFalse=>cases a
 rename_i hn;cases a;refine⟨fz b,d,R.fz,i,λv j m r=>?_⟩;have S:=SO.of R.ls m;exact q v j S (Rep.hide (R.mono S).ls r hn)⟩
theorem UP(h:JL X e fl):KF X e (lH fl):=⟨AV (ds:=id) (o:=λ_ _=>.lst) h.h⟩
theorem UQ(h:JL X e fl):KF X e (lZ fl):=⟨cQ h.h<|by
 rintro σ H Q ⟨b,O,ds,R,a,q⟩;refine bS a λd i a=>?_;split at a;case isFalse=>cases a
 rename_i hn;cases a;refine⟨fz b,ds,R.fz,i,λvs j p m r v=>?_⟩;have S:=SO.of R.ls m;exact q vs j p S r (aG.hide (R.mono S).ls v hn)⟩
noncomputable def dX:ar->Option aK:=λa=>Z (.aF a)
noncomputable def aI(g u:ar->Option aK):ar->Option aK:=λa=>(g a).bind λo=>match o with|.aF ρ'=>u ρ'|o=>Z o
theorem UR:KB X [] dX:=⟨jD v_<|by rintro a σ H ⟨b,O,o,R,e,q⟩;(obtain rfl:=ao e);exact q σ H O (aw.refl _) R⟩
theorem US(h:KS X st g):KB X [st] g:=⟨oT h.h⟩
theorem UT(a:KS X st g)(i:KB X rest u):KB X (st::rest) (aI g u):=⟨jD (qT a.h i.h)<|by rintro w σ H ⟨j,O,o,R,e,q⟩;refine bS e λb a e=>?_;refine⟨j,O,b,R,a,?_⟩;cases b with|aF ρ'=>exactλm H' v s r=>⟨ρ',v,o,r,e,q.mono s⟩|ret d=>(obtain rfl:=ao e);exact q|brk ρ'=>(obtain rfl:=ao e);exact q|cnt ρ'=>(obtain rfl:=ao e);exact q⟩
def eD(f:ag->Option D):ar->Option aK:=λa=>(f (fz a)).bind λd=>Z (.ret d)
theorem UU(h:JE X e f):KS X (.Return (Z e) pos) (eD f):=⟨cz (tw h.h)<|by
  rintro i σ H ⟨a,O,o,R,e,q⟩;refine bS e λd b e=>?_
  (obtain rfl:=ao e);exact⟨fz a,d,R.fz,b,λv H' s r=>q v H' ((hZ H O).trans s) r⟩⟩
def d9(t:ag->Option Bool)(g u:ar->Option aK):ar->Option aK:=λa=>(t (fz a)).bind λc=>if c=be then g a else u a
theorem UW(i:JT X c t)(j:KB X a g)(m:KB X b u):KS X (.If c a b pos) (d9 t g u):=⟨cz (qU i.h j.h m.h)<|by rintro w σ H ⟨d,O,o,R,e,q⟩;refine bS e λk r e=>?_;refine⟨fz d,k,R.fz,r,λy v=>?_⟩;have S:=SO.of R.ls v;cases k with|true=>rw[if_pos W]at e;exact⟨d,O,o,R.mono S,e,q.mono S.same⟩|false=>rw[if_neg ei]at e;exact⟨d,O,o,R.mono S,e,q.mono S.same⟩⟩
noncomputable def cg(i:Nat)(f:ar->Option D):ar->Option aK:=λa=>(f a).bind λd=>Z (.aF (a.set i (Z (.ak d))))
theorem UX(i:Nat)(a:X.N.Nodup)(h:eL X e fo)(b:X.N[i]?=Z x)(j:Loc X.env.scope x)(m:eY e (Z (.Name x pos')) pos.line X.env=pure bi)(hf:X.fn x=be\/X.env.scope.names.lookup x=Z .local):KS X (.Assign [.Name x pos'] e pos) (cg i fo):=⟨cz (kE a b j h.h m hf)<|by
  rintro A σ H ⟨r,O,o,R,e,q⟩;refine bS e λd w e=>?_
  (obtain rfl:=ao e);exact⟨r,O,d,R,w,λv y S z=>q _ y O S.same ((R.mono S).set i z)⟩⟩
noncomputable def cS(i:Nat)(f:ar->Option (List D)):ar->Option aK:=λa=>(f a).bind λds=>Z (.aF (a.set i (Z (.own ds))))
theorem UY(i:Nat)(a:X.N.Nodup)(h:KF X e lo)(b:X.N[i]?=Z x)(d:Loc X.env.scope x)(j:eY e (Z (.Name x pos')) pos.line X.env=pure bi)(hf:X.fn x=be\/X.env.scope.names.lookup x=Z .local):KS X (.Assign [.Name x pos'] e pos) (cS i lo):=⟨cz (kE a b d h.h j hf)<|by
  rintro A σ H ⟨m,O,o,R,e,q⟩;refine bS e λds r e=>?_
  (obtain rfl:=ao e);refine⟨m,O,ds,R,r,λvs B p S v w=>?_⟩;obtain⟨y,z⟩:=(R.mono S).new i v w;exact q _ _ _ (S.same.trans z) y⟩
noncomputable def h7(i:Nat)(a:ar):Option (List D):=match a[i]? with|some (Z (.ow am ds))=>Z ds|_=>am
theorem pg(h:h7 i a=Z ds):a[i]?=Z (Z (.own ds)):=by unfold h7 at h;cases q:a[i]? with|none=>rw[q]at h;injection h|some o=>rw[q]at h;cases o with|none=>injection h|some y=>cases y with|xt κ es=>injection h|ak d=>injection h|ow κ es=>cases κ with|none=>(obtain rfl:=ao h);rfl|some ks=>injection h
def eM(i:Nat)(f:ar->Option D):ar->Option aK:=λa=>(h7 i a).bind λds=>(f a).bind λd=>if ds.length<aD then Z (.aF (a.set i (Z (.own (ds++[d])))))else am
theorem UZ{apos cpos:Pos}(i:Nat)(h:eL X e fo)(C:X.N[i]?=Z x)(E:dv X.env.scope x)(hn:cZ e=be)(G:'f'=bi)(r:'m'=bi)(b:(apos.endLine==cpos.line)=be):KS X (.Expr (.Call (.Attribute (.Name x np) "append" apos) [e] [] cpos) pos) (eM i fo):=⟨cz (oU (lD oK y_ za tI (hH C E G r) (ek h.h gj (bP hn)) W (by rw[kP (show [e].all cZ=be by rw[gg,hn];rfl)];rfl) b (bP hn) (plain_any W)) W)<|by
  rintro Dn σ H ⟨I,O,o,R,j,q⟩;refine bS j λds J j=>?_;refine bS j λd L j=>?_;split at j;case isFalse=>injection j
  rename_i hz
  (obtain rfl:=ao j);have m:=pg J;refine cE (R.own i ds m) λa vs w M Q e4=>?_;refine⟨.ref a,w,.inl ⟨W,vs,b9.of Q⟩,I,O,d,R,L,λv H1 S T=>?_⟩;have z:=R.mono S;refine cE (z.own i ds m) λa' y A f2 U B=>?_;rw[w]at A;cases A;refine⟨a,y,v,W,W,U,by rw[B.length];exact hz,?_⟩;obtain⟨R2,Y⟩:=z.chg m w M (B.snoc T);exact q _ _ O (by rw[Y];exact S.same) R2⟩
def ui(i:Nat)(f:ar->Option (List D)):ar->Option aK:=λa=>(h7 i a).bind λds=>(f a).bind λes=>if ds.length+es.length<=aD then Z (.aF (a.set i (Z (.own (ds++es)))))else am
theorem U0{apos cpos:Pos}(i:Nat)(h:KF X e lo)(T:X.N[i]?=Z x)(U:dv X.env.scope x)(hn:cZ e=be)(Y:'f'=bi)(v:'m'=bi)(d:(apos.endLine==cpos.line)=be):KS X (.Expr (.Call (.Attribute (.Name x np) "extend" apos) [e] [] cpos) pos) (ui i lo):=⟨cz (oU (lD oK ZuG ZuH Q0 (hH T U Y v) (ek h.h gj (bP hn)) W (by rw[kP (show [e].all cZ=be by rw[gg,hn];rfl)];rfl) d (bP hn) (plain_any W)) W)<|by
  rintro Dn σ H ⟨ρ,O,o,R,j,q⟩;refine bS j λds h1 j=>?_;refine bS j λes h2 j=>?_;split at j;case isFalse=>injection j
  rename_i hz
  (obtain rfl:=ao j);have m:=pg h1;refine cE (R.own i ds m) λa vs y e2 e3 e4=>?_;refine⟨.ref a,y,.inl ⟨W,vs,b9.of e3⟩,ρ,O,es,R,h2,λG I b S A J=>?_⟩;have r:=R.mono S;refine cE (r.own i ds m) λa' B L f2 M Q=>?_;rw[y]at L;cases L;have C:a≠b:=jz M A;have hbO:b∉O:=λz=>by obtain⟨ws,w,_⟩:=r.ls b z;rw[A]at w;injection w
  have E:SO I (upd I b (.lst G)) O:=SO.of r.ls (cU A _);have R2:=r.mono E;refine⟨a,b,B,G,W,W,by rw[bf C];exact M,bA,by rw[Q.length,J.length];exact hz,?_⟩;obtain⟨R3,hh⟩:=R2.chg m y e2 ((Q.append J).mono E.same);exact q _ _ O (by rw[hh];exact S.same.trans E.same) R3⟩
def uj(i:Nat)(fi fv:ar->Option D):ar->Option aK:=λa=>(fv a).bind λd=>(fi a).bind λk=>(h7 i a).bind λds=>match k with|.int j=>(iK ds.length j).bind λm=>Z (.aF (a.set i (Z (.own (ds.set m d)))))|_=>am
theorem aG.set{K:av}{H:Hp}{v:V}(q:Rep K H v d):∀{vs:List V}{ds:List D}(m:Nat),aG K H vs ds->aG K H (vs.set m v) (ds.set m d)|_,_,_,.nil=>.nil|_,_,0,.cons _ t=>.cons q t|_,_,m+1,.cons r t=>.cons r (aG.set q m t)
end
section
variable {X:Cx}{e tg:Expr}{st:Stmt}{pos p:Pos}{f:ag->Option D}{fo fi fv:ar->Option D}{g u:ar->Option aK}{x:Str}
theorem U1(i:Nat)(Y:eL X e fv)(B:eL X t fi)(hi:X.N[i]?=Z x)(z:dv X.env.scope x)(hd:'f'=bi)(C:'m'=bi)(ha:∀v,l7 (.Subscript (.Name x np) t b) X.env v=(do
   let A<-holding [v] (eval (.Name x np) X.env);let E<-holding [v,A] (eval t X.env)
   standAt b
   holding [v,A,E] (setItem A E v)
   release [v,A,E] []):=by intro _;rfl) (hs:Nt [.Subscript (.Name x np) t b] e pos.line X.env=pure bi) (hw:Nu [.Subscript (.Name x np) t b] e X.env=pure am) (h1:(i6 [.Subscript (.Name x np) t b] X.env).map (·.2)=[l7 (.Subscript (.Name x np) t b) X.env]):KS X (.Assign [.Subscript (.Name x np) t b] e pos) (uj i fi fv):=⟨cz (EO Y.h (Pp (hH hi z hd C) B.h QN ha) hs hw h1)<|by
  rintro Dn σ H ⟨M,O,o,R,r,q⟩;refine bS r λd q1 r=>?_;refine bS r λk q2 r=>?_;refine bS r λds q3 r=>?_;cases k with|int j=>
   refine bS r λm q4 r=>?_
   (obtain rfl:=ao r);have y:=pg q3;refine⟨M,O,d,R,q1,λv H1 Q r1=>?_⟩;have G:=R.mono Q;refine cE (G.own i ds y) λa vs I e2 e3 e4=>?_;refine⟨.ref a,I,M,O,.int j,G,q2,λw H2 J r2=>?_⟩;cases r2;have R2:=G.mono J;refine cE (R2.own i ds y) λa' L T f2 f3 U=>?_;rw[I]at T;cases T;refine⟨a,L,j,m,W,W,f3,by rw[U.length];exact q4,?_⟩;obtain⟨R3,hh⟩:=R2.chg y I e2 (aG.set (r1.mono J.same) m U);exact q _ _ O (by rw[hh];exact Q.same.trans J.same) R3|_=>injection r⟩
inductive KJ(K:av)(H:Hp):It->List D->Prop|lst {a:Addr} {vs:List V} {ds:List D} (h:b9 K H a vs) (r:aG K H vs ds):KJ K H (zD K a) ds|tup {a:Addr} {vs:List V} {ds:List D} (h:cF K H a vs) (r:aG K H vs ds):KJ K H (zE K a) ds|nt (lo:Int) (n:Nat):KJ K H (qY lo n) (cq lo n)|AW {a:Addr} {vs:List V} {ds:List D} (h:b9 K H a vs) (r:aG K H vs ds):KJ K H (w4 K a) (iO 0 ds)|Hr {a:Addr} {vs:List V} {ds:List D} (h:cF K H a vs) (r:aG K H vs ds):KJ K H (w5 K a) (iO 0 ds)
noncomputable def rA(K:av)(f:ag->Option (List D)):TI:=λσ H R=>∃a ds,bL K H σ a/\f a=Z ds/\∀J H',aw H H'->KJ K H' J ds->R J H'
structure JK(X:Cx)(tg e:Expr)(f:ag->Option (List D)):Prop where
 h:PI X tg e (rA X.K f)
 s:j_ e=be
theorem Hs(h:DE X e f):PI X tg e (rA X.K (bV f)):=by intro zK s σ H R I ⟨i,ds,Rn,b,q⟩;refine bS b λd j b=>?_;cases d with
 |lst xs=>
  (obtain rfl:=ao b);refine ER h zK s σ H R I ⟨i,_,Rn,j,λv H' s r=>?_⟩;cases r with|@lst a vs _ h' m=>exact⟨a,W,⟨vs,.inl h'⟩,q _ H' s (.lst (.inl h') m)⟩
 |tup xs=>
  (obtain rfl:=ao b);refine PF h zK s σ H R I ⟨i,_,Rn,j,λv H' s r=>?_⟩;cases r with|@tup a vs _ h' m=>exact⟨a,W,⟨vs,h'⟩,q _ H' s (.tup h' m)⟩
 |bJ ns=> (obtain rfl:=ao b);refine ER h zK s σ H R I ⟨i,_,Rn,j,λv H' s r=>?_⟩;cases r with|@bJ a _ h'=>exact⟨a,W,⟨_,h'⟩,q _ H' s (.lst h' (tQ ns))⟩
 |_=>injection b
theorem Ht(w:Gl X "range")(y:X.mg "range"=am)(z:DE X a A)(m:a4 [a] X.env=[(bi,eval a X.env)]):PI X tg (.Call (.Name "range" p) [a] [] pos) (rA X.K (dJ (ai [A]))):=AL (PQ w y (tS z wD m) m)<|by
  rintro σ H R ⟨B,ds,Rn,h,q⟩;refine bS h λas i h=>?_;refine⟨B,as,Rn,i,λvs H' s r=>?_⟩;refine bS i λd C i=>?_
  (obtain rfl:=ao i);cases r with|cons r t=>
   cases t;cases r with|int j=>
    have b:(if-(2^62)<=j/\j<2^62 then Z (cq 0 j.toNat)else am)=Z ds:=h;split at b;case isFalse=>injection b
    rename_i v
    (obtain rfl:=ao b);exact⟨j,W,v.1,v.2,q _ H' s (.nt 0 _)⟩|_=>injection h
theorem U2(B:Gl X "range")(C:X.mg "range"=am)(E:DE X a G)(I:DE X b J)(z:a4 [a,b] X.env=[(bi,eval a X.env),(bi,eval b X.env)])(h:a4 [b] X.env=[(bi,eval b X.env)]):PI X tg (.Call (.Name "range" p) [a,b] [] pos) (rA X.K (dJ (ai [G,J]))):=AL (PR B C (tS E (tS I wD h) (by rw[z,h])) z h)<|by
  rintro σ H R ⟨L,ds,Rn,v,q⟩;refine bS v λas w v=>?_;refine⟨L,as,Rn,w,λvs H' s r=>?_⟩;refine bS w λd O w=>?_;refine bS w λM y w=>?_
  (obtain rfl:=ao w);refine bS y λd' Q y=>?_
  (obtain rfl:=ao y);cases r with|cons r t=>cases t with|cons A t=>cases t;cases r with
    |int i=>cases A with
     |int j=>
      have m:(if-(2^62)<=i/\i<2^62/\ -(2^62)<=j/\j<2^62 then Z (cq i (j-i).toNat)else am)=Z ds:=v;split at m;case isFalse=>injection m
      rename_i N
      (obtain rfl:=ao m);exact⟨i,j,W,N,q _ H' s (.nt i _)⟩
     |_=>injection v
    |_=>first|injection v|(cases A<;>injection v)
theorem Hu(C:Gl X "enumerate")(E:X.mg "enumerate"=am)(G:DE X a J)(z:a4 [a] X.env=[(bi,eval a X.env)]):PI X (.Tuple A x1 B) (.Call (.Name "enumerate" p) [a] [] pos) (rA X.K (jG J)):=by intro zK s σ H R I ⟨L,ds,Rn,j,q⟩;refine bS j λd M j=>?_;rw[bu]at j;obtain⟨ys,m,rfl⟩:=j;refine Call_ (lz I C E DL.boot_enumerate (sL (aT (tS G wD z pos zK s σ H (λvs b=>aw H b/\aG X.K b vs [d]) I ⟨L,[d],Rn,by simp[wC,wB,M],λvs H' s r=>⟨s,r⟩⟩) λQ T N=>?_) z W));obtain⟨vs,b,v,O,w,i⟩:=N;cases i with|cons r t=>cases t;obtain⟨u,rfl,y⟩:=kG O;cases r with|@lst a vs ds h i=> (obtain rfl:=ao m);cases y;exact G7 v (.inl h) (q _ b w (.AW (.inl h) i))|@tup a vs ds h i=> (obtain rfl:=ao m);cases y;exact TC v h (q _ b w (.Hr h i))|@bJ a ns h=> (obtain rfl:=ao m);cases y;exact G7 v h (q _ b w (.AW h (tQ ns)))|_=>injection m
def nT(K:av)(J:It)(H:Hp)(O:List Addr)(ds:List D):Prop:=∀H' b,aw (az H O) (az H' b)->jf H' b-> (∀(i:Nat)(d:D),ds[i]?=Z d->J.go i H'/\∀x a,J.qW i H' x a->SO H' a b/\Rep K (az a b) x d)/\J.stop ds.length H'
noncomputable def U3(P:Hp->List V->Prop):It:=⟨λi H=>∃xs x,P H xs/\xs[i]?=Z x,λi H x H'=>H'=H/\∀xs,P H xs->xs[i]?=Z x,λi H=>∃xs,P H xs/\xs.length<=i⟩
def U4(P:Hp->List V->Prop):It:=⟨λi H=>∃xs x,P H xs/\xs[i]?=Z x,λi H x H'=>∃p y,H p=am/\H'=upd H p (.tup [.int i,y])/\x=.ref p/\∀xs,P H xs->xs[i]?=Z y,λi H=>∃xs,P H xs/\xs.length<=i⟩
theorem Hv{K:av}{P:Hp->List V->Prop}{H:Hp}{O:List Addr}{vs:List V}{ds:List D}(m:∀{H'},aw (az H O) H'->P H' vs)(r:aG K (az H O) vs ds):nT K (U3 P) H O ds:=by
 intro H' h S A;have a:=m (S.trans (hZ H' h));refine⟨λi d j=>?_,⟨vs,a,by rw[r.length];exact ba _⟩⟩;obtain⟨v,b,q⟩:=r.get j;refine⟨⟨vs,v,a,b⟩,λx t w=>?_⟩;obtain⟨y,z⟩:=w;subst y;have:=z vs a;rw[b]at this
 (obtain rfl:=ao this);exact⟨SO.refl _ _,q.mono S⟩
theorem Hw{K:av}{P:Hp->List V->Prop}{H:Hp}{O:List Addr}{vs:List V}{ds:List D}(m:∀{H'},aw (az H O) H'->P H' vs)(r:aG K (az H O) vs ds):nT K (U4 P) H O (iO 0 ds):=by
 intro H' a S j;have b:=m (S.trans (hZ H' a));refine⟨λi d C=>?_,⟨vs,b,by rw[pd,r.length];exact ba _⟩⟩;obtain⟨y,E,rfl⟩:=AN ds 0 i d C;obtain⟨v,t,G⟩:=r.get E;refine⟨⟨vs,v,b,t⟩,λx I J=>?_⟩;obtain⟨p,z,A,L,M,N⟩:=J;have:=N vs b;rw[t]at this
 (obtain rfl:=ao this);subst L M;have B:SO H' (upd H' p (.tup [.int i,v])) a:=SO.of j (cU A _);have h:p∉a:=λw=>by obtain⟨Q,q,_⟩:=j p w;rw[A]at q;injection q
 refine⟨B,.tup (.of (by rw[cb h];exact bA)) (.cons ?_ (.cons ((G.mono S).mono B.same) .nil))⟩;rw[md];exact .int _
theorem Hy{K:av}{J:It}{H:Hp}{O:List Addr}{ds:List D}(h:KJ K (az H O) J ds):nT K J H O ds:=by cases h with|@lst a _ _ h r=>exact Hv (P:=λH=>b9 K H a) (λs=>s.seq h) r|@tup a _ _ h r=>exact Hv (P:=λH=>cF K H a) (λs=>wA s h) r|@AW a _ _ h r=>exact Hw (P:=λH=>b9 K H a) (λs=>s.seq h) r|@Hr a _ _ h r=>exact Hw (P:=λH=>cF K H a) (λs=>wA s h) r|nt lo n=>intro H' b S C;obtain⟨j,m⟩:=Th (K:=K) (H:=az H' b) lo n _ (aw.refl _);refine⟨λi d q=>?_,m⟩;obtain⟨t,v⟩:=j i d q;refine⟨t,λy w z=>?_⟩;obtain⟨A,B⟩:=z;subst A;exact⟨SO.refl _ _,(v y _ ⟨W,B⟩).2⟩
theorem U5{K:av}{J:It}{H:Hp}{ds:List D}(h:KJ K H J ds):Wk K J H ds:=λH' s=>by obtain⟨j,q⟩:=Hy (O:=[]) (gT H▸h) H' [] (by rw[gT,gT];exact s) (λa r=>(nomatch r));refine⟨λi d m=>⟨(j i d m).1,λx b y=>?_⟩,q⟩;have:=(j i d m).2 x b y;rw[gT]at this;exact⟨by have z:=this.1.same;rw[gT,gT]at z;exact z,this.2⟩
theorem AX{f:ag->Option (List D)}(h:PI X tg e (rA X.K f)):DI X tg e f:=AL h<|by rintro σ H R ⟨a,ds,Rn,b,q⟩;exact⟨a,ds,Rn,b,λJ H' s k=>q J H' s (U5 k)⟩
def U6(K:av)(g:D->ar->Option ar):TG:=λx σ H Q=>∃b O d ρ',RO K H σ b O/\Rep K (az H O) x d/\g d b=Z ρ'/\∀a,RO K H a ρ' O->Q a H
def U7(K:av)(g:List D->ar->Option ar):oV:=λxs σ H Q=>∃b O ds ρ',RO K H σ b O/\aG K (az H O) xs ds/\g ds b=Z ρ'/\∀a,RO K H a ρ' O->Q a H
structure KG(X:Cx)(e:Expr)(g:D->ar->Option ar):Prop where h:PG X e (U6 X.K g)
structure uk(X:Cx)(es:List Expr)(g:List D->ar->Option ar):Prop where h:qV X es (U7 X.K g)
noncomputable def goN(i:Nat):D->ar->Option ar:=λd a=>Z (a.set i (Z (.ak d)))
noncomputable def kb:List D->ar->Option ar|[],a=>Z a|_,_=>am
noncomputable def dR(g:D->ar->Option ar)(gs:List D->ar->Option ar):List D->ar->Option ar|d::ds,b=>(g d b).bind λa=>gs ds a|[],_=>am
noncomputable def kc(n:Nat)(gs:List D->ar->Option ar):D->ar->Option ar|.tup ds,a=>if ds.length=n then gs ds a else am|_,_=>am
theorem U8(i:Nat)(a:X.N.Nodup)(b:X.N[i]?=Z x)(h:Loc X.env.scope x)(hf:X.fn x=be\/X.env.scope.names.lookup x=Z .local):KG X (.Name x pos) (goN i):=⟨by rintro zK s σ H v u Q I r ⟨m,O,d,ρ',R,j,e,q⟩;exact EK a b h hf zK s σ H v u Q I r (by(obtain rfl:=ao e);exact q _ (R.set i j))⟩
theorem U9:uk X [] kb:=⟨by intro zK s σ H xs b Q I r ⟨h,O,ds,ρ',R,d,a,q⟩;refine EL zK s σ H xs b Q I r ?_;cases d with|nil=>(obtain rfl:=ao a);exact⟨W,q σ R⟩|cons _ _=>injection a⟩
theorem U_{g:D->ar->Option ar}{gs:List D->ar->Option ar}(d:KG X e g)(i:uk X es gs)(j:(i6 (e::es) X.env).map (·.2)=l7 e X.env::(i6 es X.env).map (·.2)):uk X (e::es) (dR g gs):=⟨by intro zK s σ H xs m Q I r ⟨v,O,ds,ρ',R,w,b,q⟩;refine EM d.h i.h j zK s σ H xs m Q I r ?_;cases w with|nil=>injection b|cons y t=>refine bS b λa z b=>?_;exact⟨_,_,W,v,O,_,a,R,y,z,λA B=>⟨a,O,_,ρ',B,t,b,q⟩⟩⟩
theorem Va{k n:Nat}(h:uk X es gs)(w:X.calm=be)(hn:(i6 es X.env).length=n)(i:(i6 es X.env).findIdx? (·.1)=am):KG X (.Tuple es k pos) (kc n gs):=⟨by intro zK s σ H v u Q I r ⟨j,O,d,ρ',R,y,m,q⟩;refine EN w h.h hn i zK s σ H v u Q I r ?_;cases y with
 |@tup a xs ds h' t=>
  have b:(if ds.length=n then gs ds j else am)=Z ρ':=m;split at b;case isFalse=>injection b
  rename_i z;exact⟨a,xs,W,wA (hZ H O) h',by rw[t.length];exact z,j,O,ds,ρ',R,t,b,q⟩|_=>injection m⟩
noncomputable def dq(b:D->ar->Option ar)(gb:ar->Option aK):List D->ar->Option aK|[],h=>Z (.aF h)|d::ds,h=>(b d h).bind λi=>(gb i).bind λo=>match o with|.aF a=>dq b gb ds a|.cnt a=>dq b gb ds a|.brk a=>Z (.aF a)|.ret d=>Z (.ret d)
def gv(fi:ag->Option (List D))(b:D->ar->Option ar)(gb:ar->Option aK):ar->Option aK:=λa=>(fi (pv a)).bind λds=>dq b gb ds a
structure KW(X:Cx)(tg e:Expr)(f:ag->Option (List D)):Prop where
 h:PI X tg e (λσ H R=>∃ρ O ds,RO X.K H σ ρ O/\f (pv ρ)=Z ds/\∀J H',SO H H' O->nT X.K J H' O ds->R J H')
 s:j_ e=be
theorem Vb{f:ag->Option (List D)}{y:av->Hp->It->List D->Prop}(G:PI X tg i (λσ H R=>∃t ds,bL X.K H σ t/\f t=Z ds/\∀J H',aw H H'->y X.K H' J ds->R J H'))(hw:∀H O J ds,y X.K (az H O) J ds->nT X.K J H O ds)(hn:j_ i=be):KW X tg i f:=⟨by
 intro zK s σ H R I ⟨t,O,ds,w,L,q⟩;refine aT (G _ s σ (az H O) (λJ d=>aw (az H O) d/\y X.K d J ds) (Inv.hide I w.ls) ⟨pv t,ds,w.pv,L,λJ d B k1=>⟨B,k1⟩⟩) λv B M=>?_;refine aT M λN s2 C=>?_;refine b_ C λi Q U j=>fS j λJ d Y I1 T st m=>bG m λf1 r k1=>?_;clear C j m;obtain⟨J',hn⟩:=Inv.w8 I w.ls I1 r;have e:=AS (H:=H) hn;have S:SO H (lay H O d) O:=⟨by rw[e];exact r,λa ha=>gS ha⟩;refine⟨i,Q,U,J,lay H O d,Y,J',T,st,λb hb=>?_,q J _ S (hw _ _ _ _ (by rw[e];exact k1))⟩;refine iH (f1 b hb) λj0 j1 j2 j3 j4 E=>?_;have A:b∉O:=λz=>by obtain⟨vs,hl,hu⟩:=w.ls b z;obtain⟨_,q,_⟩:=Inv.nQ I hl hu;exact E (b,_) (dV _ (dV _ (qZ z q))) W
 refine⟨by rw[eJ A];exact j0,j1,j2,j3,j4,λp hp=>E p ?_⟩;rcases bQ.mp hp with h|h;·exact d_ _ h
 ·exact dV _ (d_ _ h),hn⟩
def Vc(fi:ar->Option (List D))(b:D->ar->Option ar)(gb:ar->Option aK):ar->Option aK:=λa=>(fi a).bind λds=>dq b gb ds a
theorem Vd{fi:ar->Option (List D)}(hi:PI X tg iter (λσ H R=>∃C O ds,RO X.K H σ C O/\fi C=Z ds/\∀J H',SO H H' O->nT X.K J H' O ds->R J H'))(hs:j_ iter=be)(hg:KG X tg T)(hb:KB X body gb)(hp:PassesOwn 'b' X.A X.env X.xe)(hc:X.calm=be):KS X (.For tg iter body [] pos) (Vc fi T gb):=by
 refine⟨cz (EV hp hc hi hg.h hb.h (pe hs)) λDn σ H zZ=>?_⟩;obtain⟨C,O,o,R,U,q⟩:=zZ;refine bS U λds h1 U=>?_;refine⟨C,O,ds,R,h1,λJ H1 S1 wk=>?_⟩;refine⟨λi m t H'=>i<=ds.length/\m=ds.length-i/\∃ρ' j,RO X.K H' t ρ' j/\aw (az H1 O) (az H' j)/\dq T gb (ds.drop i) ρ'=Z o,⟨ds.length,dQ _,W,C,O,R.mono S1,aw.refl _,U⟩,?_⟩;rintro i m t H' ⟨Y,rfl,ρ',j,N,Q,a⟩;have q':nS X.K Dn H' j o:=q.mono (S1.same.trans Q);by_cases r:i<ds.length;·right;rw[Dz r]at a;refine bS a λE h2 a=>?_;refine bS a λo1 h3 a=>?_;obtain⟨As,hy⟩:=(wk H' j Q N.ls).1 i ds[i] (cy r);refine⟨As,λG H2=>∃b O2,RO X.K H2 G b O2/\aw (az H' j) (az H2 O2)/\dq T gb (ds.drop (i+1)) b=Z o,by rintro G H2 ⟨b,O2,R2,S2,e2⟩;exact⟨_,by omega,r,W,b,O2,R2,Q.trans S2,e2⟩,λx H2 hx=>?_⟩;obtain⟨I,rx⟩:=hy x H2 hx;refine⟨ρ',j,ds[i],E,N.mono I,rx,h2,λUr R3=>⟨E,j,o1,R3,h3,?_⟩⟩;cases o1 with|aF b=>exactλy L M z B=>⟨b,M,B,I.same.trans z,a⟩|cnt b=>exactλy L M z B=>⟨b,M,B,I.same.trans z,a⟩|brk b=>(obtain rfl:=ao a);exactλy L M z B=>q' y L M (I.same.trans z) B|ret d=>(obtain rfl:=ao a);exactλv L z B=>q' v L (I.same.trans z) B
 ·left;have Ay:i=ds.length:=NT Y (DA.mp r);subst Ay;rw[NU]at a
  (obtain rfl:=ao a);exact⟨(wk H' j Q N.ls).2,q' t H' j (aw.refl _) N⟩
theorem Ve{body:List Stmt}{fi:ag->Option (List D)}{b:D->ar->Option ar}{gb:ar->Option aK}(a:JK X tg iter fi)(d:KG X tg b)(i:KB X body gb)(j:PassesOwn 'b' X.A X.env X.xe)(m:X.calm=be):KS X (.For tg iter body [] pos) (gv fi b gb):=Vd (Vb a.h (λ_ _ _ _ h=>Hy h) a.s).h a.s d i j m
noncomputable def um(f:ar->Option D)(g:D->ar->Option ar):ar->Option aK:=λa=>(f a).bind λd=>(g d a).bind λρ'=>Z (.aF ρ')
theorem Vf(h:eL X e fo)(m:KG X tg r)(t:Nt [tg] e pos.line X.env=pure bi)(hw:Nu [tg] e X.env=pure am)(w:(i6 [tg] X.env).map (·.2)=[l7 tg X.env]):KS X (.Assign [tg] e pos) (um fo r):=⟨cz (EO h.h m.h t hw w)<|by
  rintro E σ H ⟨i,O,o,R,a,q⟩;refine bS a λd y a=>?_;refine bS a λρ' z a=>?_
  (obtain rfl:=ao a);exact⟨i,O,d,R,y,λv A j B=>⟨i,O,d,ρ',R.mono j,B,z,λb C=>q b A O j.same C⟩⟩⟩
end
noncomputable def jH(n:Nat)(ds:List D):ar:=ds.map (λd=>Z (.ak d))++yZ (n-ds.length) am
def fY(np ns:Nat)(g:ar->Option aK)(ds:List D):Option D:=if ds.length=np then(g (jH ns ds)).bind λo=>match o with|.ret d=>Z d|.aF _=>Z .aC|_=>am else am
theorem Hz{K:av}{H:Hp}{N:List Str}{vs:List V}{ds:List D}(r:aG K H vs ds):RO K H (start N vs) (jH N.length ds) []:=by
 have f:=r.length;have g:∀(i:Nat)(x:SD),(jH N.length ds)[i]?=Z (Z x)->∃d,ds[i]?=Z d/\x=.ak d:=λi x h=>by
  unfold jH at h;by_cases b:i<ds.length;·rw[iF (by simpa using b),bW]at h;cases q:ds[i]? with|none=>rw[q]at h;injection h|some d=>rw[q]at h;cases h;exact⟨d,W,W⟩
  ·rw[m8 (by simp;lia),NQ]at h;split at h<;>cases h
 refine⟨by simp[L2.start,jH,f],λa m=>(by cases m),λi d h=>?_,λi κ es h=>?_,λi j κ κ' es fs a h _ _ _=>?_,λi κ es h=>?_⟩;·obtain⟨d',c,e⟩:=g i _ h;cases e;obtain⟨v,p,t⟩:=r.get c;refine⟨v,?_,by rw[gT];exact t⟩;have b:i<ds.length:=(bF.mp c).1;unfold L2.start;rw[iF (by simp[f];exact b),bW,p];rfl
 all_goals
  obtain⟨d',c,e⟩:=g i _ h;injection e
theorem Vg{P:a6}{w:World}{K:av}{t:Str->Option Value}{base:Heap}{x b:Str}{st:Stmt}{f:Addr}{u:dF}{N ps:List Str}{k np ns:Nat}{g:ar->Option aK}(Fn:kH K x b st f u)(S:nG N ps (de st))(y:ps.length=np)(hn:N.length=ns) (i:∀(c:Value)(A:a_)(a:List Env)(s:aq)(H:Hp)(E:XK),bI k (A.deeper (g6 b (de st) s.heap.objs.size f c))->KB (dA eu P w K t base N b (de st) f c A a s H E).lB (iL st) g):dm P w K t base eu (k+1) f u ps (lJ K (fY np ns g)):=by
 subst y hn;have hlen:∀{ds:List D}{d:D},fY ps.length N.length g ds=Z d->ds.length=ps.length/\∃o,g (jH N.length ds)=Z o/\(match o with|.ret d=>Z d|.aF _=>Z .aC|_=>am)=Z d:=λ{ds d} h=>by
  unfold fY at h;split at h;case isFalse=>injection h
  rename_i z;refine bS h λo p j=>?_;exact⟨z,o,p,j⟩
 refine Fn.ok S (by rintro vs H Q E ⟨ds,d,r,e,_⟩;rw[r.length];exact(hlen e).1) (λc A a s H vs Q E B h=>?_);refine cM h λds d r e q=>?_;clear h;refine bc (hlen e) λ_ m=>a9 m λo p j=>?_;clear m;refine⟨_,(i c A a s H E B).h,jH N.length ds,[],o,Hz r,p,?_⟩;cases o with|ret d'=>(obtain rfl:=ao j);exactλv H' s C=>q v H' (by rw[gT]at s;exact s) C|aF J=>(obtain rfl:=ao j);exactλG H' I s _=>q .aC H' (by rw[gT]at s;exact s.trans (hZ H' I)) .aC|_=>injection j
noncomputable def txt:Value->Str|.str x _=>x|_=>default
noncomputable def gI(ks:List Str)(x:Str):List Str:=if x∈ks then ks else ks++[x]
def HB(w:World)(o:Obj)(ks:List Str):Prop:=∃es ep t,o.ExactSet/\o.data=.set es ep t/\(∀e∈es.toList,∃x tk,e=(k_ w x,ko x tk))/\(es.toList.map λe=>txt e.2).Perm ks/\ks.length<jT/\t.fits es.size=be∧ t.led=!w.params.followText "set-order"/\(es.size≠0->t.plain=bi)
def gQ(w:World)(h:Heap)(a:Addr)(ks:List Str):Prop:=∃o,h.get? a=Z o/\HB w o ks
theorem Vh(t:me)(n:Nat):(t.orStandIn n).led=t.led:=by unfold SetTable.orStandIn;split<;>rfl
theorem Vi(t:me)(es:Array (Int×Value))(h:Int)(x:Value):(layNew t es h x).2.1.led=t.led:=by
 unfold layNew;split;·exact Vh _ _
 ·rfl
theorem Vj(t:me)(es:Array (Int×Value))(a:Nat):(qw t es a).2.1.led=t.led:=by
 unfold qw;split
 ·rename_i t' b h;have:t'.led=t.led:=by unfold ZuI ZuJ at h;simp only[ZuK,DP,ZuL,NR]at h;obtain⟨_,_,h⟩:=h;cases h;rfl
  dsimp only;split;·exact this
  ·rfl
 ·rfl
theorem Vk(t:me)(es:Array (Int×Value))(a:Nat)(c:t.plain=bi):(qw t es a).2.1.plain=bi:=by
 unfold qw;split
 ·rename_i t' b h;have:t'.plain=t.plain:=by unfold ZuI ZuJ at h;simp only[ZuK,DP,ZuL,NR]at h;obtain⟨_,_,h⟩:=h;cases h;rfl
  dsimp only;split;·rw[this];exact c
  ·rfl
 ·rfl
section
variable {prog:a6}{w:World}{A:a_}{E:Value->aq->Prop}{s:aq}
theorem Vl(h:∀e∈es,∃x tk,e=(k_ w x,ko x tk)):ElemsOf (lq prog w) es:=λe a=>by obtain⟨x,tk,rfl⟩:=h e a;exact⟨⟨x,by simp[lq,sE],W⟩,W⟩
theorem xa{es:Array (Int×Value)}{ks:List Str}(h:(es.toList.map λe=>txt e.2).Perm ks):es.size=ks.length:=by have:=h.length_eq;simpa using this
theorem HC{g:Bool->Sem Unit}(T:∀(b:Bool)(i:aq)(O:Unit->aq->Prop),O () i->wpAny 'h' A (g b) O E i) {o:Obj} (Q:s.heap.get? a=Z o) (hex:o.ExactSet) (I:o.data=.set es ep t) {c:Array (Int×Value)} {t2:me} {ks:List Str} (j:∀e∈c.toList,∃x tk,e=(k_ w x,ko x tk)) (r:(c.toList.map λe=>txt e.2).Perm ks) (u:ks.length<jT) (J:t2.fits c.size=be) (m:t2.led=!w.params.followText "set-order") (G:t2.plain=bi) {R:Option Bool->aq->Prop} (h:∀h',m2 a s.heap h'->gQ w h' a ks->R (Z be) {s with heap:=h'}):wpAny 'h' A (do
    storeSet a c t2;if(!f&&t2.tooFull)=be then do
      g (qw t2 c (qz c.size)).2.2
      storeSet a (qw t2 c (qz c.size)).1 (qw t2 c (qz c.size)).2.1
      pure (Z be) else pure (Z be)) R E s:=by
 have p:c.size<jT:=by rw[xa r];exact u
 have v:(s.heap.update a (vJ c t2)).get? a=Z {o with data:=.set c (ep+1) t2}:=by have:=m6 (vJ c t2) Q (by rw[DQ c t2 I];rfl);rw[DQ c t2 I]at this;exact this
 refine gV (ZuM Q I ?_ (DR p));have q:=nc s.heap a (vJ c t2);split
 ·have H:=relayAll_perm t2 c (qz c.size);have y:=relayAll_fits t2 c (qz c.size);have z:=Vj t2 c (qz c.size);have B:=Vk t2 c (qz c.size) G;generalize U:qw t2 c (qz c.size)=Y at H y z B⊢;obtain⟨d,C,L⟩:=Y;dsimp only at H y z B⊢;have hsz:d.size=c.size:=by rw[<-m5,H.length_eq,m5]
  have M:d.size<jT:=by rw[hsz];exact p
  refine gV (T _ _ _ ?_);refine gV (ZuM v W ?_ (DR M));have N:((s.heap.update a (vJ c t2)).update a (vJ d C)).get? a=Z {o with data:=.set d (ep+1+1) C}:=by have:=m6 (vJ d C) v (by rw[DQ d C W];rfl);rw[DQ d C W]at this;exact this
  exact Zy1 (h _ (q.trans (nc _ a _)) ⟨_,N,d,_,C,hex,W,λe he=>j e (H.mem_iff.mp he),(H.map _).trans r,u,y,z.trans m,λ_=>B⟩)
 ·exact Zy1 (h _ q ⟨_,v,c,_,t2,hex,W,j,r,u,J,m,λ_=>G⟩)
theorem Vm{ks:List Str}(hS:gQ w s.heap a ks)(g:ks.length+1<jT)(h:∀b h',m2 a s.heap h'->gQ w h' a (gI ks x)->Q b {s with heap:=h'}):wpAny 'h' A (setAddHashed a (.str x tk) (k_ w x)) Q E s:=by
 refine a9 hS λo M N=>dj N λes ep t hex O T=>iH T λi m U hf p q8=>?_;clear hS N T;have Y:ElemsOf (lq prog w) es.toList:=Vl i;have Vn:(lq prog w).is x (.str x tk)=be:=by simp[lq,sE]
 have HD:(ko x tk).scannable=be:=rfl;have hb:es.size<jT:=by rw[xa m];exact U
 have kO:es.size+1<jT:=by rw[xa m];exact g
 unfold setAddHashed setAddHashedIn;refine wpAny_holding (gV (ng M O hf ?_));dsimp only;rw[byScan_of HD hb Y];simp only[↓reduceIte];unfold setAddByScan;refine gV ?_;refine gV (wpAny_rule ?_);refine gV (wpAny_setScan_of (knd:=lq prog w) Vn M O hf Y ?_);have v:∀y,y∈ks↔∃e∈es.toList,(lq prog w).is y e.2=be:=λy=>by
  rw[<-m.mem_iff,aL];constructor;·rintro⟨e,r,rfl⟩;obtain⟨x',rB,rfl⟩:=i e r;exact⟨_,r,by simp[lq,sE,txt]⟩
  ·rintro⟨e,r,q⟩;obtain⟨x',rB,rfl⟩:=i e r;refine⟨_,r,?_⟩;obtain⟨t',q'⟩:=ZtA (show sE y (.str x' rB)=be from q);cases q';rfl
 cases hr:List.findIdx? (λe=>(lq prog w).is x e.2) es.toList with|some j=>
  dsimp only;obtain⟨hj,Vo,_⟩:=List.findIdx?_eq_some_iff_getElem.mp hr;have hx:x∈ks:=(v x).mpr ⟨es.toList[j],NZ hj,Vo⟩;refine Zy1 (Zy1 ?_);have e:s={s with heap:=s.heap}:=by cases s;rfl
  rw[e];exact h _ _ (Zwy a s.heap) ⟨o,M,es,ep,t,hex,O,i,by unfold gI;rw[if_pos hx];exact m,by unfold gI;rw[if_pos hx];exact U,hf,p,q8⟩|none=>
  dsimp only;have hx:x∉ks:=λhk=>by obtain⟨e,r,hp⟩:=(v x).mp hk;have:=List.findIdx?_eq_none_iff.mp hr e r;rw[hp]at this;exact ZuN this
  have Vp:∀(b:Bool){f:aq}{Q':Unit->aq->Prop},Q' () f->wpAny 'h' A (match b with|true=>rule "set.scan.the-table-gave-way" |false=>pure ()) Q' E f:=λb f Q' z=>by cases b<;>first|exact Zy1 z|exact wpAny_rule z
  have c:=layNew_perm t es (k_ w x) (.str x tk);have d:=layNew_fits t es (k_ w x) (.str x tk);have u:=Vi t es (k_ w x) (.str x tk);show wpAny 'h' A _ _ E s;have hh:(lq prog w).hash x=k_ w x:=rfl;try rw[hh]
  generalize hL:layNew t es (k_ w x) (.str x tk)=L at c d u⊢;obtain⟨HF,t1,J,Zv2⟩:=L;dsimp only at c d u⊢;rw[ZuO]at c;have B:∀e∈HF.toList,∃x tk,e=(k_ w x,ko x tk):=λe r=>by
   rcases bQ.mp (c.mem_iff.mp r)with q|q
   ·exact i e q
   ·rw[aZ]at q;exact⟨x,tk,q⟩
  have C:(HF.toList.map λe=>txt e.2).Perm (gI ks x):=by unfold gI;rw[if_neg hx];refine(c.map _).trans ?_;rw[bX];exact m.append_right _
  have G:(gI ks x).length<jT:=by unfold gI;rw[if_neg hx,bB];exact g
  refine gV (Vp _ ?_);split
  ·refine gV ?_;rw[hashByValue_scannable 8 HD];refine Zy1 ?_;refine HC ?_ M hex O B C G ?_ ?_ ?_ ?_
   ·intro b f Q' z;cases b<;>first|exact Zy1 z|exact wpAny_rule z
   ·exact SetTable.fits_plain_off d
   ·exact u.trans p
   ·rfl
   ·intro h' H I;dsimp only;exact Zy1 (h _ h' H I)
  ·rename_i AY;refine gV (Zy1 ?_);simp only[↓reduceIte];refine HC ?_ M hex O B C G d ?_ ?_ ?_
   ·intro b f Q' z;cases b<;>first|exact Zy1 z|exact wpAny_rule z
   ·exact u.trans p
   ·exact jR.mpr AY
   ·intro h' H I;dsimp only;exact Zy1 (h _ h' H I)
end
def c9(xs:List Str):List Str:=xs.foldl gI []
theorem Vq(ks:List Str)(x:Str):(gI ks x).length<=ks.length+1:=by
 unfold gI;split;·exact i7 _
 ·rw[bB];exact ba _
theorem HG:∀(xs ks:List Str),(xs.foldl gI ks).length<=ks.length+xs.length|[],ks=>ba _|x::xs,ks=>by have:=HG xs (gI ks x);have:=Vq ks x;rw[DU,bh];lia
theorem rC(xs:List Str):(c9 xs).length<=xs.length:=by have:=HG xs [];simpa [c9]using this
noncomputable def rD(w:World):Obj:={cls:=.type "set",dict:=am,data:=.set #[] 0 (.fresh 0 0 (!w.params.followText "set-order"))}
theorem HH:HB w (rD w) []:=⟨#[],0,_,⟨W,W,W⟩,W,λe a=>by simp at a,.nil,by exact oI _,W,W,λh=>absurd W h⟩
section
variable {prog:a6}{w:World}{A:a_}{R:Result->aq->Prop}{I:Addr}{fp wr:List Addr}{G:Array C9->Array C9->Prop}{n:Nat}{P:Nat->Value->Prop}{St:Nat->aq->Prop}
theorem HI(ad:WalksS prog w A.in1 I fp wr G n P St)(S:Addr)(j:S∉fp) (xs:List Str) (hn:xs.length=n) (m:∀i v,P i v->∃t,v=.str (xs.getD i default) t) (g:n+1<jT):∀(k i:Nat)(s:aq),n-i=k->i<=n->St i s->gQ w s.heap S (c9 (xs.take i))-> (∀a,Moved (S::wr) G s a->gQ w a.heap S (c9 xs)->R (.ok (.ret .none)) a)-> oD 'h' A (.builtin "set.update.loop" ⟨[.ref S,.ref I],[]⟩) R s:=by
 have p:S∉wr:=λh=>j (ad.sub _ h);have c:∀b∈wr,b∈S::wr:=λb g=>cx _ g;intro k;induction k with|zero=>
  intro i s N O d E hR;have H:i=n:=by grind
  subst H;refine lr ZuP ?_;rw[oM N0 _];show wpAny _ A.in1 (lg (.ref I)>>=_) _ _ s;refine gV (ad.done s _ _ d λa q=>?_);show wpAny _ A.in1 (ret dC) _ _ a;refine Zy1 (hR a (q.mono c) ?_);obtain⟨o,J,rest⟩:=E;rw[<-hn,jS]at rest;exact⟨o,q.heap S _ p J,rest⟩|succ k Q=>
  intro i s N O d E hR;have r:i<n:=by lia
  refine lr ZuP ?_;rw[oM N0 _];show wpAny _ A.in1 (lg (.ref I)>>=_) _ _ s;refine gV (ad.item i s _ _ r d λv a T u q=>?_);obtain⟨t,rfl⟩:=m i v T;have L:gQ w a.heap S (c9 (xs.take i)):=by obtain⟨o,J,rest⟩:=E;exact⟨o,q.heap S _ p J,rest⟩
  show wpAny _ A.in1 (holding [ko (xs.getD i default) t] (setAdd S (.str (xs.getD i default) t))>>=_) _ _ a;refine gV (wpAny_holding ?_);unfold setAdd;refine wpAny_holding ?_;refine gV ((lq prog w).pyHash (k:=xs.getD i default) (by simp[lq,sE]) ?_);have f:(c9 (xs.take i)).length+1<jT:=by have:=rC (xs.take i);rw[kv]at this;lia
  refine Vm (s:={a with toks:=a.toks+1}) L f λb h' x y=>?_;have e:c9 (xs.take (i+1))=gI (c9 (xs.take i)) (xs.getD i default):=by
   have z:i<xs.length:=by lia
   unfold c9;rw[jv,DV,cy z];simp[ma,cy z]
  rw[<-e]at y;refine Zy1 ⟨sY N0 _,Q (i+1) _ (by grind) r (ad.frame _ a _ _ u (i7 _) λb g o e=>?_) y λM B C=>?_⟩;·rw[x.2 b (λh:b=S=>j (by rw[<-h];exact g))];exact e
  ·refine hR M (Moved.trans ad.gtrans ((q.mono c).then_heap (i7 _) λb o g e=>?_) B) C;rw[x.2 b (λh:b=S=>g (by rw[h];exact bE))];exact e
end
section
variable {prog:a6}{w:World}{A:a_}{E:Value->aq->Prop}{s:aq}
theorem HJ(a:Value)(h:Q₁ (.ref s.heap.objs.size) {s with heap:=s.heap.push (rD w)}):oD 'h' A (.call (.builtin "set.__new__") ⟨[.type "set",a],[]⟩) (N1 Q₁ E) s:=by
 refine N2 ?_;show wpAny _ A.in1 (do N3 "set.__new__" ⟨[.type "set",a],[]⟩;again (.builtin "set.__new__" ⟨[.type "set",a],[]⟩)) _ _ s;refine gV (DN (PySem.F.newCall_set_1 a) (Zy1 ⟨sY ZuQ _,lr F.entry_set_new ?_⟩));rw[oM ZuQ _];unfold Builtin.«set.__new__» Zwz;have b:=sub_set_self;obtain⟨c,g,d,tk,os⟩:=s;dsimp only
 wp_walk;refine N4 (Zy1 ?_);dsimp only;simp only[newObj];refine gV (wpAny_alloc (Zy1 ?_));exact Zy1 h
namespace F2
theorem sub_tuple_set:DY (.type "tuple") (.type "set")=pure bi:=by rw[zb];kernel_rfl
theorem sub_tuple_frozenset:DY (.type "tuple") (.type "frozenset")=pure bi:=by rw[zb];kernel_rfl
end F2
theorem Vr{a:Array Value}{xs:List Str}(hh:A.handled=am)(hl:s.heap.IsList l a)(hlen:xs.length=a.size)(hi:∀(i:Nat)(v:Value),a[i]?=Z v->∃t,v=.str (xs.getD i default) t)(O:a.size+1<jT)(h:∀(h':Heap)(tk:Nat),gQ w h' s.heap.objs.size (c9 xs)-> (∀b o,b<s.heap.objs.size->s.heap.get? b=Z o->h'.get? b=Z o)->Q (.ref s.heap.objs.size) {s with heap:=h',toks:=tk}):wpAny 'h' A (call (.type "set") [.ref l]) Q E s:=by
 obtain⟨c,tl,Vs⟩:=i8.mro;have U:=i8.made;have Vt:=i8.sub;refine yX (N2 ?_);show wpAny _ _ (callAny (.type "set") _) _ _ _;refine Zy1 ⟨N5 _ (by decide+kernel),lr ZuR ?_⟩;rw[ZuS (ZuT "set" [.ref l] []) W];have h1:=i8.notType;have h2:=i8.canCreate;have Vu:=ZuU (.ref l);repeat (any_goals (first|assumption|wp_step))
 refine oE (HJ (.ref l) (E:=E) (Q₁:=λy m=>y=.ref s.heap.objs.size/\m={s with heap:=s.heap.push (rD w)}) ⟨W,W⟩) λr m Y=>?_;cases r with|error e=>exact Y|ok fl=>cases fl with
  |ret y=>
   obtain⟨rfl,rfl⟩:=Y;obtain⟨d,z⟩:∃d:Bool,d=!w.params.followText "set-order":=⟨_,W⟩;have B:rD w=({cls:=.type "set",dict:=am,data:=.set #[] 0 (.fresh 0 0 d)}:Obj):=by rw[z];rfl
   rw[B];have hS:(s.heap.push ({cls:=.type "set",dict:=am,data:=.set #[] 0 (.fresh 0 0 d)}:Obj)).get? s.heap.objs.size=Z ({cls:=.type "set",dict:=am,data:=.set #[] 0 (.fresh 0 0 d)}:Obj):=cW _ W;have hT:zc {s with heap:=s.heap.push ({cls:=.type "set",dict:=am,data:=.set #[] 0 (.fresh 0 0 d)}:Obj)} (.ref s.heap.objs.size) "set":=⟨_,hS,W⟩;have Vv:=i8.init.lookup;have Vw:=i8.init.bind (.ref s.heap.objs.size);repeat (any_goals (first|assumption|wp_step))
   refine oE (DZ (R:=N1 (λr p=>r=.none/\∃h' tk,p={s with heap:=h',toks:=tk}/\gQ w h' s.heap.objs.size (c9 xs)∧
     (∀b o,b<s.heap.objs.size->s.heap.get? b=Z o->h'.get? b=Z o)) E) i8.init.plain ZuV (ZuW hT ?_)) λC p f=>?_
   ·refine aM hl λol G H g=>gH g λnl I=>?_;clear hl g;obtain⟨Vx,q,Zv3,j⟩:=ol;simp only at H I;subst H;subst I;have J:(s.heap.push ({cls:=.type "set",dict:=am,data:=.set #[] 0 (.fresh 0 0 d)}:Obj)).get? l=Z {cls:=.type "list",dict:=q,data:=.seq a nl,slots:=j}:=bR _ G;have Vy:=PySem.F.sub_list_set;have Vz:=PySem.F.sub_list_frozenset;have uo:(sG "list"==sG "dict")=bi:=by exact W
    have L:(s.heap.push ({cls:=.type "set",dict:=am,data:=.set #[] 0 (.fresh 0 0 d)}:Obj)).IsList l a:=⟨_,J,W,nl,W⟩
    unfold Builtin.«set.__init__» noKeywords ZuX;generalize AZ:oC=PI
    wp_walk;subst AZ;refine Nv L ?_;refine gV (zd ?_);have M:l<s.heap.objs.size:=bz G;have rE:A.in1.in1.in1.handled=am:=by exact hh
    have N:l≠(s.heap.push ({cls:=.type "set",dict:=am,data:=.set #[] 0 (.fresh 0 0 d)}:Obj)).objs.size:=by rw[l9];exact b5 (lp M)
    have A0:s.heap.objs.size∉[(s.heap.push ({cls:=.type "set",dict:=am,data:=.set #[] 0 (.fresh 0 0 d)}:Obj)).objs.size,l]:=by rw[l9];simp only[a7,aZ,kC,or_false,not_or];exact⟨b5 (sW _),oB M⟩
    refine HI ((ZuF rE _ l N a).toS) s.heap.objs.size
     A0 xs hlen hi O (a.size-0) 0 _ (W) (dQ _)
     ⟨⟨_,cW _ W,W,W⟩,(L.push _)⟩ ?A1 ?hR;case A1=>exact⟨_,bR _ hS,B▸HH⟩
    case hR=>
     intro s' T u;obtain⟨h',g',d',rB,A2⟩:=s';have eg:g'=s.gens:=T.gens;have ed:d'=s.drawn:=T.drawn;have eo:A2=s.os:=T.os;subst eg;subst ed;subst eo;show wpAny _ _ _ _ _ _;refine Zy1 ?_;show wpAny _ _ (ret dC) _ _ _;refine Zy1 ⟨W,h',rB,W,u,λb o O e=>?_⟩;have kO:b≠s.heap.objs.size:=b5 O;have ur:b≠(s.heap.push ({cls:=.type "set",dict:=am,data:=.set #[] 0 (.fresh 0 0 d)}:Obj)).objs.size:=by rw[l9];exact b5 (lp O)
     exact T.heap b o (by simp only[a7,aZ,kC,or_false,not_or];exact⟨kO,ur⟩) (bR _ (bR _ e))
   ·cases C with
    |error e=>exact f
    |ok x=>
     cases x with
     |ret r=>
      refine bc f λVA g=>cM g λh' tk VB u j7=>?_;clear f g;subst VA;subst VB;repeat (any_goals (first|assumption|wp_step))
      exact h _ _ u j7
     |_=>exact f.elim
  |_=>exact Y.elim
end
end DL
namespace DL
open PySem PySem.Spec PyProof.Rows L2
section
variable {prog:a6}{w:World}{A:a_}{E:Value->aq->Prop}{s:aq}
theorem ZrK{a:Array Value}{xs:List Str}(hh:A.handled=am)(hl:s.heap.IsTuple l a)(hlen:xs.length=a.size)(hi:∀(i:Nat)(v:Value),a[i]?=Z v->∃t,v=.str (xs.getD i default) t)(N:a.size+1<jT)(h:∀(h':Heap)(tk:Nat),gQ w h' s.heap.objs.size (c9 xs)-> (∀b o,b<s.heap.objs.size->s.heap.get? b=Z o->h'.get? b=Z o)->Q (.ref s.heap.objs.size) {s with heap:=h',toks:=tk}):wpAny 'h' A (call (.type "set") [.ref l]) Q E s:=by
 obtain⟨c,tl,Vs⟩:=i8.mro;have T:=i8.made;have Vt:=i8.sub;refine yX (N2 ?_);show wpAny _ _ (callAny (.type "set") _) _ _ _;refine Zy1 ⟨N5 _ (by decide+kernel),lr ZuR ?_⟩;rw[ZuS (ZuT "set" [.ref l] []) W];have h1:=i8.notType;have h2:=i8.canCreate;have Vu:=ZuU (.ref l);repeat (any_goals (first|assumption|wp_step))
 refine oE (HJ (.ref l) (E:=E) (Q₁:=λx j=>x=.ref s.heap.objs.size/\j={s with heap:=s.heap.push (rD w)}) ⟨W,W⟩) λr j U=>?_;cases r with|error e=>exact U|ok fl=>cases fl with
  |ret x=>
   obtain⟨rfl,rfl⟩:=U;obtain⟨d,y⟩:∃d:Bool,d=!w.params.followText "set-order":=⟨_,W⟩;have z:rD w=({cls:=.type "set",dict:=am,data:=.set #[] 0 (.fresh 0 0 d)}:Obj):=by rw[y];rfl
   rw[z];have hS:(s.heap.push ({cls:=.type "set",dict:=am,data:=.set #[] 0 (.fresh 0 0 d)}:Obj)).get? s.heap.objs.size=Z ({cls:=.type "set",dict:=am,data:=.set #[] 0 (.fresh 0 0 d)}:Obj):=cW _ W;have hT:zc {s with heap:=s.heap.push ({cls:=.type "set",dict:=am,data:=.set #[] 0 (.fresh 0 0 d)}:Obj)} (.ref s.heap.objs.size) "set":=⟨_,hS,W⟩;have Vv:=i8.init.lookup;have Vw:=i8.init.bind (.ref s.heap.objs.size);repeat (any_goals (first|assumption|wp_step))
   refine oE (DZ (R:=N1 (λr m=>r=.none/\∃h' tk,m={s with heap:=h',toks:=tk}/\gQ w h' s.heap.objs.size (c9 xs)∧
     (∀b o,b<s.heap.objs.size->s.heap.get? b=Z o->h'.get? b=Z o)) E) i8.init.plain ZuV (ZuW hT ?_)) λB m f=>?_
   ·obtain⟨ol,C,G,nl,H⟩:=hl;obtain⟨Vx,p,Y,g⟩:=ol;simp only at G H;subst G;subst H;have I:(s.heap.push ({cls:=.type "set",dict:=am,data:=.set #[] 0 (.fresh 0 0 d)}:Obj)).get? l=Z {cls:=.type "tuple",dict:=p,data:=.seq a nl,slots:=g}:=bR _ C;have Vy:=F2.sub_tuple_set;have Vz:=F2.sub_tuple_frozenset;have uo:(sG "tuple"==sG "dict")=bi:=by exact W
    have J:(s.heap.push ({cls:=.type "set",dict:=am,data:=.set #[] 0 (.fresh 0 0 d)}:Obj)).IsTuple l a:=⟨_,I,W,nl,W⟩
    unfold Builtin.«set.__init__» noKeywords ZuX;generalize AZ:oC=PI
    wp_walk;subst AZ;refine ZtJ J ?_;refine gV (zd ?_);have L:l<s.heap.objs.size:=bz C;have rE:A.in1.in1.in1.handled=am:=by exact hh
    have M:l≠(s.heap.push ({cls:=.type "set",dict:=am,data:=.set #[] 0 (.fresh 0 0 d)}:Obj)).objs.size:=by rw[l9];exact b5 (lp L)
    have A0:s.heap.objs.size∉[(s.heap.push ({cls:=.type "set",dict:=am,data:=.set #[] 0 (.fresh 0 0 d)}:Obj)).objs.size,l]:=by rw[l9];simp only[a7,aZ,kC,or_false,not_or];exact⟨b5 (sW _),oB L⟩
    refine HI ((Walks.tuple rE _ l M a).toS) s.heap.objs.size
     A0 xs hlen hi N (a.size-0) 0 _ 'k' (dQ _)
     ⟨⟨_,cW _ W,W,W⟩,(J.push _)⟩ ?A1 ?hR;case A1=>exact⟨_,bR _ hS,z▸HH⟩
    case hR=>
     intro s' O q;obtain⟨h',g',d',rB,A2⟩:=s';have eg:g'=s.gens:=O.gens;have ed:d'=s.drawn:=O.drawn;have eo:A2=s.os:=O.os;subst eg;subst ed;subst eo;show wpAny _ _ _ _ _ _;refine Zy1 ?_;show wpAny _ _ (ret dC) _ _ _;refine Zy1 ⟨W,h',rB,W,q,λb o N e=>?_⟩;have kO:b≠s.heap.objs.size:=b5 N;have ur:b≠(s.heap.push ({cls:=.type "set",dict:=am,data:=.set #[] 0 (.fresh 0 0 d)}:Obj)).objs.size:=by rw[l9];exact b5 (lp N)
     exact O.heap b o (by simp only[a7,aZ,kC,or_false,not_or];exact⟨kO,ur⟩) (bR _ (bR _ e))
   ·cases B with
    |error e=>exact f
    |ok u=>
     cases u with
     |ret r=>
      obtain⟨rfl,h',tk,rfl,q,j7⟩:=f;repeat (any_goals (first|assumption|wp_step))
      exact h _ _ q j7
     |_=>exact f.elim
  |_=>exact U.elim
end
namespace F2
theorem VC:vr (.type "set_iterator") "__next__"=pure (Z (.builtin "set_iterator.__next__")):=by rw[D1,D2];kernel_rfl
theorem VD:vr (.type "set_iterator") "__iter__"=pure (Z (.builtin "set_iterator.__iter__")):=by rw[D1,D2];kernel_rfl
theorem HK:DY (.type "set_iterator") (.type "set_iterator")=pure be:=by rw[zb];kernel_rfl
theorem kd:Slot "set_iterator" "__next__" "set_iterator.__next__":=Slot.of (owner:="set_iterator") (n:="__next__") VC (by decide+kernel) (by decide+kernel) (by decide+kernel) (.inl (by decide+kernel)) HK
theorem HL:Slot "set_iterator" "__iter__" "set_iterator.__iter__":=Slot.of (owner:="set_iterator") (n:="__iter__") VD (by decide+kernel) (by decide+kernel) (by decide+kernel) (.inl (by decide+kernel)) HK
theorem xb:entryFor table "set_iterator.__next__"=Z Builtin.«set_iterator.__next__»:=entryFor_of_tree (by kernel_rfl)
theorem VE:entryFor table "set_iterator.__iter__"=Z Builtin.«dict_keyiterator.__iter__»:=entryFor_alias (id':="dict_keyiterator.__iter__") (by kernel_rfl) (by first|rfl|decide+kernel|(unfold ZuY;simp+decide [ZuZ])) (by decide+kernel) (by kernel_rfl)
theorem VF:entryFor table "set.__iter__"=Z Builtin.«frozenset.__iter__»:=entryFor_alias (id':="frozenset.__iter__") (by kernel_rfl) (by first|rfl|decide+kernel|(unfold ZuY;simp+decide [ZuZ])) (by decide+kernel) (by kernel_rfl)
theorem xc(a:Value):argsOk "set_iterator.__next__" ⟨[a],[]⟩:=by unfold argsOk;kernel_rfl
theorem VG(a:Value):argsOk "set_iterator.__iter__" ⟨[a],[]⟩:=by unfold argsOk;kernel_rfl
end F2
noncomputable def jg(f:Value)(i:Nat)(S:Addr)(n ep:Nat):Obj:={cls:=.type "set_iterator",data:=.fields #[f,.int i 0,.ref S,.int n 0,.int ep 0]}
section
variable {prog:a6}{w:World}{A:a_}{E:Value->aq->Prop}{s:aq}
variable {I S T:Addr}{so:Obj}{es:Array (Int × Value)}{ep i:Nat}{t:me}
theorem HM{k:Nat}(a:s.heap.get? I=Z (jg (.int k 0) i S es.size ep))(d:s.heap.get? S=Z so)(e:so.data=.set es ep t)(hf:t.fits es.size=be)(f:∀(A:a_)(E:Value->aq->Prop)(Q:Option (Value×Nat)->aq->Prop),Q (Z (x,k')) s->wpAny 'h' A (qA S k i ep) Q E s)(g:∀h',h'.get? I=Z (jg (.int k' 0) (i+1) S es.size ep)->m2 I s.heap h'->Q (Z x) {s with heap:=h'}):wpAny 'h' A (lg (.ref I)) Q E s:=by have b:s.TypeIs (.ref I) "set_iterator":=⟨_,a,W⟩;unfold lg;refine gV (vK (qp (name:=oF "__next__") b F2.kd (jt F2.kd b F2.xb ?_ (F2.xc _))));show wpAny _ _ (D3 (.ref I)>>=_) _ _ s;refine gV (D4 a W ?_);show wpAny _ _ (qB S>>=_) _ _ s;refine gV ?_;unfold qB;refine gV (ng d e hf (Zy1 ?_));dsimp only;rw[if_neg 'k'];show wpAny _ _ (qA S (vL k) (vL i) (vL ep)>>=_) _ _ s;simp only[l_];refine gV (f _ _ _ ?_);dsimp only;refine gV (qv a W (by exact oI _) ?_);have c:(s.heap.update I (ze (·.setIfInBounds 0 (lh k')))).get? I=Z (jg (.int k' 0) i S es.size ep):=m6 _ a W;refine gV (qv c W 'k' ?_);have h:((s.heap.update I (ze (·.setIfInBounds 0 (lh k')))).update I (ze (·.setIfInBounds 1 (lh ((i:Int)+1))))).get? I=Z (jg (.int k' 0) (i+1) S es.size ep):=m6 _ c W;exact Zy1 ⟨x,W,Zy1 (g _ h ((nc ..).trans (nc ..)))⟩
theorem HN{k:Nat}(d:A.handled=am)(c:s.heap.get? I=Z (jg (.int k 0) i S es.size ep))(f:s.heap.get? S=Z so)(g:so.data=.set es ep t)(hf:t.fits es.size=be)(h:∀(A:a_)(E:Value->aq->Prop)(Q:Option (Value×Nat)->aq->Prop),Q am s->wpAny 'h' A (qA S k i ep) Q E s)(j:∀h',NX I s.heap h'->Q am {s with heap:=h'}):wpAny 'h' A (lg (.ref I)) Q E s:=by
 have e:s.TypeIs (.ref I) "set_iterator":=⟨_,c,W⟩;unfold lg;refine gV (vK (qp (name:=oF "__next__") e F2.kd (jt F2.kd e F2.xb ?_ (F2.xc _))));show wpAny _ _ (D3 (.ref I)>>=_) _ _ s;refine gV (D4 c W ?_);show wpAny _ _ (qB S>>=_) _ _ s;refine gV ?_;unfold qB;refine gV (ng f g hf (Zy1 ?_));dsimp only;rw[if_neg 'k'];show wpAny _ _ (qA S (vL k) (vL i) (vL ep)>>=_) _ _ s;simp only[l_];refine gV (h _ _ _ ?_);dsimp only;refine gV (qv c W 'k' ?_);show wpAny _ _ (vI (.type "StopIteration") []>>=_) _ _ _;refine gV ?_;simp only[vI,newTuple];refine gV (wpAny_newObj_type ?_ (by size_fits));refine gV (m:=firstArgMember _ _) (DN (a:=dC) (by first|rfl|(simp only[firstArgMember];rfl)) ?_);refine wpAny_newObj_type ?_ (by size_fits);simp only[raiseNew];refine gV (wpAny_handled ?_);first|rw[show A.in1.handled=am from d]|rw[d]
 refine gV (Zy1 (NY ?_));refine gV (y4 (T:="StopIteration") (b:=be) ⟨_,cW _ W,W⟩ isSubtype_stop ?_);exact Zy1 (j _ (((nc ..).extBut.push _).push _))
end
end DL
set_option backward.match.sparseCases true
namespace DL
open PySem PySem.Spec PyProof.Rows L2
section
variable {prog:a6}{w:World}{A:a_}{E:Value->aq->Prop}{s:aq}
variable {I S T:Addr}{so:Obj}{es:Array (Int × Value)}{ep i:Nat}{t:me}
theorem VH{p:Nat}(c:s.heap.get? I=Z (jg (.ref T) i S es.size ep))(f:s.heap.get? S=Z so)(g:so.data=.set es ep t)(hf:t.fits es.size=be)(h:s.heap.IsTuple T j)(m:j[i]?=Z (.int p 0))(q:es[p]?=Z (e0,x))(r:∀h',h'.get? I=Z (jg (.ref T) (i+1) S es.size ep)->m2 I s.heap h'->Q (Z x) {s with heap:=h'}):wpAny 'h' A (lg (.ref I)) Q E s:=by
 have a:s.TypeIs (.ref I) "set_iterator":=⟨_,c,W⟩;refine aM h λv d _ b=>gH b λy e=>?_;clear h b;unfold lg;refine gV (vK (qp (name:=oF "__next__") a F2.kd (jt F2.kd a F2.xb ?_ (F2.xc _))));show wpAny _ _ (D3 (.ref I)>>=_) _ _ s;refine gV (D4 c W ?_);show wpAny _ _ (qB S>>=_) _ _ s;refine gV ?_;unfold qB;refine gV (ng f g hf (Zy1 ?_));dsimp only;rw[if_neg 'k'];show wpAny _ _ (DM (.ref T)>>=_) _ _ s;refine gV (y6 d e ?_);simp only[l_,m];refine gV ?_;unfold setNextDrawn;refine gV (ng f g hf ?_);dsimp only;rw[if_neg 'k'];try refine gV (Zy1 ?_)
 rw[q];refine Zy1 ?_;refine gV (qv c W 'k' ?_);have u:(s.heap.update I (ze (·.setIfInBounds 1 (lh ((i:Int)+1))))).get? I=Z (jg (.ref T) (i+1) S es.size ep):=m6 _ c W;exact Zy1 ⟨x,W,Zy1 (r _ u (nc ..))⟩
theorem VI(h:A.handled=am)(e:s.heap.get? I=Z (jg (.ref T) i S es.size ep))(p:s.heap.get? S=Z so)(q:so.data=.set es ep t)(hf:t.fits es.size=be)(j:s.heap.IsTuple T r)(u:r[i]?=am)(v:∀h',NX I s.heap h'->Q am {s with heap:=h'}):wpAny 'h' A (lg (.ref I)) Q E s:=by
 have c:s.TypeIs (.ref I) "set_iterator":=⟨_,e,W⟩;refine aM j λy f _ d=>gH d λz g=>?_;clear j d;unfold lg;refine gV (vK (qp (name:=oF "__next__") c F2.kd (jt F2.kd c F2.xb ?_ (F2.xc _))));show wpAny _ _ (D3 (.ref I)>>=_) _ _ s;refine gV (D4 e W ?_);show wpAny _ _ (qB S>>=_) _ _ s;refine gV ?_;unfold qB;refine gV (ng p q hf (Zy1 ?_));dsimp only;rw[if_neg 'k'];show wpAny _ _ (DM (.ref T)>>=_) _ _ s;refine gV (y6 f g ?_);simp only[l_,u];refine gV (qv e W (by exact oI _) ?_);have x:(s.heap.update I (ze (·.setIfInBounds 0 (lh 0)))).get? I=Z (jg (.int (0:Nat) 0) i S es.size ep):=m6 _ e W;refine gV (qv x W 'k' ?_);show wpAny _ _ (vI (.type "StopIteration") []>>=_) _ _ _;refine gV ?_;simp only[vI,newTuple];refine gV (wpAny_newObj_type ?_ (by size_fits));refine gV (m:=firstArgMember _ _) (DN (a:=dC) (by first|rfl|(simp only[firstArgMember];rfl)) ?_);refine wpAny_newObj_type ?_ (by size_fits);simp only[raiseNew];refine gV (wpAny_handled ?_);first|rw[show A.in1.handled=am from h]|rw[h]
 refine gV (Zy1 (NY ?_));refine gV (y4 (T:="StopIteration") (b:=be) ⟨_,cW _ W,W⟩ isSubtype_stop ?_);exact Zy1 (v _ ((((nc ..).trans (nc ..)).extBut.push _).push _))
theorem xf(h:Q (w.params.followText "set-order") s):wpAny 'h' A setsByText Q E s:=by unfold setsByText;exact gV (N4 (Zy1 h))
theorem HP{k:Nat}(hw:w.params.followText "set-order"=be)(a:s.heap.get? S=Z so)(b:so.data=.set es ep t)(hf:t.fits es.size=be)(c:Q (((qC (w.params.setOrder S ep) es)[i]?).map λe=>(e.2,k)) s):wpAny 'h' A (qA S k i ep) Q E s:=by
 unfold qA;refine gV (ng a b hf ?_);dsimp only;refine gV (xf ?_);rw[hw,if_pos W,if_neg 'k'];try refine gV (Zy1 ?_)
 refine gV ?_;unfold setWalk;refine gV (ng a b hf ?_);dsimp only;refine gV (xf ?_);rw[hw,if_pos W];refine gV (N4 ?_);exact Zy1 (Zy1 c)
theorem HQ{k:Nat}(hw:w.params.followText "set-order"=bi)(c:s.heap.get? S=Z so)(d:so.data=.set es ep t)(hf:t.fits es.size=be)(a:t.led=be)(f:es.size<=1)(e:Q (match es[qD t.place k]?,t.place[qD t.place k]? with|some (_,x),Z j=>Z (x,j+1)|_,_=>am) s):wpAny 'h' A (qA S k i ep) Q E s:=by
 unfold qA;refine gV (ng c d hf ?_);dsimp only;refine gV (xf ?_);rw[hw,if_neg 'a'];have b:(!t.plain&&decide (es.size>1))=bi:=by rw[decide_eq_false 'd'];exact vt _
 refine zf ?_;rw[if_neg (by show¬((!t.plain&&decide (es.size>1))=be);rw[b];decide)];refine gV ?_;refine zf ?_;rw[if_neg (by rw[a];simp)];refine Zy1 ?_;exact Zy1 e
end
end DL
set_option backward.match.sparseCases false
namespace DL
open PySem PySem.Spec PyProof.Rows L2
theorem A3{a:Type}:∀(l:List a)(i:Nat)(h:i<l.length),(l[i]::l.eraseIdx i).Perm l|[],i,h=>by cases h|x::l,0,h=>.refl _|x::l,i+1,h=>((List.Perm.swap _ _ _).trans ((A3 l i (Nat.lt_of_succ_lt_succ h)).cons x))
theorem HR{b:Type}(next:Nat->Nat):∀(fuel k:Nat)(left:List b)(out:Array b),left.length=fuel->(N6 next fuel k left out).toList.Perm (out.toList++left)|0,k,left,out,h=>by have:left=[]:=Zu0.mp h;subst this;unfold N6;simp|fuel+1,k,left,out,h=>by have a:next k%left.length<left.length:=Nat.mod_lt _ 'd';unfold N6;rw[cy a];dsimp only;refine(HR next fuel (k+1) _ _ (by rw[Zu1 a];lia)).trans ?_;rw[ZuO,ju];exact List.Perm.append_left _ (A3 _ _ a)
theorem A4{a:Type}(next:Nat->Nat)(xs:Array a):(qC next xs).toList.Perm xs.toList:=by unfold qC;exact(HR next xs.size 0 xs.toList #[] 'k').trans 'k'
section
variable {prog:a6}{w:World}{A:a_}{E:Value->aq->Prop}{s:aq}
theorem VJ{n:Nat}(hn:n≠0)(h:∀i d',i<n->Q i {s with drawn:=d'}):wpAny 'h' A (choose a n) Q E s:=λc p b=>by unfold choose;rw[Sem.wp_choose];refine⟨hn,?_⟩;exact h _ _ (Nat.mod_lt _ (Nat.pos_of_ne_zero hn))
theorem HU{d:Type}:∀(n:Nat)(xs:List d)(s:aq)(Q:List d->aq->Prop),xs.length=n->(∀ys d',ys.Perm xs->Q ys {s with drawn:=d'})->wpAny 'h' A (drawOrder n xs) Q E s|0,xs,s,Q,h,a=>by have:xs=[]:=Zu0.mp h;subst this;unfold drawOrder;exact Zy1 (a [] s.drawn .nil)|n+1,[],s,Q,h,a=>by injection h|n+1,x::xs,s,Q,h,a=>by unfold drawOrder;refine gV (VJ (by rw[h];exact Nat.succ_ne_zero _) λi d' b=>?_);rw[cy b];dsimp only;refine gV (HU n _ _ _ (by rw[Zu1 b];lia) λys c p=>?_);exact Zy1 (a _ c ((p.cons _).trans (A3 _ _ b)))
variable {I S T:Addr}{so:Obj}{es:Array (Int × Value)}{ep i:Nat}{t:me}
theorem A5{n:Nat}(b:s.heap.get? I=Z (jg f i S n ep))(h:Q (.ref I) s):wpAny 'h' A (oC (.ref I)) Q E s:=by have a:s.TypeIs (.ref I) "set_iterator":=⟨_,b,W⟩;refine Zu2 a F2.HL (jt F2.HL a F2.VE ?_ (F2.VG _));show wpAny _ _ (ret (.ref I)) _ _ s;exact Zy1 ⟨_,W,"set_iterator",_,a,F2.kd.lookup,h⟩
theorem VL(r:A.handled=am)(g:S≠I)(hw:w.params.followText "set-order"=be)(f:so.data=.set es ep t)(hf:t.fits es.size=be):Walks prog w A I [I,S] [I] es.size (λi v=>((qC (w.params.setOrder S ep) es).toList.map (·.2))[i]?=Z v) (λi h=>(∃k:Nat,h.get? I=Z (jg (.int k 0) i S es.size ep))/\h.get? S=Z so) where
 sub:=λb c=>by simp at c;simp[c]
 frame:=by rintro i h h' ⟨⟨k,a⟩,b⟩ m;exact⟨⟨k,m I (by exact .head _) _ a⟩,m S (by exact .tail _ (.head _)) _ b⟩
 item:=λi s Q E u ⟨⟨k,a⟩,b⟩ j=>by
  have hz:(qC (w.params.setOrder S ep) es).size=es.size:=by simpa using(A4 (w.params.setOrder S ep) es).length_eq
  have d:i<(qC (w.params.setOrder S ep) es).size:=by rw[hz];exact u
  refine HM (x:=(qC (w.params.setOrder S ep) es)[i].2) (k':=k) a b f hf (λy E' B q=>HP hw b f hf (by rw[nh d];exact q)) λh' e p=>?_;refine j _ h' s.toks ?_ ⟨⟨k,e⟩,?_⟩ λb o c e=>?_;·rw[bW,sQ,nh d];rfl
  ·rw[p.2 S g];exact b
  ·rw[p.2 b (λz=>c (by simp[z]))];exact e
 done:=λs Q E ⟨⟨k,a⟩,b⟩ j=>by
  have hz:(qC (w.params.setOrder S ep) es).size=es.size:=by simpa using(A4 (w.params.setOrder S ep) es).length_eq
  refine HN r a b f hf (λy E' B q=>HP hw b f hf (by rw[Zu3 (by rw[hz];exact ba _)];exact q)) λh' e=>?_;exact j h' s.toks λb o c q=>e b o (λz=>c (by simp[z])) q
 self:=by rintro i s Q E ⟨⟨k,a⟩,b⟩ q;exact A5 a q
theorem VM(t:me):qD t.place 0=0\/t.place.size>1:=by
 by_cases h:t.place.size>1;·exact .inr h
 ·refine .inl ?_;unfold qD;rcases Zu4.mp (Zt1 h)with e|e;·rw[e];rfl
  ·rw[e];exact W
theorem VN(t:me)(e:t.place.size=1)(j:Nat)(h:t.place[0]?=Z j):qD t.place (j+1)=1:=by unfold qD;rw[e];simp[ZwA,Array.getD_eq_getD_getElem?,h]
theorem VO(J:A.handled=am)(m:S≠I)(hw:w.params.followText "set-order"=bi)(g:so.data=.set es ep t)(hf:t.fits es.size=be)(c:t.led=be)(p:es.size<=1):Walks prog w A I [I,S] [I] es.size (λi v=>(es.toList.map (·.2))[i]?=Z v) (λi h=>(∃k:Nat,h.get? I=Z (jg (.int k 0) i S es.size ep)/\(i=0->k=0)/\(i=1->∀j,t.place[0]?=Z j->k=j+1))/\h.get? S=Z so) where
 sub:=λb d=>by simp at d;simp[d]
 frame:=by rintro i h h' ⟨⟨k,a,r⟩,b⟩ B;exact⟨⟨k,B I (by exact .head _) _ a,r⟩,B S (by exact .tail _ (.head _)) _ b⟩
 item:=λi s Q E C ⟨⟨k,a,k0,k1⟩,b⟩ u=>by
  have hz:t.place.size=es.size:=by unfold Zu5 at hf;simp only[cJ,beq_iff_eq]at hf;exact hf.1
  have L:i=0:=by grind
  subst L;have M:=k0 W;subst M;have y:qD t.place 0=0:=by
   rcases VM t with e|e;·exact e
   ·lia
  have f:0<t.place.size:=by lia
  refine HM (x:=es[0].2) (k':=t.place[0]+1) a b g hf (λN E' O q=>HQ hw b g hf c p (by rw[y,nh C,nh f];exact q)) λh' e G=>?_;refine u _ h' s.toks ?_ ⟨⟨_,e,λz=>'d',λ_ j H=>?_⟩,?_⟩ λb o d e=>?_
  ·rw[bW,sQ,nh C];rfl
  ·rw[nh f]at H;(obtain rfl:=ao H);rfl
  ·rw[G.2 S m];exact b
  ·rw[G.2 b (λz=>d (by simp[z]))];exact e
 done:=λs Q E ⟨⟨k,a,k0,k1⟩,b⟩ u=>by
  have hz:t.place.size=es.size:=by unfold Zu5 at hf;simp only[cJ,beq_iff_eq]at hf;exact hf.1
  refine HN J a b g hf (λN E' O q=>HQ hw b g hf c p ?_) λh' e=>?_
  ·have:es[qD t.place k]?=am:=by
    apply Zu3;rcases Zu4.mp p with e|e
    ·lia
    ·have f:0<t.place.size:=by lia
     have:=k1 e t.place[0] (nh f);rw[this,VN t 'd' _ (nh f)];omega
   rw[this];exact q
  ·exact u h' s.toks λb o d q=>e b o (λz=>d (by simp[z])) q
 self:=by rintro i s Q E ⟨⟨k,a,_⟩,b⟩ q;exact A5 a q
theorem VP(G:A.handled=am)(j:S≠I)(m:T≠I)(B:so.data=.set es ep t)(hf:t.fits es.size=be){ps:List Nat}(d:ps.Perm (eG es.size)):Walks prog w A I [I,S,T] [I] es.size (λi v=>(ps.map (λp=>(es.toList.map (·.2)).getD p .none))[i]?=Z v) (λi h=>h.get? I=Z (jg (.ref T) i S es.size ep)/\h.get? S=Z so/\h.IsTuple T (ps.map (λ(p:Nat)=>yR p 0)).toArray) where
 sub:=λb g=>by simp at g;simp[g]
 frame:=by rintro i h h' ⟨a,b,c⟩ r;exact⟨r I (by exact .head _) _ a,r S (by exact .tail _ (.head _)) _ b,c.at λo e=>r T (by exact .tail _ (.tail _ (.head _))) o e⟩
 item:=λi s Q E H ⟨a,b,c⟩ u=>by
  have hz:ps.length=es.size:=by simpa using d.length_eq
  have f:i<ps.length:=by lia
  have C:ps[i]<es.size:=by have:=d.mem_iff.mp (NZ f);simpa using this
  refine VH (p:=ps[i]) (e0:=es[ps[i]].1) (x:=es[ps[i]].2) a b B hf c (by simp[f]) (by simp[C]) λh' e y=>?_;refine u _ h' s.toks ?_ ⟨e,?_,c.extBut y.extBut m⟩ λb o g e=>?_;·rw[bW,cy f];simp[ma,C]
  ·rw[y.2 S j];exact b
  ·rw[y.2 b (λz=>g (by simp[z]))];exact e
 done:=λs Q E ⟨a,b,c⟩ u=>by
  have hz:ps.length=es.size:=by simpa using d.length_eq
  refine VI G a b B hf c (by simp[hz]) λh' e=>?_;exact u h' s.toks λb o g q=>e b o (λz=>g (by simp[z])) q
 self:=by rintro i s Q E ⟨a,b,c⟩ q;exact A5 a q
end
def uu(vs:List Value)(ks:List Str):Prop:=(∀v∈vs,∃x t,v=ko x t)/\(vs.map txt).Perm ks
theorem HV{a:List Value}(h:uu vs ks)(p:a.Perm vs):uu a ks:=⟨λv b=>h.1 v (p.mem_iff.mp b),(p.map _).trans h.2⟩
section
variable {prog:a6}{w:World}{A:a_}{E:Value->aq->Prop}{s:aq}
variable {S:Addr}{ks:List Str}
theorem VQ{a:Type}(l:List a)(d:a):(eG l.length).map (λp=>l.getD p d)=l:=by
 apply List.ext_getElem;·simp
 ·intro i c b;simp[ma,b]
theorem VR(hS:gQ w s.heap S ks)(L:∀(I:Addr)(h':Heap)(d':Drawn)(M wr:List Addr)(P:Nat->Value->Prop)(St:Nat->Heap->Prop)(vs:List Value)(n:Nat),n=ks.length->(∀j:a_,j.handled=am->Walks prog w j I M wr n P St)->St 0 h'->I∈M->(∀b∈M,b=S\/s.heap.objs.size<=b)->(∀b∈wr,s.heap.objs.size<=b)-> (∀i v,P i v->vs[i]?=Z v)->uu vs ks->(∀b o,s.heap.get? b=Z o->h'.get? b=Z o)->Q (.ref I) {s with heap:=h',drawn:=d'}):wpAny 'h' A (oC (.ref S)) Q E s:=by
 refine a9 hS λo c m=>dj m λes ep t hex d q=>iH q λN r O hf u U=>?_;clear hS m q;have hT:s.TypeIs (.ref S) "set":=⟨o,c,hex.1⟩;have hn:es.size=ks.length:=xa r;have y:S<s.heap.objs.size:=bz c;have B:S≠s.heap.objs.size:=b5 y;have f:uu (es.toList.map (·.2)) ks:=by
  refine⟨λv hv=>?_,?_⟩;·obtain⟨e,he,rfl⟩:=aL.mp hv;obtain⟨x,tk,rfl⟩:=N e he;exact⟨x,tk,W⟩
  ·rw[ej];exact r
 refine Zu2 hT Zu6 (jt Zu6 hT F2.VF ?_ (PySem.F.args_set_iter_1 _));unfold Builtin.«frozenset.__iter__» ZwB slotArgs;simp only[List.isEmpty_nil,Dv,ll,↓reduceIte,bind_assoc,jP,bne_self_eq_false];unfold ZwC ZwD;refine gV (Zy1 ?_);try dsimp only
 refine gV (Zy1 ?_);refine gV ?_;refine gV (wpAny_setEntries_of c d hf (Zy1 ?_));refine gV ?_;unfold setDrawn;refine gV (ng c d hf ?_);dsimp only;refine gV (xf (Zy1 ?_));by_cases hw:w.params.followText "set-order"=be
 ·have C:(!w.params.followText "set-order"&&(!t.plain&&decide (es.size>1)))=bi:=by rw[hw];rfl
  refine zf ?_;rw[if_neg (by show¬((!w.params.followText "set-order"&&(!t.plain&&decide (es.size>1)))=be);rw[C];decide)];refine gV (Zy1 ?_);refine gV (N7 c d hf ?_);refine gV (wpAny_newObj_type (Zy1 ⟨_,W,"set_iterator",_,⟨_,cW _ W,W⟩,F2.kd.lookup,?_⟩));refine L s.heap.objs.size _ s.drawn _ _ _ _ _ _ hn (λj G=>VL G B hw d hf) ⟨⟨0,cW _ W⟩,bR _ c⟩ 'k' (λb a=>?_) (λb a=>?_) (λi v h=>h) (HV f ((A4 _ es).map _)) λb o e=>bR _ e
  ·simp at a;rcases a with rfl|rfl;·exact .inr (ba _)
   ·exact .inl W
  ·simp at a;rw[a];exact ba _
 ·have g:w.params.followText "set-order"=bi:=jR.mpr hw;by_cases h1:es.size<=1
  ·have C:(!w.params.followText "set-order"&&(!t.plain&&decide (es.size>1)))=bi:=by rw[decide_eq_false 'd',vt,vt]
   refine zf ?_;rw[if_neg (by show¬((!w.params.followText "set-order"&&(!t.plain&&decide (es.size>1)))=be);rw[C];decide)];refine gV (Zy1 ?_);refine gV (N7 c d hf ?_);refine gV (wpAny_newObj_type (Zy1 ⟨_,W,"set_iterator",_,⟨_,cW _ W,W⟩,F2.kd.lookup,?_⟩));refine L s.heap.objs.size _ s.drawn _ _ _ _ _ _ hn (λj G=>VO G B g d hf (by rw[u,g];rfl) h1) ⟨⟨0,cW _ W,λ_=>rfl,λz=>(by injection z)⟩,bR _ c⟩ 'k' (λb a=>?_) (λb a=>?_) (λi v h=>h) f λb o e=>bR _ e
   ·simp at a;rcases a with rfl|rfl
    ·exact .inr (ba _)
    ·exact .inl W
   ·simp at a;rw[a];exact ba _
  ·have C:(!w.params.followText "set-order"&&(!t.plain&&decide (es.size>1)))=be:=by rw[g,U 'd',decide_eq_true 'd'];rfl
   refine zf ?_;rw[if_pos (by show((!w.params.followText "set-order"&&(!t.plain&&decide (es.size>1)))=be);exact C)];refine gV (HU _ _ _ _ oH λps d' Y=>?_);have H:ps.length=es.size:=by simpa using Y.length_eq
   have VS:es.size<jT:=by rw[hn];exact O
   refine gV (wpAny_newTuple ?_ (by rw[aE,H];exact DR VS));have J:(s.heap.push {cls:=.type "tuple",data:=.seq (ps.map λ(i:Nat)=>lh i).toArray}).get? S=Z o:=bR _ c;refine gV (N7 J d hf ?_);refine gV (wpAny_newObj_type (Zy1 ⟨_,W,"set_iterator",_,⟨_,cW _ W,W⟩,F2.kd.lookup,?_⟩));have hsz:(s.heap.push {cls:=.type "tuple",data:=.seq (ps.map λ(i:Nat)=>lh i).toArray}).objs.size=s.heap.objs.size+1:=l9 ..;refine L (s.heap.push {cls:=.type "tuple",data:=.seq (ps.map λ(i:Nat)=>lh i).toArray}).objs.size _ d' _ _ _ _ (ps.map (λp=>(es.toList.map (·.2)).getD p .none)) _ hn (λj G=>VP (T:=s.heap.objs.size) G (by rw[hsz];exact b5 (lp y)) (by rw[hsz];exact b5 (sW _)) d hf Y) ⟨cW _ W,bR _ J,⟨_,bR _ (cW _ W),W,_,W⟩⟩ 'k' (λb a=>?_) (λb a=>?_) (λi v h=>h) (HV f ?_) λb o e=>bR _ (bR _ e)
   ·simp at a;rcases a with rfl|rfl|rfl
    ·exact .inr (i7 _)
    ·exact .inl W
    ·exact .inr (ba _)
   ·simp at a;rw[a];exact i7 _
   ·have:=Y.map (λp=>(es.toList.map (·.2)).getD p dC);have e:=VQ (es.toList.map (·.2)) dC;rw[aE,m5]at e;rw[e]at this;exact this
end
namespace F2
theorem VT:DY (.type "set") (.type "set")=pure be:=by rw[zb];kernel_rfl
end F2
section
variable {prog:a6}{w:World}{A:a_}{E:Value->aq->Prop}{s:aq}
variable {S:Addr}{ks:List Str}
theorem VU(a:s.TypeIs (.ref S) "set")(h:Q bi s):wpAny 'h' A (N8 (.ref S)) Q E s:=by
 unfold N8;refine gV (sU a PySem.F.slot_set_len.lookup ?_);dsimp only;generalize az:("set.__len__":String)=c;rw[show splitId c=Z ("set","__len__") from by subst az;decide+kernel];subst az;dsimp only;refine gV (y4 (b:=be) a F2.VT ?_);rw[if_neg 'a'];try refine gV (Zy1 ?_)
 rw[if_pos (by decide+kernel)];refine gV (sP a ?_);exact Zy1 h
theorem VW(hh:A.handled=am)(U:gQ w s.heap S ks)(hQ:∀vs g,uu vs ks->g.os=s.os->g.gens=s.gens->(∀b o,s.heap.get? b=Z o->g.heap.get? b=Z o)->s.heap.objs.size<=g.heap.objs.size->Q vs g):wpAny 'h' A (vM (.ref S)) Q E s:=by
 have Y:S<s.heap.objs.size:=by obtain⟨o,j,_⟩:=U;exact bz j
 have A6:ks.length<jT:=by refine a9 U λo j a=>dj a λes ep t _ _ v=>jw v λ_ _ f _=>?_;clear U a v;exact f
 unfold vM;refine gV (zd (lr PySem.F.entry_proto_collect ?_));rw[oM Zu7 _];show wpAny _ A.in1 (newList []>>=λl=>again (.builtin "list.__iadd__" ⟨[l,.ref S],[]⟩)) _ _ s;refine gV (wpAny_newObj_type ?_);refine Zy1 ⟨sY D5 _,lr PySem.F.entry_list_iadd ?_⟩;rw[oM D5 _];have h:gQ w (s.heap.push {cls:=.type "list",data:=.seq ([]:List Value).toArray}) S ks:=by obtain⟨o,j,r⟩:=U;exact⟨o,bR _ j,r⟩
 have x:(s.heap.push {cls:=.type "list",data:=.seq ([]:List Value).toArray}).get? s.heap.objs.size=Z {cls:=.type "list",data:=.seq ([]:List Value).toArray}:=cW _ W;have d:(s.heap.push {cls:=.type "list",data:=.seq ([]:List Value).toArray}).objs.size=s.heap.objs.size+1:=l9 ..;have y:∀b o,s.heap.get? b=Z o->(s.heap.push {cls:=.type "list",data:=.seq ([]:List Value).toArray}).get? b=Z o:=λb o e=>bR _ e;have B:s.heap.objs.size≠S:=oB Y;generalize s.heap.push {cls:=.type "list",data:=.seq ([]:List Value).toArray}=p at h x d y⊢;show wpAny _ A.in1 (D6 (.ref s.heap.objs.size) (.ref S) (.ref s.heap.objs.size)) _ _ {s with heap:=p};unfold D6;have C:zc {s with heap:=p} (.ref S) "set":=by refine a9 h λo j a=>jy a λes ep t hex _=>?_;clear h a;exact⟨o,j,hex.1⟩
 refine gV (sP C ?_);have e1:D7 (.ref s.heap.objs.size) (.ref S)=bi:=by simp[D7,B]
 rw[if_neg (by rw[e1];decide)];refine gV (VR (s:={s with heap:=p}) h λI G d2 fp wr P St vs n hn ad st hI VX VY hP H q=>?_);have VZ:zc {s with heap:=G,drawn:=d2} (.ref S) "set":=by obtain⟨o,j,hc⟩:=C;exact⟨o,q _ _ j,hc⟩
 refine gV (wpAny_holding (VU VZ ?_));rw[if_pos (by decide+kernel)];refine gV (wpAny_rule ?_);refine gV ?_;have J:=q _ _ x;show wpAny _ A.in1 (updateSeq s.heap.objs.size (·.push .none)>>=λ_=>updateSeq s.heap.objs.size (·.pop)) _ _ {s with heap:=G,drawn:=d2};refine gV (wpAny_updateSeq J W ?_);have L:=m6 (gG (·.push dC)) J W;refine wpAny_updateSeq (hz:=by seq_fits) L W ?_;have V0:=m6 (gG (·.pop)) L W;have M:∀b o,b≠s.heap.objs.size->G.get? b=Z o->((G.update s.heap.objs.size (gG (·.push dC))).update s.heap.objs.size (gG (·.pop))).get? b=Z o:=λb o f e=>(Dm _ _ (b6 f)).trans ((Dm _ _ (b6 f)).trans e);have N:s.heap.objs.size∉fp:=λO=>by
  rcases VX _ O with e|e;·exact B e
  ·have:p.objs.size<=s.heap.objs.size:=e;rw[d]at this;exact absurd this (Nat.not_succ_le_self _)
 have WS:=(ad A.in1 hh).toS;have hlen:vs.length=n:=by have:=H.2.length_eq;rw[aE]at this;lia
 have V1:n<=aD:=by rw[hn];exact DR A6
 refine Zy1 ⟨sY PySem.F.plain_extend_loop _,Zu8 WS V1 _ N _ n 0 _ _ _ W (dQ _) (WS.frame 0 {s with heap:=G,drawn:=d2} _ s.toks st (ba _) λb f o e=>M b o (λz=>N (z▸f)) e) V0 (Zu9 P) λg u c O T m=>?_⟩;show wpAny _ A (load s.heap.objs.size>>=_) _ _ g;refine gV (wpAny_load T ?_);have he:u.toList=vs:=by
  apply Du;intro i;by_cases hi:i<u.size
  ·have p:=m.2 i u[i] (by simp[hi]);rw[hP _ _ p];simp[hi]
  ·rw[sZ (by simpa using hi),sZ (by rw[hlen,<-m.1];lia)]
 have kp:∀b o,s.heap.get? b=Z o->g.heap.get? b=Z o:=λb o e=>by
  have f:b<s.heap.objs.size:=bz e;refine O.heap b o (λz=>?_) (M b o (b5 f) (q _ _ (y _ _ e)));rcases a7.mp z with z|z
  ·exact absurd z (b5 f)
  ·have:p.objs.size<=b:=VY b z;rw[d]at this;exact absurd (iE (lp f) this) (js _)
 refine Zy1 (hQ _ g (he▸H) O.os O.gens kp ?_);exact du (bz T)
theorem V2(u:A.handled=am)(C:gQ w s.heap S ks)(G:ks.length<64)(H:∀(L:Addr)(out:Array Value)(i:List Str)(e:Nat)(g:aq),y9 out.toList i->i.Perm ks->sortedS i=be->g.heap.get? L=Z (cL "list" out e)->s.heap.objs.size<=L-> g.os=s.os->g.gens=s.gens->(∀b o,s.heap.get? b=Z o->g.heap.get? b=Z o)->Q (.ref L) g):wpAny 'h' A (call (.builtin "sorted") [.ref S]) Q E s:=by
 refine N9 kind_sorted plain_sorted entry_sorted (args_sorted1 _) ?_;unfold Builtin.«sorted»;refine gV (m:=N_ "sorted" 1 1 _) (Zy1 ?_);refine gV (VW (by first|exact u|simpa using u) C λvs h a I J M hz=>?_);have hlen:vs.length<64:=by have:=a.2.length_eq;rw[aE]at this;lia
 refine gV (D8 ?_ (du (l8 hlen 'a')));have c:(h.heap.push (cL "list" vs.toArray 0)).get? h.heap.objs.size=Z (cL "list" vs.toArray 0):=cW _ W;show wpAny _ _ _ _ _ {h with heap:=h.heap.push (cL "list" vs.toArray 0)};have d:=strsAre_map vs a.1;have j:vs.map ZwE=vs.map txt:=qF λv N=>by obtain⟨x,t,rfl⟩:=a.1 v N;rfl
 refine gV (wpAny_holding (jt D9 ⟨_,c,W⟩ D_ (list_sort_treeK strKind_oneLt c d.keysOf (λy z rest e=>keyKind_strs (by rw[<-e];exact d)) hlen λp O T=>⟨_,W,?_⟩) (Ea _)));refine aM (sorted_out_str d O T) λr U Y h3=>?_;obtain⟨e,he⟩:=sortedHeap_at (out:=(arrOf p).map (·.2)) c;refine Zy1 ⟨_,W,H _ _ r e _ U (Y.trans (j▸a.2)) h3 he hz I J λb o q=>?_⟩;have B:=M b o q;have f:=bz B;show(Eb _ _ _ _).get? b=Z o;rw[sortedHeap_old (b5 f) (by rw[Ec];exact lp f),s_ _ _ _ (b5 f)];exact B
end
end DL
namespace DL
open PySem PySem.Spec PyProof.Rows L2
section
variable {X:Cx}{e a b:Expr}{pos p p2 xg:Pos}{f:ag->Option D}
theorem HX{s i:aq}(I:Inv X zK σ H s)(j:i.heap=s.heap)(m:i.gens=s.gens)(q:i.os=s.os):Inv X zK σ H i:=by obtain⟨h,g,d,t,o⟩:=s;obtain⟨h',g',d',t',r⟩:=i;simp only at j m q;subst j;subst m;subst q;exact⟨I.ok,I.os,I.bare,I.base,I.loc,I.cell,I.free,I.fT,I.pin,I.aR,I.len⟩
theorem HY:∀{d:List Value}{bs:List Str},y9 d bs->∀(i:Nat)(v:Value),d[i]?=Z v->∃t,v=ko (bs.getD i default) t|_,_,.nil,i,v,h=>by simp at h|_,_,.cons y t r,0,v,h=>by simp at h;exact⟨t,by rw[<-h];rfl⟩|_,_,.cons y t r,i+1,v,h=>by simp only[qG]at h;obtain⟨t',e⟩:=HY r i v h;exact⟨t',by rw[e];rfl⟩
theorem HZ:∀{d:List Value}{bs:List Str},y9 d bs->bs.length=d.length|_,_,.nil=>rfl|_,_,.cons y t r=>by rw[bh,bh,HZ r]
theorem H0:∀(xs ks:List Str)(x:Str),x∈xs.foldl gI ks↔x∈ks\/x∈xs
 |[],ks,x=>by simp|y::xs,ks,x=>by
  rw[DU,H0 xs (gI ks y) x];unfold gI;split
  ·rename_i h;constructor
   ·rintro(q|q);·exact .inl q
    ·exact .inr (cx _ q)
   ·rintro(q|q);·exact .inl q
    ·rcases a7.mp q with q|q;·rw[q];exact .inl h
     ·exact .inr q
  ·simp[or_assoc]
theorem uv(xs:List Str)(x:Str):x∈c9 xs↔x∈xs:=by unfold c9;rw[H0];simp
noncomputable def V3:D->Option (List D)|.lst xs=>Z xs|_=>am
def H4(d:D):Option D:=(V3 d).bind λxs=>if xs.length<64 then(strsOf xs).map λbs=>.lst ((d8 (c9 bs)).map .str)else am
def A7(f:ag->Option D):ag->Option D:=λd=>(f d).bind H4
theorem V4(hc:X.calm=be)(hg:Gl X "sorted")(hm:X.mg "sorted"=am)(E:Gl X "set")(G:X.mg "set"=am)(ha:DE X a f)(hs:a4 [a] X.env=(bi,eval a X.env)::a4 [] X.env):DE X (.Call (.Name "sorted" p) [.Call (.Name "set" p2) [a] [] xg] [] pos) (A7 f):=by
 intro zK s σ H Q I ⟨ρ,d,R,e,q⟩;refine bS e λd0 h0 e=>?_;refine bS e λxs h1 e=>?_;split at e;case isFalse=>injection e
 rename_i h64;rw[bu]at e;obtain⟨bs,J,rfl⟩:=e;have hh:X.A.handled=am:=I.ok.hd hc;refine wpAny_Call_Name_kw (lz I hg hm boot_sorted ?_);refine ZtM ?_;show wpAny _ _ (yU ((bi,eval (.Call (.Name "set" p2) [a] [] xg) X.env)::[])) _ _ s;refine Dg ?_;refine wpAny_Call_Name_kw (lz I E G (show eR "set"=Z (.type "set") by decide+kernel) ?_);refine sL ?_ hs;rw[hs];show wpAny _ _ (yU ((bi,eval a X.env)::[])) _ _ s;refine Dg (aT (ha zK s σ H _ I ⟨ρ,d0,R,h0,λv m g M=>(⟨g,M⟩:aw H m/\Rep X.K m v d0)⟩) λu g zZ=>?_);obtain⟨v,m,N,rv,sm,M⟩:=zZ;refine Df ?_;have O:∀(S:Addr)(j:aq),gQ X.w j.heap S (c9 bs)->j.os=g.os->j.gens=g.gens->(∀b o,g.heap.get? b=Z o->j.heap.get? b=Z o)->g.heap.objs.size<=j.heap.objs.size->(∀x∈bs,x.length<=aD)->bs.length<64-> wpAny 'b' X.A (yU []) (λvs r=>wpAny 'b' X.A (call (.builtin "sorted") (.ref S::vs)) (EP X zK σ Q) X.xe r) X.xe j:=λS j B eo eg T hz hx hl=>by
  refine Df ?_;refine V2 hh B (iG (rC bs) hl) λL out ss en s3 a1 a2 a3 hL t U Y V5=>?_;have eq:ss=d8 (c9 bs):=wX (AE a3) (ue (c9 bs)) (a2.trans (iM (c9 bs)).symm);subst eq;have hlen:∀x∈d8 (c9 bs),x.length<=aD:=λx A8=>hx x ((uv bs x).mp ((iM (c9 bs)).mem_iff.mp A8));have hn:m L=am:=N.aR.fresh (cv hz t);have V6:((d8 (c9 bs)).map V.str).length<=aD:=by rw[aE,(iM (c9 bs)).length_eq];exact du (l8 (iG (rC bs) hl) 'a')
  have I3:Inv X zK σ (upd m L (.lst ((d8 (c9 bs)).map V.str))) {g with heap:=s3.heap,toks:=s3.toks}:=N.laid (λb ob q=>V5 _ _ (T _ _ q)) (cv hz t) ⟨V6,out.toList,en,(ud (K:=X.K) (H:=m) a1 hlen).1,by simpa [cL]using hL⟩;refine⟨.ref L,_,HX I3 W (Y.trans eg) (U.trans eo),W,?_⟩;exact q _ _ (sm.trans (cU hn _)) (.lst (.inl bA) (ud a1 hlen).2)
 have y:bs.length<64:=by
  have:bs.length=xs.length:=by rw[mz J,aE]
  lia
 cases M with|@lst a vs ds h C=>
  (obtain rfl:=ao h1)
  cases rv;have V7:∀x∈bs,x.length<=aD:=by rw[mz J]at C;exact wV C
  rw[mz J]at C;obtain⟨RJ,ri,pl⟩:=Inv.jE N h;have sa:=uc C ri;have z:=HZ sa;refine Vr hh pl (by simpa using z) (λi v hv=>HY sa i v (by simpa using hv)) (by rw[di,<-z];exact l8 (Oa y) 'a') λh' tk B T=>?_;exact O _ {g with heap:=h',toks:=tk} B W W (λb o e=>T b o (bz e) e) (by obtain⟨o,ho,_⟩:=B;exact du (bz ho)) V7 y|_=>injection h1
theorem V8(i:X.mg "sorted"=am)(d:X.mg "set"=am)(j:JE X a f)(m:Gl X "sorted":=by rfl)(g:Gl X "set":=by rfl)(hn:cZ a=be:=by rfl)(q:X.calm=be:=by rfl):JE X (.Call (.Name "sorted" p) [.Call (.Name "set" p2) [a] [] xg] [] pos) (A7 f):=⟨V4 q m i g d j.h (bP hn)⟩
end
section
variable {X:Cx}{e a b:Expr}{es:List Expr}{pos p:Pos}{f fa fb fc:ag->Option D}{fs:List (ag->Option D)}{x:Str}
theorem V9{d:Scope}{fi:ag->Option (List D)}{H:D->ag->Option ag}{fc:ag->Option Bool}{I:ag->Option D} (J:JI X B iter fi) (E:∀C g i w,JG (cn X d t N' C g i w) B H/\JF (cn X d t N' C g i w) v fc/\JE (cn X d t N' C g i w) u I) (m:oG d X.env=pure t) (q:∀y∈d.names,y.2≠ .cell) (r:d.kind=.function) (j:∀y∈d.names,y.2=.local->d.names.lookup y.1=Z .local) (G:jb X.env.cells t) (z:jc t (kA d X.env).names) (A:gq X d N' cap) (L:X.calm=be):JL X (.ListComp u [⟨B,iter,v,0⟩] d pos) (eC cap fi H fc I):=⟨GK L J.h m q r j G z A (λC g i w=>by obtain⟨M,N,O⟩:=E C g i w;exact⟨M.h,N.h,O.h⟩) (pe J.s)⟩
theorem V_(h:JA X es fs (ai fs))(hn:vh fs.length 1000=be):JL X (.List es pos) (ai fs):=⟨cQ (wh h.h)<|by rintro σ H Q ⟨d,ds,r,e,q⟩;exact⟨d,ds,r,e,λvs i j g=>⟨by rw[g.length];exact cv (h.n d ds e) (w6 hn),λp m=>q vs i p j m g⟩⟩⟩
theorem Wa(t:JE X a fa)(w:JE X b fb):JL X (.BinOp a .Add b pos) (nR fa fb):=⟨cQ (EW F9 t.h w.h)<|by
  rintro σ H Q ⟨j,ds,R,e,q⟩;refine bS e λx z e=>?_;refine bS e λy A e=>?_;refine bS e λxs B e=>?_;refine bS e λys C e=>?_;split at e;case isFalse=>cases e
  rename_i hz;cases e;refine⟨j,x,R,z,λv O m E=>⟨j,y,R.mono m,A,λu H2 r G=>?_⟩⟩;cases x<;>cases B;cases y<;>cases C;have i:=E.mono r;cases i with|@lst I vs _ J d=>cases G with|@lst L ws _ M g=>exact⟨I,L,vs,ws,W,W,J,M,by rw[d.length,g.length];exact hz,λp N=>q (vs++ws) H2 p (m.trans r) N (d.append g)⟩⟩
theorem Wb(t:X.mg "list"=am)(u:JE X a fa)(w:Gl X "list")(hn:cZ a=be):JL X (.Call (.Name "list" p) [a] [] pos) (w_ fa):=⟨cQ (Fh QT w t DL.SY (ek u.h gj (bP hn)) 'a' 'a' (bP hn) (plain_any W))<|by rintro σ H Q ⟨y,ds,R,e,q⟩;refine bS e λx z e=>?_;refine⟨y,x,R,z,λv m r A=>?_⟩;cases A with|@lst g vs _ i d=>(obtain rfl:=ao e);exact⟨g,vs,W,.inl (.inl i),λp j=>q vs m p r j d⟩|@tup g vs _ i d=>(obtain rfl:=ao e);exact⟨g,vs,W,.inr i,λp j=>q vs m p r j d⟩|_=>injection e⟩
theorem Wc(h:JE X e f)(d:j_ e=be):JK X g e (bV f):=⟨Hs h.h,d⟩
theorem Wd(d:X.mg "range"=am)(g:JE X a fa)(i:Gl X "range")(hn:cZ a=be):JK X j (.Call (.Name "range" p) [a] [] pos) (dJ (ai [fa])):=⟨Ht i d g.h (bP hn),W⟩
theorem We(g:X.mg "range"=am)(i:JE X a fa)(j:JE X b fb)(m:Gl X "range")(hn:cZ a=be)(d:cZ b=be):JK X q (.Call (.Name "range" p) [a,b] [] pos) (dJ (ai [fa,fb])):=⟨U2 m g i.h j.h (by rw[bP hn,bP d];rfl) (bP d),W⟩
theorem Wf(h:JE X e f)(d:j_ e=be):JI X g e (bV f):=⟨AX (Hs h.h),d⟩
theorem Wg(d:X.mg "range"=am)(g:JE X a fa)(i:Gl X "range")(hn:cZ a=be):JI X j (.Call (.Name "range" p) [a] [] pos) (dJ (ai [fa])):=⟨AX (Ht i d g.h (bP hn)),W⟩
theorem Wh(i:X.mg "enumerate"=am)(j:JE X a fa)(m:Gl X "enumerate")(hn:cZ a=be):JI X (.Tuple d x1 g) (.Call (.Name "enumerate" p) [a] [] pos) (jG fa):=⟨AX (Hu m i j.h (bP hn)),W⟩
theorem Wi(i:X.mg "enumerate"=am)(j:JE X a fa)(m:Gl X "enumerate")(hn:cZ a=be):JK X (.Tuple d x1 g) (.Call (.Name "enumerate" p) [a] [] pos) (jG fa):=⟨Hu m i j.h (bP hn),W⟩
noncomputable def uw:D->Option Bool|.aC=>Z bi|.bl b=>Z b|.int i=>Z (i != 0)|.str y=>Z ((y.length:Int) != 0)|.tup xs=>Z (!xs.isEmpty)|.lst xs=>Z (!xs.isEmpty)|.bJ ns=>Z (!ns.isEmpty)|.aW _ _=>am|.tab .. =>am
theorem H_{K:av}{H:Hp}{v:V}{k:Bool}(r:Rep K H v d)(h:uw d=Z k):zJ K v H k:=by cases r with|aC=>(obtain rfl:=ao h);rfl|bl b=>(obtain rfl:=ao h);rfl|int i=>cases h;rfl|str y j=>cases h;exact⟨j,W⟩|@tup a vs ds q g=>(obtain rfl:=ao h);refine .inr (.inl ⟨vs,q,?_⟩);cases g<;>rfl|@lst a vs ds q g=>(obtain rfl:=ao h);refine .inl ⟨vs,.inl q,?_⟩;cases g<;>rfl|@bJ a ns q=>(obtain rfl:=ao h);refine .inl ⟨_,q,?_⟩;cases ns<;>rfl|aW|tab=>injection h
def lN(f:ag->Option D):ag->Option Bool:=λd=>(f d).bind uw
theorem Wj(h:JE X e f)(g:AQ e=be):JT X e (lN f):=⟨rf (Qg h.h (G9 g))<|by rintro σ H Q ⟨i,k,R,j,q⟩;refine bS j λd m r=>?_;exact⟨i,d,R,m,λv H' t u=>⟨k,H_ u r,q H' t⟩⟩⟩
def uz(f:ag->Option D):ag->Option D:=λd=>(lN f d).bind λk=>Z (.bl (!k))
theorem Wl(h:JE X a f):JE X (.UnaryOp .Not a pos) (uz f):=⟨by
 intro zK s σ H Q I ⟨r,d,R,t,q⟩;refine bS t λk w y=>?_;refine bS w λd0 z A=>?_
 (obtain rfl:=ao y);refine UnaryOp_ (aT (h.h zK s σ H _ I ⟨r,d0,R,z,λv g i j=>(⟨i,j⟩:aw H g/\Rep X.K g v d0)⟩) λu i m=>?_);obtain⟨v,g,B,C,E,j⟩:=m;refine not_of (aT (E4 zK i σ g v u (λk' H2=>k'=k/\H2=g) B C ⟨k,H_ j A,W,W⟩) λk' M m=>?_);obtain⟨H2,G,J,L⟩:=m;subst J L;exact⟨.bl (!k'),H2,G,W,q _ H2 E (.bl _)⟩⟩
end
end DL
namespace DL
open PySem PySem.Spec PyProof.Rows L2
section
variable {X:Cx}{x:Str}{pos:Pos}
theorem Wm{g:Pos}{a:Scope}(i:Nat)(hN:X.N.Nodup)(U:JI X J iter fi)(L:∀C b c v,JG (cn X a w N' C b c v) J gt/\JF (cn X a w N' C b c v) z fc/\JE (cn X a w N' C b c v) A fe)(M:X.N[i]?=Z x)(hx:Loc X.env.scope x)(m:oG a X.env=pure w)(t:∀y∈a.names,y.2≠ .cell)(u:a.kind=.function)(f:∀y∈a.names,y.2=.local->a.names.lookup y.1=Z .local)(O:jb X.env.cells w)(B:jc w (kA a X.env).names)(E:gq X a N' cap)(hc:X.calm=be)(Q:eY (.ListComp A [⟨J,iter,z,0⟩] a pos) (Z (.Name x pos')) g.line X.env=pure be)(hf:X.fn x=be\/X.env.scope.names.lookup x=Z .local):JS X (.Assign [.Name x pos'] (.ListComp A [⟨J,iter,z,0⟩] a pos) g) (cc i (cf cap fi gt fc fe)):=⟨cz (GO hN M hx hc U.h m t u f O B E (λC b c v=>by obtain⟨j,h2,h3⟩:=L C b c v;exact⟨j.h,h2.h,h3.h⟩) (pe U.s) Q hf)<|by
  rintro Dn σ H ⟨ρ,o,R,e,q⟩;refine bS e λd j e=>?_
  (obtain rfl:=ao e);refine bS j λds T j=>?_;split at j;case isFalse=>injection j
  rename_i hlen;rw[bu]at j;obtain⟨G,I,rfl⟩:=j;refine⟨ρ,G,R,by simp only[eC,T,bx,hlen,if_true];exact I,λvs H1 p s1 Y r=>?_⟩;have S:=s1.trans (cU Y (.lst vs));exact q _ _ S ((R.mono S).set i (.lst (.inl bA) (r.mono (cU Y _))))⟩
end
section
variable {X:Cx}{a:Expr}{pos p2:Pos}{fa:ag->Option D}
theorem Wn{lo b:Option Expr}{fl c:ag->Option (Option Int)}(d:JE X a fa)(e:JO X lo fl)(f:JO X b c):JE X (.Subscript a (.Slice lo b am p2) pos) (jF fa fl c):=⟨G4 d.h e.h f.h⟩
end
section
variable {prog:a6}{w:World}{A:a_}{E:Value->aq->Prop}{s:aq}
theorem Wo{ws:List Value}(p:IsTup s.heap t (#[]:Array Value))(q:IsTup s.heap b ws.toArray)(r:Q (.ref b) s):wpAny 'h' A (gd .Add (.ref t) (.ref b)) Q E s:=by obtain⟨⟨cls,dd,g,u⟩,h,i,n,j⟩:=id p;obtain⟨⟨m,e,data2,f⟩,a,c,n2,d⟩:=id q;simp only at i j c d;subst i j c d;exact Ny ⟨_,h,W⟩ ⟨_,a,W⟩ Nz NA NB NC (ND _ _) (tuple_addW0 t b #[] ws.toArray n n2 dd e u f (by rfl)) ⟨h,a,r⟩
end
section
variable {X:Cx}
def jh:D->D->Option D|.tup [],.tup ys=>Z (.tup ys)|a,b=>aQ a b
theorem Wq:dW X (gd .Add) jh:=⟨by
 intro zK s σ H x y v u Q I m p h;refine dj h λr t d g i c=>bc c λe q=>?_;clear h c;have old:aQ r t=Z d->wpAny 'b' X.A (gd .Add v u) (EP X zK σ Q) X.xe s:=λB=>F_ zK s σ H x y v u Q I m p ⟨r,t,d,g,i,B,q⟩;unfold jh at e;split at e;case h_2=>exact old e
 (obtain rfl:=ao e);cases g with|@tup a vs ds C E=>cases i with|@tup b ws es f j=>cases E;cases m;cases p;refine aM (I.tuple C) λG g J _=>?_;refine aM (I.tuple f) λz i L _=>?_;cases g;exact Wo J L ⟨.ref b,H,I,W,q _ H (aw.refl H) (.tup f j)⟩⟩
end
section
variable {X:Cx}
noncomputable instance(i j:Int):Decidable (sM i j):=by unfold sM;infer_instance
theorem Wr:dc X (gd .Mult) (rI sM λi j=>.int (i*j)):=we λ_ _ _ _ _ _ _ a q=>mul_int q a
def rF:D->D->Option D:=dI sM λi j=>.int (i*j)
theorem Ws:dW X (gd .Mult) rF:=⟨wJ Wr λ_ _ _=>.int _⟩
end
noncomputable def ji{b:Type}(lt:Nat->Nat->Bool):qH b->b|.ret a=>a|.ask i j k=>ji lt (k (lt i j))
noncomputable def mC{a:Type}(n:Nat):qH a->Bool|.ret _=>be|.ask i j k=>decide (i<n)&&decide (j<n)&&decide (i≠j)&&mC n (k be)&&mC n (k bi)
theorem Ia{c:Type}{n:Nat}{b:Nat->Nat->(Bool->aq->Prop)->aq->Prop}{lt:Nat->Nat->Bool}{Q:c->aq->Prop}{s:aq}(d:∀i j C,i<n->j<n->i≠j->C (lt i j) s->b i j C s):∀(t:qH c),mC n t=be->Q (ji lt t) s->t.kasWp b Q s
 |.ret a,_,h=>h|.ask i j k,e,h=>by
  simp only[mC,cJ,decide_eq_true_eq]at e;obtain⟨⟨⟨⟨f,g⟩,m⟩,p⟩,q⟩:=e;refine d i j _ f g m (Ia d _ ?_ h);cases lt i j;·exact q
  ·exact p
theorem Ic:mC 2 (jU 2)=be:=by decide+kernel
theorem Ie:mC 3 (jU 3)=be:=by decide+kernel
def iq{a:Type}(d:a)(lt:Nat->Nat->Bool)(vs:List a):List a:=if vs.length<2 then vs else(ji lt (jU vs.length)).toList.map λi=>vs.getD i d
section
variable {prog:a6}{w:World}{A:a_}{E:Value->aq->Prop}{s:aq}
theorem Wt{vs:List Value}{n:Nat}{P:PySem.Fin->aq->Prop}{lt:Nat->Nat->Bool}(u:s.heap.get? a=Z (cL "list" vs.toArray n))(m:vs.length<=3) (N:∀h',(∀b o,b≠a->s.heap.get? b=Z o->h'.get? b=Z o)->2<=vs.length->∃κ,(∀Q,Q κ {s with heap:=h'}->wpAny 'h' A (keyKind' vs.toArray) Q (λ_ _=>False) {s with heap:=h'})∧ ∀i j C,i<vs.length->j<vs.length->i≠j->C (lt i j) {s with heap:=h'}->wpAny 'h' A (keyLt' κ (vs.getD i dC) (vs.getD j dC)) C (λ_ _=>False) {s with heap:=h'}) (h:P (.done (.ret .none)) {s with heap:=Eb s.heap a vs (iq dC lt vs).toArray}):wpAny 'h' A (Builtin.«list.sort» ⟨[.ref a],[]⟩) P E s:=by
 rw[list_sort_plain];have L:a<s.heap.objs.size:=bz u;refine gV (listItems_at u W ?_);refine gV (Ob u W ?_);obtain⟨y,r⟩:∃y,(s.heap.update a (gG λ_=> #[])).get? a=Z (cL "list" #[] y):=⟨_,get?_update_seq u (λ_=> #[])⟩;refine gV (Oc r W ?_);refine gV (wpAny_newTuple ?_);refine gV (D8 ?_);refine wpAny_holding ?_;have d:(((s.heap.update a (gG λ_=> #[])).push (cL "tuple" vs.toArray 0)).push (cL "list" #[] 0)).get? a=Z (cL "list" #[] y):=by rw[s_ _ _ _ (by rw[Ec,zg];exact b5 (lp L)),s_ _ _ _ (by rw[zg];exact b5 L)];exact r
 show wpAny 'h' A _ P E {s with heap:=((s.heap.update a (gG λ_=> #[])).push (cL "tuple" vs.toArray 0)).push (cL "list" #[] 0)};dsimp only;have hsz:vs.toArray.size=vs.length:=by exact W
 by_cases v:vs.toArray.size<2
 ·rw[if_pos v,if_pos v];refine gV (Zy1 ?_);rw[StateT.run_pure];refine gV (Zy1 ?_);dsimp only;refine gV (Oc d W ?_);refine gV (Ob d W ?_ (hsz2:=by rw[Array.size_map];show(pairsOf vs).size<=_;rw[pairsOf_size,sN];exact fo m));simp only[bne_self_eq_false,ll,if_false];have e:(iq dC lt vs).toArray=(arrOf (SortSt.mk' general' (vs.toArray.zip vs.toArray) #[] 7 am)).map (·.2):=by unfold iq;rw[if_pos (by omega)];show vs.toArray=(vs.toArray.zip vs.toArray).map (·.2);apply Array.toList_inj.mp;rw[Array.toList_map,Array.toList_zip];simp[Od]
  rw[e]at h;exact Zy1 h
 ·rw[if_neg v,if_neg v];obtain⟨κ,k1,k2⟩:=N (((s.heap.update a (gG λ_=> #[])).push (cL "tuple" vs.toArray 0)).push (cL "list" #[] 0)) (λb o O q=>by have t:b<s.heap.objs.size:=bz q;rw[s_ _ _ _ (by rw[Ec,zg];exact b5 (lp t)),s_ _ _ _ (by rw[zg];exact b5 t),Zu_ _ _ _ _ O];exact q) 'd';refine gV (i5 (k1 (λκ' f=>κ'=κ/\f={s with heap:=((s.heap.update a (gG λ_=> #[])).push (cL "tuple" vs.toArray 0)).push (cL "list" #[] 0)}) ⟨W,W⟩) (λκ' f T=>?_) λ_ _ x=>x.elim);obtain⟨rfl,rfl⟩:=T;have z:mC vs.length (jU vs.length)=be:=by
   have:vs.length=2\/vs.length=3:=by lia
   rcases this with e|e;·rw[e];exact Ic
   ·rw[e];exact Ie
  refine gV (i5 (PySem.W.kat_run (ks:=vs) (vs:=vs) (κ:=κ') (G:=λp f=>p=ji lt (jU vs.length)/\f={s with heap:=((s.heap.update a (gG λ_=> #[])).push (cL "tuple" vs.toArray 0)).push (cL "list" #[] 0)}) (Q:=λc f=>(∃p:Array Nat,p.size=vs.length/\arrOf c=p.map (PySem.W.kas_item (vs.toArray.zip vs.toArray))/\p=ji lt (jU vs.length))/\failedOf c=am/\f={s with heap:=((s.heap.update a (gG λ_=> #[])).push (cL "tuple" vs.toArray 0)).push (cL "list" #[] 0)})
   rfl (by grind) 'd' (λU c f Y a2 a3 M=>⟨⟨U,Y,a2,M.1⟩,a3,M.2⟩) (Ia (n:=vs.length) (lt:=lt) (λi j C hi hj B hC=>k2 i j C hi hj B hC) _ z ⟨W,W⟩)) ?_ λ_ _ e=>e);rintro⟨⟨⟩,c⟩ f ⟨⟨p,H,I,J⟩,hf,rfl⟩;dsimp only;have g:=PySem.W.kat_snds (ks:=vs) (vs:=vs) W I;have e:(arrOf c).map (·.2)=(iq dC lt vs).toArray:=by rw[g];unfold iq;rw[if_neg (by omega),J]
  refine gV (Oc d W ?_);refine gV (Ob d W ?_ (hsz2:=by rw[g,di,aE,m5,H,sN];exact fo m));rw[hf];simp only[bne_self_eq_false,ll,if_false];rw[e];exact Zy1 h
theorem Wu{vs:List Value}{lt:Nat->Nat->Bool}{Q:Value->aq->Prop}(f:s.heap.IsList l vs.toArray)(a:vs.length<=3) (g:∀h',(∀b o,s.heap.get? b=Z o->h'.get? b=Z o)->2<=vs.length->∃κ,(∀Q,Q κ {s with heap:=h'}->wpAny 'h' A.in1.in1 (keyKind' vs.toArray) Q (λ_ _=>False) {s with heap:=h'})∧ ∀i j C,i<vs.length->j<vs.length->i≠j->C (lt i j) {s with heap:=h'}->wpAny 'h' A.in1.in1 (keyLt' κ (vs.getD i dC) (vs.getD j dC)) C (λ_ _=>False) {s with heap:=h'}) (h:Q (.ref (s.heap.objs.size+1)) {s with heap:=sortedAll s.heap vs (iq dC lt vs).toArray}):wpAny 'h' A (call (.builtin "sorted") [.ref l]) Q E s:=by
 refine N9 kind_sorted plain_sorted entry_sorted (args_sorted1 _) ?_;unfold Builtin.«sorted»;refine gV (m:=N_ "sorted" 1 1 _) (Zy1 ?_);refine gV (collect_list f ?_ (by rw[sN];exact fo a));refine gV (D8 ?_ (by rw[sN];exact fo a));have hsz:((s.heap.push (cL "list" #[] 0)).update s.heap.objs.size (gG (· ++vs.toArray))).objs.size=s.heap.objs.size+1:=by rw[zg,Ec]
 have d:(((s.heap.push (cL "list" #[] 0)).update s.heap.objs.size (gG (· ++vs.toArray))).push (cL "list" vs.toArray 0)).get? (s.heap.objs.size+1)=Z (cL "list" vs.toArray 0):=by rw[<-hsz];exact cW _ W
 have e:∀b o,s.heap.get? b=Z o->(((s.heap.push (cL "list" #[] 0)).update s.heap.objs.size (gG (· ++vs.toArray))).push (cL "list" vs.toArray 0)).get? b=Z o:=λb o q=>by have c:b<s.heap.objs.size:=bz q;rw[s_ _ _ _ (by rw[hsz];exact b5 (lp c)),Zu_ _ _ _ _ (b5 c),s_ _ _ _ (b5 c)];exact q
 show wpAny _ _ _ _ _ {s with heap:=((s.heap.push (cL "list" #[] 0)).update s.heap.objs.size (gG (· ++vs.toArray))).push (cL "list" vs.toArray 0)};rw[hsz];refine gV (wpAny_holding (jt D9 ⟨_,d,W⟩ D_ ?body (Ea _)));case body=>refine Wt (s:={s with heap:=((s.heap.push (cL "list" #[] 0)).update s.heap.objs.size (gG (· ++vs.toArray))).push (cL "list" vs.toArray 0)}) (lt:=lt) d a (λh' p r=>g h' (λb o q=>p b o (b5 (lp (bz q))) (e b o q)) r) ⟨_,W,?_⟩;exact Zy1 ⟨_,W,h⟩
end
def xh(h:Heap)(v:Value)(x:Str):Prop:=∃a o xs n t,v=.ref a/\h.get? a=Z o/\o.cls=.type "tuple"/\o.data=.seq xs n/\xs[0]?=Z (.str x t)
noncomputable def iP(h:Heap):List Value->List Str->Prop|[],[]=>True|v::vs,x::xs=>xh h v x/\iP h vs xs|_,_=>False
theorem iP.len:∀{vs:List Value}{xs:List Str},iP h vs xs->vs.length=xs.length|[],[],_=>rfl|v::vs,x::xs,t=>by rw[bh,bh,iP.len t.2]|[],_::_,t=>t.elim|_::_,[],t=>t.elim
theorem iP.get:∀{vs:List Value}{xs:List Str}{i:Nat},iP h vs xs->i<vs.length->xh h (vs.getD i dC) (xs.getD i "")|v::vs,x::xs,0,t,_=>t.1|v::vs,x::xs,i+1,t,a=>by have:=iP.get (i:=i) t.2 (by simpa using a);simpa using this|[],[],i,_,a=>by simp at a|[],_::_,_,t,_=>t.elim|_::_,[],_,t,_=>t.elim
theorem iP.mono{h h':Heap}(k:∀b o,h.get? b=Z o->h'.get? b=Z o):∀{vs:List Value}{xs:List Str},iP h vs xs->iP h' vs xs|[],[],_=>trivial|v::vs,x::xs,⟨⟨a,o,ys,n,t,c,d,e⟩,r⟩=>⟨⟨a,o,ys,n,t,c,k _ _ d,e⟩,iP.mono k r⟩|[],_::_,t=>t.elim|_::_,[],t=>t.elim
theorem iP.Ig:∀{vs:List Value}{xs:List Str},iP h vs xs->∃fs,PySem.W.KatTups h vs fs/\fs.length=vs.length/\∀f∈fs,∃x t,f=ko x t
 |[],[],_=>⟨[],trivial,W,λf hf=>by cases hf⟩|v::vs,x::xs,⟨⟨a,o,ys,n,t,b,c,d,e,g⟩,r⟩=>by
  subst b;refine aM (iP.Ig r) λfs i j m=>?_;refine⟨.str x t::fs,.cons c d e g i,by simp[j],λf hf=>?_⟩;rcases a7.mp hf with rfl|hf;·exact⟨x,t,W⟩
  ·exact m f hf|[],_::_,t=>t.elim|_::_,[],t=>t.elim
section
variable {prog:a6}{w:World}{A:a_}{E:Value->aq->Prop}{s:aq}
theorem Wv{C:Bool->aq->Prop}(i:xh s.heap v x)(j:xh s.heap u y)(g:(x==y)=bi)(H:C (bC x y) s):wpAny 'h' A (keyLt' (tuples' be) v u) C E s:=by
 refine b_ i λa o xs c=>fS c λn t d I Q J e=>?_;clear i c;subst d;refine b_ j λb p ys c=>fS c λm r d L T M f=>?_;clear j c;subst d;refine PySem.W.kat_lt I J L M ?_;obtain⟨B,N⟩:∃B,xs.toList=.str x t::B:=by rw[<-sQ]at e;cases q:xs.toList with|nil=>rw[q]at e;injection e|cons z h=>rw[q]at e;(obtain rfl:=ao e);exact⟨h,W⟩
 obtain⟨G,O⟩:∃G,ys.toList=.str y r::G:=by rw[<-sQ]at f;cases q:ys.toList with|nil=>rw[q]at f;injection f|cons z h=>rw[q]at f;(obtain rfl:=ao f);exact⟨h,W⟩
 rw[N,O];refine PySem.W.kat_cons (eqBool_str ?_);rw[g];exact PySem.W.kat_no (oneLt_str H)
end
noncomputable def Ih:D->Option Str|.tup (.str x::_)=>Z x|_=>am
def ph:List D->Option (List Str)|[]=>Z []|d::ds=>(Ih d).bind λx=>(ph ds).bind λxs=>Z (x::xs)
def jI(ks:List Str):Nat->Nat->Bool:=λi j=>bC (ks.getD i "") (ks.getD j "")
def kQ:List D->Option D:=k1 λd=>match d with|.lst ds=>(ph ds).bind λks=>if ds.length<=3/\ks.Nodup then Z (.lst (iq .aC (jI ks) ds))else am|_=>am
section
variable {X:Cx}{zK:List (Addr × Obj)}{σ:St}{H:Hp}{s:aq}
theorem uA(I:Inv X zK σ H s):∀{ds:List D}{b:List Value}{ks:List Str},aG X.K H vs ds->Vals vs b->ph ds=Z ks->iP s.heap b ks:=by induction vs with|nil=>intro ds b ks r q h;cases r;cases q;(obtain rfl:=ao h);trivial|cons v vs d=>intro ds b ks r q h;cases r with|cons r t=>cases q with|cons q u=>
    refine bS h λx c h=>?_;refine bS h λxs e h=>?_
    (obtain rfl:=ao h);refine⟨?_,d t u e⟩;cases r with
    |@tup a ws es f g=>cases g with
     |nil=>injection c|cons i A=>cases i with
      |str y B=> (obtain rfl:=ao c);cases q;obtain⟨b,j,⟨o,m,p,n,w⟩,_⟩:=I.tuple f;cases j with|cons z C=>obtain⟨t',rfl⟩:=z;exact⟨a,o,_,n,_,W,m,p,w,by simp;rfl⟩
      |_=>injection c
    |_=>injection c
theorem Ii{K:av}{vs:List V}{ds:List D}(r:aG K H vs ds):∀{is:List Nat},(∀i∈is,i<ds.length)->aG K H (is.map λi=>vs.getD i .aC) (is.map λi=>ds.getD i .aC)|[],_=>.nil|i::is,h=>by have a:=h i bE;obtain⟨v,b,c⟩:=r.get (cy a);refine .cons ?_ (Ii r λj d=>h j (cx _ d));show Rep K H (vs.getD i .aC) (ds.getD i .aC);rw[ma,ma,b,cy a];exact c
end
noncomputable def nU(n:Nat):qH (Array Nat)->Bool|.ret p=>p.toList.all λi=>decide (i<n)|.ask _ _ k=>nU n (k be)&&nU n (k bi)
theorem Ij{n:Nat}{lt:Nat->Nat->Bool}:∀(t:qH (Array Nat)),nU n t=be->∀i∈(ji lt t).toList,i<n
 |.ret p,h,i,c=>by have:=g7.mp h i c;simpa using this|.ask a b k,h,i,c=>by
  simp only[nU,cJ]at h;have d:nU n (k (lt a b))=be:=by cases lt a b;exact h.2;exact h.1
  exact Ij (k (lt a b)) d i c
theorem Ww:nU 2 (jU 2)=be:=by decide+kernel
theorem Wx:nU 3 (jU 3)=be:=by decide+kernel
theorem Wy{n:Nat}(a:¬n<2)(b:n<=3):nU n (jU n)=be:=by
 have:n=2\/n=3:=by lia
 rcases this with e|e;·rw[e];exact Ww
 ·rw[e];exact Wx
noncomputable def rG(n:Nat):qH (Array Nat)->Bool|.ret p=>decide (p.toList.length<=n)|.ask _ _ k=>rG n (k be)&&rG n (k bi)
theorem Ik{n:Nat}{lt:Nat->Nat->Bool}:∀{t:qH (Array Nat)},rG n t=be->(ji lt t).toList.length<=n
 |.ret p,h=>of_decide_eq_true h|.ask a b k,h=>by
  simp only[rG,cJ]at h;have c:rG n (k (lt a b))=be:=by cases lt a b;exact h.2;exact h.1
  exact Ik (t:=k (lt a b)) c
theorem Wz{n:Nat}(a:¬n<2)(b:n<=3):rG 3 (jU n)=be:=by
 have:n=2\/n=3:=by grind
 rcases this with e|e;·rw[e];decide+kernel
 ·rw[e];decide+kernel
theorem Il:∀{vs:List V}{a:List Value},Vals vs a->∀{is:List Nat},(∀i∈is,i<vs.length)->Vals (is.map λi=>vs.getD i .aC) (is.map λi=>a.getD i dC)|vs,a,r,[],_=>.nil|vs,a,r,i::is,h=>by have b:=h i bE;obtain⟨u,c,d⟩:=r.get (cy b);refine .cons ?_ (Il r λj e=>h j (cx _ e));show L2.RelV (vs.getD i .aC) (a.getD i dC);rw[ma,ma,c,cy b];exact d
theorem WA{ks:List Str}(h:ks.Nodup)(b:i<ks.length)(c:j<ks.length)(a:i≠j):(ks.getD i ""==ks.getD j "")=bi:=by
 rw[ma,ma,cy b,cy c];refine beq_eq_false_iff_ne.mpr λe=>a ?_;have d:ks[i]=ks[j]:=e;have f:=List.pairwise_iff_getElem.mp (Ed.mp h);rcases Nat.lt_or_gt_of_ne a with q|q;·exact absurd d (f i j b c q)
 ·exact absurd d.symm (f j i c b q)
section
variable {X:Cx}
theorem WB:JC X (.builtin "sorted") kQ:=⟨rl λ{zK}{s}{σ}{H}{x}{u}{Q}{dx}{d} I L r e q=>by
 cases r with|@lst a vs ds h f=>
  cases L;refine bS (show(ph ds).bind (λks=>if ds.length<=3/\ks.Nodup then Z (D.lst (iq .aC (jI ks) ds))else am)=Z d from e) λks M m=>?_;split at m;case isFalse=>injection m
  rename_i N
  (obtain rfl:=ao m);obtain⟨E,w⟩:=N;have G:=f.length;obtain⟨c,g,p⟩:=Inv.jE I h;have y:c.length=vs.length:=g.length.symm;have T:=uA I f g M;have O:=T.len;refine Wu (lt:=jI ks) p 'd' (λh' U b=>?_) ?_;·have z:=T.mono U;refine aM z.Ig λfs Y f2 f3=>?_;refine⟨tuples' be,λQ hQ=>PySem.W.kat_kind (T:=sG "str") Y 'd' (λv hv=>?_) (by exact W) hQ,λi j C A hj B hC=>Wv (z.get A) (z.get hj) (WA w 'd' 'd' B) hC⟩;obtain⟨x,t,rfl⟩:=f3 v hv;exact ZwF
  ·have both:Vals (iq V.aC (jI ks) vs) (iq dC (jI ks) c)/\aG X.K H (iq V.aC (jI ks) vs) (iq D.aC (jI ks) ds)/\(iq V.aC (jI ks) vs).length<=3:=by
    unfold iq;rw[y,G];by_cases b:ds.length<2;·rw[if_pos b,if_pos b,if_pos b];exact⟨g,f,by lia⟩
    ·rw[if_neg b,if_neg b,if_neg b];have J:=Ij (lt:=jI ks) _ (Wy b E);refine⟨Il g λi A=>by rw[G];exact J i A,Ii f J,?_⟩;rw[aE];exact Ik (Wz b E)
   obtain⟨b1,b2,b3⟩:=both;exact AF I (cv b3 (by exact kB ..)) b1 b2 q|_=>injection e⟩
end
section
variable {X:Cx}{x:Str}{pos:Pos}
theorem WC{f:Pos}{a:Scope}(i:Nat)(Q:X.N.Nodup)(M:JI X B iter fi)(E:∀C b c t,JG (cn X a u N' C b c t) B T/\JF (cn X a u N' C b c t) v U/\JE (cn X a u N' C b c t) w Y)(G:X.N[i]?=Z x)(hx:Loc X.env.scope x)(g:oG a X.env=pure u)(j:∀y∈a.names,y.2≠ .cell)(m:a.kind=.function)(d:∀y∈a.names,y.2=.local->a.names.lookup y.1=Z .local)(I:jb X.env.cells u)(z:jc u (kA a X.env).names)(A:gq X a N' cap)(hc:X.calm=be)(J:eY (.ListComp w [⟨B,iter,v,0⟩] a pos) (Z (.Name x pos')) f.line X.env=pure be)(hf:X.fn x=be\/X.env.scope.names.lookup x=Z .local):KS X (.Assign [.Name x pos'] (.ListComp w [⟨B,iter,v,0⟩] a pos) f) (cS i (lZ (eC cap fi T U Y))):=⟨cz (GO Q G hx hc M.h g j m d I z A (λC b c t=>by obtain⟨r,L,h3⟩:=E C b c t;exact⟨r.h,L.h,h3.h⟩) (pe M.s) J hf)<|by
  rintro Dn σ H ⟨ρ,O,o,R,e,q⟩;refine bS e λds r e=>?_;cases e;refine bS r λds' L r=>?_;split at r;case isFalse=>cases r
  rename_i hn;cases r;refine⟨fz ρ,ds,R.fz,L,λvs H1 p s1 hp r1=>?_⟩;have S:=SO.of R.ls s1;obtain⟨R',S'⟩:=(R.mono S).new i hp (aG.hide (R.mono S).ls r1 hn);exact q _ _ _ (S.same.trans S') R'⟩
def pk:List D->Option D:=k1 λd=>match d with|.int i=>Z (.int i)|.bl k=>Z (.int (if k then 1 else 0))|_=>am
theorem WD:JC X (.type "int") pk:=⟨Ac λ{H}{x}{Q}{a}{d} r e q=>by cases r with|int i=>(obtain rfl:=ao e);exact⟨_,E6,.inl ⟨i,W,q _ H (aw.refl H) (.int _)⟩⟩|bl k=>obtain rfl:=ao e;exact⟨_,E6,.inr ⟨k,W,q _ H (aw.refl H) (.int _)⟩⟩|_=>injection e⟩
end
end DL
namespace HT
open PySem PySem.Spec PyProof.Rows L2
end HT
namespace DL
open PySem PySem.Spec PyProof.Rows L2
noncomputable def lO(i:Nat)(a:ar):ar:=match a[i]? with|some (Z (.ow am ds))=>a.set i (Z (.ak (.lst ds)))|_=>a
def xj(i:Nat)(g:ar->Option aK):ar->Option aK:=λa=>g (lO i a)
theorem RO.Im{K:av}{H H2:Hp}{σ:St}{g:ar}{O:List Addr}(R:RO K H σ g O){i:Nat}{κ:Option (List Key)}{ds:List D}{a:Addr}(e:g[i]?=Z (Z (.ow κ ds)))(w:σ[i]?=Z (Z (.ref a)))(C:a∈O)(t:∀b,b≠a->H2 b=H b) (E:aw (az H O) (az H2 (O.filter λb=>decide (b≠a)))->Rep K (az H2 (O.filter λb=>decide (b≠a))) (.ref a) d):RO K H2 σ (g.set i (Z (.ak d))) (O.filter λb=>decide (b≠a))/\aw (az H O) (az H2 (O.filter λb=>decide (b≠a))):=by
 have y:i<g.length:=(bF.mp e).1;have sub:∀b,b∈O.filter (λb=>decide (b≠a))↔b∈O/\b≠a:=λb=>by simp[dt]
 have S:aw (az H O) (az H2 (O.filter λb=>decide (b≠a))):=λb o q=>by obtain⟨c,G⟩:=gU q;rw[cb λz=>c ((sub b).mp z).1,t b λz=>c (by rw[z];exact C)];exact G
 have old:∀(j:Nat)(x:SD),(g.set i (Z (.ak d)))[j]?=Z (Z x)->(j=i/\x=.ak d)\/(j≠i/\g[j]?=Z (Z x)):=λj x h=>by
  by_cases m:i=j;·subst m;rw[ij y]at h;cases h;exact .inl ⟨W,W⟩
  ·rw[dh m]at h;exact .inr ⟨b6 m,h⟩
 refine⟨⟨by rw[e_];exact R.len,λb c=>by rw[t b ((sub b).mp c).2];exact R.ls b ((sub b).mp c).1,λj d h=>?_,λj κ es h=>?_,λj k κ κ' es fs b f p I J=>?_,R.xt.of (λj κ es h=>?_) S λA L o=>⟨λb c=>have z:b≠a:=λz=>o i κ ds a e w (z▸c);⟨(sub b).mpr ⟨L b c,z⟩,t b z⟩,λj κ es b f p=>?_⟩⟩,S⟩;rotate_left 3
 ·rcases old j _ h with⟨_,q⟩|⟨_,h⟩;·injection q
  ·exact⟨h,W⟩
 ·rcases old j _ f with⟨_,q⟩|⟨_,f⟩;·injection q
  ·exact o j κ es b f p
 ·rcases old j _ h with⟨rfl,q⟩|⟨m,h⟩
  ·cases q;exact⟨.ref a,w,E S⟩
  ·obtain⟨v,u,B⟩:=R.ak j d h;exact⟨v,u,B.mono S⟩
 ·rcases old j _ h with⟨_,q⟩|⟨m,h⟩
  ·injection q
  ·refine fS (R.ow j κ es h) λb M u B N Q T=>?_;have r:b≠a:=λz=>by subst z;exact m (R.inj j i _ _ es ds b h e u w)
   exact⟨b,M,u,(sub b).mpr ⟨B,r⟩,by rw[t b r];exact N,Q.mono S,T⟩
 ·rcases old j _ f with⟨_,q⟩|⟨_,f⟩
  ·injection q
  ·rcases old k _ p with⟨_,q⟩|⟨_,p⟩
   ·injection q
   ·exact R.inj j k _ _ es fs b f p I J
theorem RO.drop{K:av}{H:Hp}{σ:St}{b:ar}{O:List Addr}(R:RO K H σ b O)(i:Nat):∃f,RO K H σ (lO i b) f/\aw (az H O) (az H f):=by cases d:h7 i b with
  | none=>
    have e:lO i b=b:=by
      unfold lO;unfold h7 at d;split at d;·injection d
      ·rename_i h;first
         | rfl
         | (split;·rename_i ds g;exact absurd g (h ds)
            ·rfl)
    rw[e];exact⟨O,R,aw.refl _⟩| some ds=>
    have c:=pg d;have e:lO i b=b.set i (Z (.ak (.lst ds))):=by unfold lO;rw[c]
    rw[e];refine cE (R.own i ds c) λa vs j m p q=>?_;exact⟨_,R.Im c j m (λ_ _=>rfl) λS=>.lst (.inl (by rw[cb λz=>by simp at z];exact p)) (q.mono S)⟩
theorem WE(i:Nat)(h:KB X eW g):KB X eW (xj i g):=⟨jD h.h<|by rintro d σ H ⟨a,O,o,R,e,q⟩;exact by obtain⟨b,c,S⟩:=R.drop i;exact⟨lO i a,b,o,c,e,q.mono S⟩⟩
section
noncomputable def intsOf:List D->Option (List Int)|[]=>Z []|d::r=>match d with|.int i=>(intsOf r).map (i:: ·)|_=>am
theorem uB:∀{ds:List D}{ns:List Int},intsOf ds=Z ns->ds=ns.map D.int:=by intro ds;induction ds with|nil=>intro ns h;(obtain rfl:=ao h);rfl|cons d r c=>intro ns h;cases d with|int i=>obtain⟨m,g,j⟩:=bu.mp (show(intsOf r).map (i:: ·)=Z ns from h);subst j;rw[c g];rfl|_=>injection h
theorem tJ{K:av}{H:Hp}(ns:List Int):∀{vs:List V}{c:List Value},aG K H vs (ns.map D.int)->Vals vs c->sR c ns:=by induction ns with|nil=>intro vs c r q;cases r;cases q;exact .nil|cons n m d=>intro vs c r q;cases r with|cons g t=>cases g;cases q with|cons h i=>obtain⟨tk,rfl⟩:=h;exact .cons n tk (d t i)
end
end DL
namespace HT
open PySem PySem.Spec PyProof.Rows L2
end HT
namespace DL
open PySem PySem.Spec PyProof.Rows L2
section
noncomputable def rH:List D->List D->List D|x::xs,y::ys=>.tup [x,y]::rH xs ys|_,_=>[]
theorem WG{K:av}{H:Hp}{J:It}{ds:List D}(h:nT K J H [] ds):Wk K J H ds:=λH' s=>by obtain⟨f,j⟩:=h H' [] (by rw[gT,gT];exact s) (λa m=>by cases m);refine⟨λi d q=>?_,j⟩;obtain⟨g,y⟩:=f i d q;refine⟨g,λx c t=>?_⟩;obtain⟨S,r⟩:=y x c t;have e:=S.same;rw[gT,gT]at e;rw[gT]at r;exact⟨e,r⟩
end
section
noncomputable instance(i j:Int):Decidable (E1 i j):=by unfold E1;infer_instance
end
section
variable {X:Cx}{e:Expr}{pos:Pos}{fo:ar->Option D}{f:ag->Option D}{x:Str}
noncomputable def xm(i:Nat)(a:ar):Option D:=match a[i]? with|some (Z (.ak d))=>Z d|_=>am
theorem WH(h:xm i a=Z d):a[i]?=Z (Z (.ak d)):=by
 unfold xm at h;split at h;·rename_i q;(obtain rfl:=ao h);exact q
 ·injection h
def xo(i:Nat)(f:ar->Option D):ar->Option aK:=λc=>(xm i c).bind λa=>(f c).bind λb=>match a,b with|.int u,.int v=>Z (.aF (c.set i (Z (.ak (.int (u+v))))))|_,_=>am
theorem WI(i:Nat)(d:X.N.Nodup)(h:eL X e fo)(g:X.N[i]?=Z x)(j:Loc X.env.scope x)(hf:X.fn x=be\/X.env.scope.names.lookup x=Z .local):KS X (.AugAssign (.Name x pos') .Add e pos) (xo i fo):=⟨cz (Pr d g j h.h Pu hf)<|by rintro C σ H ⟨m,O,o,R,c,q⟩;refine bS c λa p c=>?_;refine bS c λb r c=>?_;obtain⟨v,t,z⟩:=R.ak i a (WH p);cases a with
  |int u=>cases b with
   |int w=>
    (obtain rfl:=ao c);cases z;refine⟨.int u,t,m,O,.int w,R,r,λy A S B=>?_⟩;cases B;exact⟨u,w,W,W,q _ A O S.same ((R.mono S).set i (.int _))⟩|_=>injection c
  |_=>first|cases c|(cases b<;>cases c)⟩
end
section
variable {X:Cx}{c:Expr}{body:List Stmt}{pos:Pos}{t:ag->Option Bool}{g:ar->Option aK}
def eE(t:ag->Option Bool)(g:ar->Option aK):Nat->ar->Option aK|0,_=>am|n+1,a=>(t (fz a)).bind λb=>if b=be then(g a).bind λo=>match o with|.aF ρ'=>eE t g n ρ'|.cnt ρ'=>eE t g n ρ'|.brk ρ'=>Z (.aF ρ')|.ret d=>Z (.ret d) else Z (.aF a)
theorem WJ(N:Nat)(I:JT X c t)(J:KB X body g)(L:PassesOwn 'b' X.A X.env X.xe:=by exact Zva):KS X (.While c body [] pos) (eE t g N):=⟨cz (Px L I.h J.h)<|by rintro M σ H ⟨Q,O,o,R,T,q⟩;refine⟨λm f H'=>∃ρ' i,RO X.K H' f ρ' i/\aw (az H O) (az H' i)/\eE t g m ρ'=Z o,⟨N,Q,O,R,aw.refl _,T⟩,?_⟩;rintro m f H' ⟨ρ',i,z,E,a⟩;cases m with
  |zero=>injection a|succ m=>refine bS a λb U a=>?_;refine⟨fz ρ',b,z.fz,U,λB Y=>?_⟩;have S:=SO.of z.ls Y;have C:nS X.K M B i o:=q.mono (E.trans S.same);cases b with
   |true=>rw[if_pos W]at a;dsimp only;rw[if_pos W];refine bS a λG h2 a=>?_;refine⟨λu H2=>∃e O2,RO X.K H2 u e O2/\aw (az B i) (az H2 O2)/\eE t g m e=Z o,by rintro u H2 ⟨e,O2,R2,S2,e2⟩;exact⟨m,sW m,e,O2,R2,E.trans (S.same.trans S2),e2⟩,ρ',i,G,z.mono S,h2,?_⟩;cases G with
    |aF e=>exactλj x y p r=>⟨e,y,r,p,a⟩|cnt e=>exactλj x y p r=>⟨e,y,r,p,a⟩|brk e=>(obtain rfl:=ao a);exactλj x y p r=>C j x y p r|ret d=>(obtain rfl:=ao a);exactλv x p r=>C v x p r
   |false=>
    rw[if_neg ei]at a;dsimp only;rw[if_neg ei]
    (obtain rfl:=ao a);exact C f B i (aw.refl _) (z.mono S)⟩
end
theorem WK{h:Heap}(x:dG P w H h a o):∃u,h.get? a=Z u:=by cases o with|lst xs=>refine bc x λ_ b=>b8 b λ_ _ _ e=>?_;clear x b;exact⟨_,e⟩|tup xs=>refine bc x λ_ b=>a9 b λ_ _ c=>a9 c λ_ e _=>?_;clear x b c;exact⟨_,e⟩|dK kvs=>refine bG x λ_ _ b=>a9 b λ_ _ c=>jy c λo _ _ e _=>?_;clear x b c;exact⟨_,e⟩|dT kvs=>refine bG x λ_ _ b=>a9 b λ_ _ c=>jy c λo _ _ e _=>?_;clear x b c;exact⟨_,e⟩|set S n=>refine b_ x λo _ _ b=>a9 b λ_ e _=>?_;clear x b;exact⟨_,e⟩|ins C d fs=>refine jx x λ_ _ _ e _=>?_;clear x;exact⟨_,e⟩|own y=>obtain⟨_,e⟩:=x;exact⟨_,e⟩|xd fs=>obtain⟨_,⟨_,_,_,e,_⟩,_⟩:=x;exact⟨_,e⟩|nt lo g=>refine b_ x λ_ _ _ e=>?_;clear x;exact⟨_,e⟩|da i u=>obtain⟨e,_⟩:=x;exact⟨_,e⟩|nu ps=>exact⟨_,(show h.get? a=Z _ from x)⟩|met f y=>exact⟨_,(show h.get? a=Z _ from x)⟩|ext j=>obtain⟨_,⟨_,e⟩,_⟩:=x;exact⟨_,e⟩
structure A9(P:a6)(w:World)(outer:List Env)(H:Hp)(s:aq)(a C t:Addr)(B:Heap)(H':Hp)(s':aq):Prop where
 Io:Oe B outer a (.ref C) (.ref t) s'.heap
 os:s'.os=s.os
 bare:mZ s'.gens
 un:Un (cN outer) [] H H' s.heap s'.heap
 aR:c5 P w H' s'.heap
 old:∀b o,s.heap.get? b=Z o->H b=am->b∉cN outer->B.get? b=Z o
 qP:∀b u,H' b=Z u->∃o,B.get? b=Z o
 WL:∀b o,s.heap.get? b=Z o->b∉cN outer->∃o',B.get? b=Z o'
noncomputable def gw(P:a6)(w:World):iJ:=λb H s E e c=>∃a C t B H',e=.ref a/\A9 P w b H s a C t B H' c/\E (.ref C) (Z a) H'
section
variable {P:a6}{w:World}{K:av}{mg:Str->Option Value}{base:Heap}{N:List Str}{qual:Str}{scope:Scope}{f:Addr}{cd:Value}{A:a_}{outer:List Env}{s:aq}{H:Hp}{E:XK}
 {zK:List (Addr × Obj)} {σ:St} {H1:Hp} {s1:aq}
theorem Ip{a:Env}(h:a.frame=Z L):cN (a::l)=L::cN l:=by unfold cN;rw[yT,h]
theorem WM(CX:iJ)(I:Inv (dA CX P w K mg base N qual scope f cd A outer s H E) zK σ H1 s1)(e:s.heap.get? b=Z o)(n:H b=am)(a:b∉cN outer):s1.heap.get? b=Z o/\H1 b=am/\b∉cN (dA CX P w K mg base N qual scope f cd A outer s H E).stack:=by
 refine⟨I.base.keep b o e n a (by exactλz=>nomatch z),I.base.free b o e n (by exactλz=>nomatch z),λz=>?_⟩;have z':b∈s.heap.objs.size::cN outer:=z;rcases a7.mp z' with z'|z';·exact absurd (bz e) (by rw[z'];exact js _)
 ·exact a z'
theorem WN(I:Inv (dA CX P w K mg base N qual scope f cd A outer s H E) zK σ H1 s1)(e:s.heap.get? b=Z o)(a:b∉cN outer):b∉cN (dA CX P w K mg base N qual scope f cd A outer s H E).stack:=λz=>by
 have z':b∈s.heap.objs.size::cN outer:=z;rcases a7.mp z' with z'|z';·exact absurd (bz e) (by rw[z'];exact js _)
 ·exact a z'
theorem WO(I:Inv 'j' zK σ H1 s1)(M:Zvb s1.heap h' a (.ref C) args)(hE:E (.ref C) (Z a) H1):'j'.xe (.ref a) {s1 with heap:=h'}:=by
 have Y:=I.stack;have SF:=I.vY;have FR:=I.ok.frames;have FO:=I.iI;have O:∀m∈'j'.stack,∀b,m.frame=Z b->b∈cN 'j'.stack:=λm he b d=>qk.mpr ⟨m,he,d⟩;have x:∀b o,s1.heap.get? b=Z o->b∉cN 'j'.stack->(C8 s1.heap (cN 'j'.stack)).get? b=Z o:=λb o e d=>ZtD _ e d;show wpAny (model P w) (A.deeper (g6 qual scope s.heap.objs.size f cd)) (leaving (g6 qual scope s.heap.objs.size f cd) (.ref a)) (λ_ Q=>gw P w outer H s E (.ref a) Q) _ _;refine wpAny_leaves_madeW (base:=C8 s1.heap (cN 'j'.stack)) (h:=s1.heap) FR W (λb o e=>ZtE _ e) (PySem.W.funFrames_hide Y O) M λh2 t j Zv4 hbt y=>?_;have old:∀b o,s.heap.get? b=Z o->H b=am->b∉cN outer->(C8 s1.heap (cN 'j'.stack)).get? b=Z o:=λb o e n d=>let ⟨g,_,B⟩:=WM _ I e n d
  x b o g B;have G:∀b o,s.heap.get? b=Z o->H b=am->b∈cN outer->∃sl,h2.get? b=Z {o with slots:=sl}:=λb o e n d=>by
  obtain⟨sl,g⟩:=I.base.slot b o e n d (by exactλz=>nomatch z);refine bc (FO.mem d) λ_ i=>a9 i λp J T=>?_;clear i;rw[g]at J
  (obtain rfl:=ao J);obtain⟨L,B⟩:=y b _ (M.keeps _ _ g) T;exact⟨L,B⟩
 have U:∀b u,H1 b=Z u->b∉cN 'j'.stack:=λb u e z=>by rw[SF b z]at e;injection e
 refine⟨a,C,t,_,H1,W,⟨j,I.os,I.bare,⟨λb o e n d _=>j.1 b o (old b o e n d),λb o e n d _=>G b o e n d,λb o e n _=>I.base.free b o e n (by exactλz=>nomatch z),λb o e _=>?_,I.base.jV,I.base.hD,I.base.jB⟩,λb u e=>?_,old,λb u e=>?_,λb o e d=>?_⟩,hE⟩
 ·obtain⟨p,g⟩:=I.base.there b o e (by exactλz=>nomatch z);by_cases d:b∈cN 'j'.stack
  ·refine bc (Y.mem d) λ_ i=>a9 i λo2 J T=>?_;clear i;rw[g]at J
   (obtain rfl:=ao J);obtain⟨L,B⟩:=y b _ (M.keeps _ _ g) T;exact⟨_,B⟩
  ·exact⟨p,j.1 b p (x b p g d)⟩
 ·refine(I.aR b u e).jA (λc v hc r=>?_) (λ_ q=>q) λ_ _ q=>q;refine j.1 c v (x c v r ?_);rcases hc with rfl|hc
  ·exact U _ _ e
  ·exact U _ _ hc
 ·obtain⟨o,g⟩:=WK (I.aR b u e);exact⟨o,x b o g (U b u e)⟩
 ·obtain⟨p,g⟩:=I.base.there b o e (by exactλz=>nomatch z);exact⟨p,x b p g (WN I e d)⟩
end
noncomputable abbrev kT:=Out ⊕ (Str×ag)
noncomputable abbrev DX:=D ⊕ Str
def WQ(K:av)(ad:Str->St->Hp->Prop)(b:Ends)(H:Hp):kT->Prop|.inl o=>wants K b H o|.inr c=>∀a H',aw H H'->bL K H' a c.2->ad c.1 a H'
noncomputable def tX(K:av)(ad:Str->St->Hp->Prop)(f:ag->Option DX):TE:=λσ H Q=>∃a o,bL K H σ a/\f a=Z o/\match o with|.inl d=>∀v H',aw H H'->Rep K H' v d->Q v H'|.inr c=>∀H',aw H H'->ad c σ H'
def Iq(K:av)(ad:Str->St->Hp->Prop)(g:ag->Option kT):TS:=λb σ H=>∃a o,bL K H σ a/\g a=Z o/\WQ K ad b H o
abbrev XE(X:Cx)(ad:Str->St->Hp->Prop)(e:Expr)(f:ag->Option DX):Prop:=PE X e (tX X.K ad f)
abbrev XS(X:Cx)(ad:Str->St->Hp->Prop)(st:Stmt)(g:ag->Option kT):Prop:=PS X st (Iq X.K ad g)
abbrev Ir(X:Cx)(ad:Str->St->Hp->Prop)(st:List Stmt)(g:ag->Option kT):Prop:=fU X st (Iq X.K ad g)
structure xp(X:Cx)(ad:Str->St->Hp->Prop):Prop where
 pass:∀(zK:List (Addr×Obj))(σ:St)(H:Hp)(s:aq)(e:Value)(s':aq)(E':XK),Inv X zK σ H s->gw X.prog X.w X.stack H s E' e s'->(∀Cv a H',E' Cv a H'->∃c C,Cv=.ref C/\X.mg c=Z (.ref C)/\ad c σ H')->X.xe e s'
 own:PassesOwn 'b' X.A X.env X.xe
structure uC(X:Cx)(ad:Str->St->Hp->Prop):Prop where made:∀(zK:List (Addr×Obj))(σ:St)(H:Hp)(s:aq)(h':Heap)(a C:Addr)(c:Str)(args:List Value),Inv X zK σ H s->Zvb s.heap h' a (.ref C) args->X.mg c=Z (.ref C)->ad c σ H->X.xe (.ref a) {s with heap:=h'}
noncomputable def xq(b:Str->Option Value)(E:XK):Str->St->Hp->Prop:=λc _ H'=>∀C a,b c=Z (.ref C)->E (.ref C) a H'
theorem WR{P:a6}{w:World}{K:av}{g:Str->Option Value}{base:Heap}{N:List Str}{e:Str}{b:Scope}{f:Addr}{h:Value}{A:a_}{d:List Env}{s:aq}{H:Hp}{E:XK}:uC (dA (gw P w) P w K g base N e b f h A d s H E) (xq g E) where made:=λzK σ m p h' a C c args I i j hw=>WO I i (hw C (Z a) j)
section
variable {X:Cx}{ad:Str->St->Hp->Prop}{e c:Expr}{pos p:Pos}{f:ag->Option D}{g u:ag->Option kT}{fs:ag->Option (List D)}
def rJ(K:av)(a:Str->Option Value)(F:List D->Option DX):Sp:=λvs H Q E=>∃ds o,aG K H vs ds/\F ds=Z o/\match o with|.inl d=>∀v H',aw H H'->Rep K H' v d->Q v H'|.inr c=>∀σ H',aw H H'->xq a E c σ H'
structure Iu(P:a6)(w:World)(K:av)(mg:Str->Option Value)(base:Heap)(k:Nat)(x:Str)(F:List D->Option DX):Prop where ex:∃(f:Addr)(fd:dF)(ps:List Str),mg x=Z (.ref f)/\m3 K (.ref f)=be/\jC K fd ps []/\dm P w K mg base (gw P w) k f fd ps (rJ K mg F)
noncomputable def pq(F:List D->Option DX)(g:ag->Option (List D)):ag->Option DX:=λa=>(g a).bind F
theorem WU{CX:iJ}{k:Nat}{f:Addr}{j:dF}{ps:List Str}{sp:Sp}{E:XK}{zK:List (Addr×Obj)}{σ:St}{H:Hp}{s:aq}{Q:VK}{a:List Value}{vs:List V}(F:dm X.prog X.w X.K X.mg X.base CX k f j ps sp)(q:bI k X.A)(v:jC X.K j ps []) (I:Inv X zK σ H s) (r:Vals vs a) (h:sp vs H Q E) (x:∀e b,CX X.stack H s E e b->X.xe e b):wpAny 'b' X.A (call (.ref f) a) (EP X zK σ Q) X.xe s:=by
 have y:(a++[]).length=ps.length:=by rw[eZ,<-r.length];exact F.len _ _ _ _ h
 have m:=v s a I.gh y;rw[eZ]at m;refine yX (oE (F.run X.A X.stack s H ⟨a,[]⟩ a vs Q E q I.E8 m r h) λd b i=>?_);rcases d with e|(_|_|_|u);·exact x e b i
 all_goals first|exact I.after i|exact dD i
theorem WV{k:Nat}{F:List D->Option DX}(N:xp X ad)(C:Iu X.prog X.w X.K X.mg X.base k x F)(O:bI k X.A)(T:Gl X x)(U:lG X (e::es) fs)(m:'f'=bi:=by decide) (Y:a4 (e::es) X.env=(bi,eval e X.env)::a4 es X.env:=by rfl) (y:(ef pos (a4 es X.env)).any (·.1)=bi:=by rfl):XE X ad (.Call (.Name x p) (e::es) [] pos) (pq F fs):=by refine dj C.ex λf fd ps hm hk b=>bc b λhb hF=>?_;clear b;intro zK s σ H Q I ⟨ρ,o,R,B,q⟩;refine bS B λds h1 B=>?_;refine wpAny_Call_Name_kw (qS I T hm ?_ m);refine Nx (h₀:=X.base) I.ok.mod.qQ hk (aT (U pos zK s σ H (λvs i=>aw H i/\aG X.K i vs ds) I ⟨ρ,ds,R,h1,λvs i G J=>⟨G,J⟩⟩) λus G ⟨vs,i,L,r,j,J⟩=>⟨L.gh,?_⟩) Y y;refine WU (E:=λCv a H'=>∃c C,Cv=.ref C/\X.mg c=Z (.ref C)/\ad c σ H') hF O hb L r ⟨ds,o,J,B,?_⟩ λe' s' h=>N.pass zK σ i G e' s' _ L h λ_ _ _ z=>z;cases o with|inl d=>exactλv H' M r2=>q v H' (j.trans M) r2|inr c=>exactλ_ H' M C a hc=>⟨c,C,W,hc,q H' (j.trans M)⟩
noncomputable def A_(i:Nat)(f:ag->Option DX):ag->Option kT:=λa=>(f a).bind λo=>match o with|.inl d=>Z (.inl (.aF (a.set i (Z d))))|.inr c=>Z (.inr (c,a))
end
structure Ba(mg:Str->Option Value)(base:Heap)(c:Str):Prop where ex:∃(C:Addr)(bm Iv:List Value)(newId B Bn Iw WW Iy:String),OwnCls c C bm newId mg base/\ExcBaseFacts Bn newId Iy Iv/\bm.contains (.type Bn)=be/\ExcBaseFacts B Iw WW bm
section
variable {X:Cx}{ad:Str->St->Hp->Prop}{xr:Expr}{rest:List Expr}{c:Str}{np cpos pos:Pos}{fs:ag->Option (List D)}
noncomputable def rK(c:Str)(fs:ag->Option (List D)):ag->Option kT:=λa=>(fs a).bind λ_=>Z (.inr (c,a))
theorem WX(M:uC X ad)(Q:X.calm=be)(U:Ba X.mg X.base c)(Y:Gl X c)(ha:lG X (xr::rest) fs)(hl:∀j ds,fs j=Z ds->ds.length<=1000)(u:(c==("__debug__":Str))=bi:=by decide) (G:a4 (xr::rest) X.env=(bi,eval xr X.env)::a4 rest X.env:=by rfl) (v:(ef cpos (a4 rest X.env)).any (·.1)=bi:=by rfl):XS X ad (.Raise (Z (.Call (.Name c np) (xr::rest) [] cpos)) am pos) (rK c fs):=by
 intro zK s σ H Dn I ⟨j,o,R,w,q⟩;refine bS w λds J w=>?_
 (obtain rfl:=ao w);refine b_ U.ex λC bm Iv a=>b_ a λx B Bn b=>dj b λIw m Iy O Fn d=>bc d λz FB=>?_;clear a b d;refine b_ O.obj λtl N nm a=>b_ a λqq bs hdct b=>b_ b λsn sub ab d=>b_ d λcol dd k0 g=>b_ g λk1 k2 k3 i=>cE i λk5 mN hC hN A T=>?_;clear a b d g i;refine wpAny_Raise_call_subU (C:=C) (nm:=nm) (q:=qq) (N:=N) (bs:=bs) (bm:=tl) (hdct:=hdct) (sn:=sn) (sub:=sub) (ab:=ab) (col:=col) (dd:=dd) (k0:=k0) (k1:=k1) (k2:=k2) (k3:=k3) (k5:=k5) Fn z FB (mN:=mN) (T.hasType FB.hasBase) (I.ok.hd Q) (by rw[G];show(bi||(ef cpos (a4 rest X.env)).any (·.1))=bi;rw[v];rfl) A (qS I Y O.bound ⟨W,?_⟩ u);have h:=ha cpos zK s σ H (λvs f=>aw H f/\aG X.K f vs ds) I ⟨j,ds,R,J,λvs f p E=>⟨p,E⟩⟩;rw[G]at h⊢;refine ZtW (i5 h (λL s2 zZ=>?_) λ_ _ y=>y);obtain⟨vs,f,t,r,p,E⟩:=zZ;refine⟨W,?_,t.bk _ _ hC,hN.keeps t.bk,T.keeps t.bk,λh' e hm=>M.made zK σ f s2 h' e C c L t hm O.bound (q σ f p (R.mono p))⟩;show L.length<=aD;rw[<-r.length,E.length];exact du (FE (hl j ds J))
end
theorem Iz{X:Cx}{i:aq}(I:Inv X zK σ H s)(F:A9 X.prog X.w X.stack H s a C t B H2 i)(f:Oe B X.stack a (.ref C) (.ref t) j)(E:i.heap.UpToSlots j):Inv X zK σ H2 {i with heap:=j}:=by
 have T:=I.stack;have h:∀b o,s.heap.get? b=Z o->H b=am->b∈cN X.stack->∃O,j.get? b=Z {o with slots:=O}:=λb o e n m=>by
  refine bc (T.mem m) λ_ p=>a9 p λG Q U=>?_;clear p;rw[e]at Q
  (obtain rfl:=ao Q);obtain⟨s1,y⟩:=F.un.slot b _ e n m (by exactλz=>nomatch z);obtain⟨i,A⟩:=E b _ y U;exact⟨i,A⟩
 have un:Un (cN X.stack) [] H H2 s.heap j:=by
  refine⟨λb o e n m _=>f.1 b o (F.old b o e n m),λb o e n m _=>h b o e n m,F.un.free,λb o e _=>?_,F.un.jV,F.un.hD,F.un.jB⟩;by_cases hf:b∈cN X.stack;·obtain⟨O,L⟩:=h b o e (I.vY b hf) hf;exact⟨_,L⟩
  ·obtain⟨G,L⟩:=F.WL b o e hf;exact⟨G,f.1 b G L⟩
 have M:c5 X.prog X.w H2 j:=λb u e=>by
  refine(F.aR b u e).jA (λc v hc r=>?_) (λ_ q=>q) λ_ _ q=>q;have:∃u,H2 c=Z u:=by
   rcases hc with rfl|hc;·exact⟨_,e⟩
   ·exact⟨_,hc⟩
  obtain⟨Y,hu⟩:=this;obtain⟨o3,y⟩:=F.qP c Y hu;have A:=F.Io.1 c o3 y;rw[r]at A
  (obtain rfl:=ao A);exact f.1 c _ y
 have x:=F.bare;have os:=F.os;obtain⟨hh,g,d,tk,N⟩:=i;obtain rfl:N=s.os:=os;have J:=Inv.call (h':=j) (g':=g) (d':=d) (t':=tk) (ch:=[]) I un M x (λb z=>absurd z 'k');exact J
theorem WY{X:Cx}{g:aq}(I:Inv X zK σ H s)(b:X.stack=X.env::X.outer)(h:X.env.frame=Z X.env.locals)(F:A9 X.prog X.w X.stack H s a C t B H2 g)(k:∀d,Oe B X.stack a (.ref C) (.ref t) d->g.heap.UpToSlots d->Q () {g with heap:=d}):wpAny 'b' X.A (noteFrame (.ref a) X.env) (λ_ e=>wpAny 'b' X.A (setFlight (.ref a) am) Q E e) E g:=by have m:=I.ok.frames;have fl:=F.Io;rw[b]at m fl;refine wpAny_looks_onW (base:=B) m h fl λp c i=>?_;exact wpAny_landsW c λd f j=>k d (by rw[b];exact f) (i.trans j)
theorem xu{X:Cx}{σ:St}(I:Inv X zK σ H s)(O:X.N.Nodup)(G:X.N[i]?=Z x)(T:X.env.kindOf x=Z .local)(h:∀J,Inv X zK (σ.set i am) H J->Q () J):wpAny M A (do bindName X.env x .none;unbindBehindTheSuite X.env x pos) Q E s:=by
 obtain⟨m,hn,U⟩:=id I.loc;have r:(X.env.scope.kind== .class||(X.env.scope.kind== .module&&X.env.locals != X.env.globals))=bi:=by rw[I.ok.kind];rfl
 have t:i<σ.length:=by rw[I.len];exact(bF.mp G).1
 refine wpAny_nameGoes_keeps T hn r λh' v w a=>h _ ?_;refine jy (id hn) λoL _ _ Y _=>?_;have lt:∀b o,X.dH.heap.get? b=Z o->b≠X.env.locals:=λb o e=>b5 (iE (bz e) I.ok.above);refine⟨I.ok,I.os,I.bare,⟨λb o e n B u=>?_,λb o e n B u=>?_,I.base.free,λb o e u=>?_,I.base.jV,I.base.hD,I.base.jB⟩,⟨_,w,λj y v' f g e3=>?_⟩,λy c e=>?_,I.free,I.fT,λp hp=>?_,λb ob e=>?_,by simpa using I.len⟩;·exact(a.2 b (lt b o e)).trans (I.base.keep b o e n B u)
 ·obtain⟨sl,f⟩:=I.base.slot b o e n B u;exact⟨sl,(a.2 b (lt b o e)).trans f⟩
 ·obtain⟨o',f⟩:=I.base.there b o e u;exact⟨o',(a.2 b (lt b o e)).trans f⟩
 ·by_cases C:j=i
  ·subst C;rw[ij t]at g
   (injection g with g;injection g)
  ·rw[dh (b6 C)]at g;obtain⟨u',r',q⟩:=U j y v' f g e3;refine⟨u',r',?_⟩;rcases q with⟨k,e⟩|⟨k,c,e,z⟩;·refine .inl ⟨k,?_⟩;have:y≠x:=λe=>C (zu O f (e▸G));simp[this,e]
   ·exact .inr ⟨k,c,e,z.sameBut a (I.mi y c e)⟩
 ·obtain⟨v,z⟩:=I.cell y c e;exact⟨v,z.sameBut a (I.mi y c e)⟩
 ·refine jx (I.pin p hp) λe n L nf d=>?_;exact⟨(a.2 p.1 L).trans e,n,L,nf,d⟩
 ·refine(I.aR b ob e).jA (λc w' hc q=>(a.2 c ?_).trans q) (λ_ q=>q) λ_ _ q=>q;rintro rfl;rcases hc with rfl|hc
  ·rw[I.free]at e;injection e
  ·rw[I.free]at hc;injection hc
end DL
namespace DL
open PySem PySem.Spec PySem.Calls PyProof.Rows L2 PySem.W PySem.Builtin PySem.Builtin.ObjectAttr PySem.Builtin.Getset_descriptor
structure jj(K:av)(D:Addr):Prop where
 ga:vN K (.ref D) "__getattribute__"=Z (Z (.builtin "BaseException.__getattribute__"))
 gr:vN K (.ref D) "__getattr__"=Z am
 ca:vN K (.ref D) "__class__"=Z (Z (.builtin "object.__class__"))
 get:specialIn K (.builtin "object.__class__") "__get__"=Z (Z (.builtin "getset_descriptor.__get__"))
 WZ:takesIn K (.builtin "object.__class__")=Z be
 obj:mroIn K D (.type "object")=Z be
 Bb:mroIn K D (.type "BaseException")=Z be
theorem jj.cls{K:av}{D:Addr}(ac:jj K D):(clsIn K D).isSome=be:=by obtain⟨a,h,_⟩:=DP.mp ac.obj;rw[h];rfl
def lP(h:Heap)(x D:Addr):Prop:=∃o,h.get? x=Z o/\o.cls=.ref D
theorem lP.type{D:Addr}(I:lP h x D):Looks M h (typeOf (.ref x)) (.ref D):=by obtain⟨o,a,b⟩:=I;exact b▸(Looks.ld a).andThen .now
section
variable {prog:a6}{w:World}{A:a_}{E:Value->aq->Prop}{s:aq}{K:av}{x D:Addr}{B:String}
theorem W0(ac:jj K D)(X:K.In s.heap)(I:lP s.heap x D)(h:R (.ok (.ret (.ref D))) s):oD 'h' A (.call (.builtin "getset_descriptor.__get__") ⟨[.builtin "object.__class__",.ref x,c],[]⟩) R s:=by
 obtain⟨b,g,d,t,os⟩:=s;have e:=I.type (M:=model prog w);have f:=looks_mroIn (M:=model prog w) X ac.obj;have a:(⟨b,g,d,t,os⟩:aq).TypeIs (.builtin "object.__class__") "getset_descriptor":=F.typeOf_object_class;refine DZ F.slot_gs_get.plain F.entry_gs_get (F.slot_gs_get.check _ _ _ _ _ _ _ _ a (F.args_gs_get _ _ _) ?_);unfold Builtin.«getset_descriptor.__get__» descrGet;rw[dga_obj];refine gV (Zy1 ?_);unfold descrGetter descrCheckInstance descrNameAndClass NO;simp only[KF.owner_class];repeat lk
 refine⟨N5 _ (by decide+kernel),lr F.entry_object_class ?_⟩;unfold Builtin.«object.__class__» shownTypeOf;repeat lk
 exact h
theorem W2(ac:jj K D)(X:K.In h):Looks M h (ZwG (.ref x) (.ref D) "__class__") (.bind (.builtin "getset_descriptor.__get__") (.builtin "object.__class__")):=by have a:=Of (M:=M) X ac.ca;have L2:Looks M h (ZwH (Z (.builtin "object.__class__"))) (Z (.builtin "getset_descriptor.__get__")):=looks_specialIn X ac.get;have b:=looks_takesIn (M:=M) X ac.WZ;exact a.andThen (L2.andThen ((show Looks M h (ZwI (Z (.builtin "object.__class__")) (Z (.builtin "getset_descriptor.__get__"))) (Z (.builtin "getset_descriptor.__get__",.builtin "object.__class__")) from b.andThen .now).andThen (Looks.tag .now)))
theorem W3(ac:jj K D)(X:K.In s.heap)(I:lP s.heap x D)(h:Q (.done (.ret (.ref D))) s):wpAny 'h' A (Builtin.«object.__getattribute__» ⟨[.ref x,.str "__class__" tk],[]⟩) Q E s:=by
 obtain⟨a,g,d,t,os⟩:=s;have b:=I.type (M:=model prog w);have c:=W2 (x:=x) (M:=model prog w) ac X;unfold Builtin.«object.__getattribute__»;repeat (first|refine gV (b.at ?_)|refine gV (c.at ?_)|wp_step)
 exact W0 (s:=⟨a,g,d,t,os⟩) ac X I (Zy1 h)
theorem W4(ac:jj K D)(X:K.In s.heap)(I:lP s.heap x D)(h:Q () s):wpAny M A (N3 "BaseException.__getattribute__" ⟨[.ref x,b],[]⟩) Q E s:=by
 obtain⟨i,g,d,t,os⟩:=s;have e:=I.type (M:=M);have c:=looks_mroIn (M:=M) X ac.Bb;have f:builtinKind "BaseException.__getattribute__"=Z .slot:=by decide+kernel
 have a:splitId "BaseException.__getattribute__"=Z ("BaseException","__getattribute__"):=by decide+kernel
 have j:=F.args_bexc_ga (.ref x) b;simp only[N3,f,a];refine gV ?_;unfold NO;repeat (first|refine gV (e.at ?_)|refine gV (c.at ?_)|refine c.at ?_|wp_step)
 exact h
theorem W5(FB:Og B)(ac:jj K D)(X:K.In s.heap)(I:lP s.heap x D)(h:R (.ok (.ret (.ref D))) s):oD 'h' A (.call (.builtin "BaseException.__getattribute__") ⟨[.ref x,.str "__class__" tk],[]⟩) R s:=DZ FB.ga.plain F.entry_bexc_ga (W4 ac X I (W3 ac X I h))
theorem W6(FB:Og B)(ac:jj K D)(X:K.In s.heap)(I:lP s.heap x D)(h:Q (Z (.ref D)) {s with toks:=s.toks+1}):wpAny 'h' A (getAttr? (.ref x) "__class__") Q E s:=by
 obtain⟨c,g,d,t,os⟩:=s;have e:=I.type (M:=model prog w);have f:=Of (M:=model prog w) X ac.ga;have L2:=Of (M:=model prog w) X ac.gr;have i:=FB.ga.bind (.ref x);have a:(y7 "BaseException.__getattribute__"==y7 "object.__getattribute__")=bi:=by decide+kernel
 have b:(onTheHeap (eQ D)&&y7 "BaseException.__getattribute__"==y7 "object.__getattribute__")=bi:=by rw[a];rfl
 unfold getAttr? getAttrBy? getAttrBy;refine gV (wpAny_mkText (gV (vK (wpAny_holding (gV (e.at (gV (f.at ?_))))))));dsimp only;rw[if_neg (by rw[b];decide)];unfold getAttrByItsOwn hookBefore callGetattribute boundAndCalled;rw[if_pos (show onTheHeap (eQ D)=be from W),i];refine gV (L2.at ?_);refine gV (vK (wpAny_holding ?_));rw[if_neg 'a'];refine gV (Zy1 ?_);refine yX (W5 (s:=⟨c,g,d,t+1,os⟩) FB ac X I ?_);exact handed_on W (Zy1 h)
theorem W7(FB:Og B)(ac:jj K D):KitX K (.ref x) (.ref D) (λh=>lP h x D) where
 ty:=λ_ _ _ I=>I.type
 it:=λ_ _ X _=>by
  obtain⟨b,a⟩:=ql.mp ac.cls;unfold clsIn at a;split at a;·rename_i i d' c d f;intro p r E' t k q;unfold isType loadHead;exact gV (wpAny_loadPart (k _ _ (X _ _ f)) (Zy1 q))
  ·injection a
 ne:=λh j dd m n u X g=>by
  obtain⟨b,a⟩:=ql.mp ac.cls;refine jR.mpr λq=>?_;have e:D=j:=Zvc (beq_iff_eq.mp q);subst e;unfold clsIn at a;split at a;·rename_i i d' c d f;have z:=(X _ _ f).symm.trans g;cases z
  ·injection a
 ca:=λX I k=>W6 FB ac X I k
end
end DL
namespace DL
open PySem PySem.Spec PyProof.Rows L2
structure HeldAt(X:Cx)(a Dc:Addr):Prop where
 pin:∃o,(a,o)∈X.pn/\o.cls=.ref Dc
 cls:jj X.K Dc
noncomputable def tH(K:av)(i:Nat)(a:Addr)(f:ag->Option D):TE:=λσ H Q=>∃b d,bL K H σ b/\σ[i]?=Z (Z (.ref a))/\f b=Z d/\∀v H',aw H H'->Rep K H' v d->Q v H'
noncomputable def IA(K:av)(i:Nat)(a:Addr)(f:ag->Option Bool):TT:=λσ H Q=>∃c b,bL K H σ c/\σ[i]?=Z (Z (.ref a))/\f c=Z b/\∀H',aw H H'->Q b H'
noncomputable def xx(K:av)(i:Nat)(a:Addr)(e:Ends)(H:Hp):Out->Prop|.aF c=>∀b H',aw H H'->bL K H' b c->b[i]?=Z (Z (.ref a))->e.nx b H'|.ret d=>∀v H',aw H H'->Rep K H' v d->e.rt v H'|.brk c=>∀b H',aw H H'->bL K H' b c->b[i]?=Z (Z (.ref a))->e.bk b H'|.cnt c=>∀b H',aw H H'->bL K H' b c->b[i]?=Z (Z (.ref a))->e.ct b H'
theorem xx.mono{K:av}{i:Nat}{a:Addr}{c:Ends}{H H':Hp}{o:Out}(h:xx K i a c H o)(e:aw H H'):xx K i a c H' o:=by cases o with|aF f=>exactλb H2 s r=>h b H2 (e.trans s) r|ret d=>exactλb H2 s r=>h b H2 (e.trans s) r|brk f=>exactλb H2 s r=>h b H2 (e.trans s) r|cnt f=>exactλb H2 s r=>h b H2 (e.trans s) r
def IB(K:av)(i:Nat)(a:Addr)(g:ag->Option Out):TS:=λc σ H=>∃b o,bL K H σ b/\σ[i]?=Z (Z (.ref a))/\g b=Z o/\xx K i a c H o
abbrev HE(X:Cx)(i:Nat)(a:Addr)(e:Expr)(f:ag->Option D):Prop:=PE X e (tH X.K i a f)
abbrev HT(X:Cx)(i:Nat)(a:Addr)(e:Expr)(f:ag->Option Bool):Prop:=PT X e (IA X.K i a f)
abbrev HW(X:Cx)(i:Nat)(a:Addr)(e:Expr)(f:ag->Option Bool):Prop:=PW X e (IA X.K i a f)
abbrev HS(X:Cx)(i:Nat)(a:Addr)(st:Stmt)(g:ag->Option Out):Prop:=PS X st (IB X.K i a g)
abbrev rL(X:Cx)(i:Nat)(a:Addr)(st:List Stmt)(g:ag->Option Out):Prop:=fU X st (IB X.K i a g)
section
variable {X:Cx}{i:Nat}{a Dc:Addr}{e c b:Expr}{st:Stmt}{pos p p1 p2:Pos}{f:ag->Option D}{g u:ag->Option Out}{t ta tb:ag->Option Bool}
theorem W8(h:DE X e f):HE X i a e f:=cQ h<|by rintro σ H Q ⟨j,d,R,_,e,q⟩;exact⟨j,d,R,e,q⟩
theorem Bc(h:HE X i a e f)(j:∀d,isTrue e X.env d=(do let v<-d;standAt e.pos;holding [v] (truthy v)):=by intro _;rfl):HT X i a e (cB f):=rf (ED h j)<|by rintro σ H Q ⟨m,k,R,l,e,q⟩;exact⟨m,.bl k,R,l,tT e,λv H' r w=>by cases w;exact⟨k,W,q H' r⟩⟩
theorem W9(d:HT X i a e ta):HW X i a (.BoolOp .And [e] pos) ta:=EE d
theorem IC(j:HT X i a e ta)(m:HW X i a (.BoolOp .And (b::bs) pos) tb):HW X i a (.BoolOp .And (e::b::bs) pos) (ez ta tb):=z3 (EF j m)<|by rintro σ H Q ⟨h,k,R,l,e,q⟩;refine bS e λc r e=>?_;refine⟨h,c,R,l,r,λv d=>?_⟩;cases c with|true=>exact⟨h,k,R.mono d,l,e,λH' w=>q H' (d.trans w)⟩|false=>(obtain rfl:=ao e);exact q v d
theorem W_(h:HW X i a (.BoolOp d l pos) ta):HT X i a (.BoolOp d l pos) ta:=h.pt
theorem Xa(d:HT X i a e ta):HT X i a (.UnaryOp .Not e pos) (gR ta):=rf (EG d)<|by
  rintro σ H Q ⟨h,k,R,l,e,q⟩;refine bS e λc j e=>?_
  (obtain rfl:=ao e);exact⟨h,c,R,l,j,q⟩
theorem ID(h:HS X i a st g):rL X i a [st] g:=oT h
theorem Xb:rL X i a [] cR:=jD v_<|by rintro d σ H ⟨h,o,R,l,e,q⟩;(obtain rfl:=ao e);exact q σ H (aw.refl H) R l
theorem Xc(j:HT X i a c t)(m:rL X i a x g)(r:rL X i a y u):HS X i a (.If c x y pos) (bY t g u):=cz (qU j m r)<|by rintro w σ H ⟨h,o,R,l,e,q⟩;refine bS e λk v e=>?_;refine⟨h,k,R,l,v,λz d=>?_⟩;cases k with|true=>rw[if_pos W]at e;exact⟨h,o,R.mono d,l,e,q.mono d⟩|false=>rw[if_neg ei]at e;exact⟨h,o,R.mono d,l,e,q.mono d⟩
theorem Xd(w:X.N.Nodup)(y:X.N[j]?=Z x)(z:Loc X.env.scope x)(h:HE X i a e f)(m:i≠j:=by decide)(A:eY e (Z (.Name x pos')) pos.line X.env=pure bi:=by rfl)(hf:X.fn x=be\/X.env.scope.names.lookup x=Z .local:=by first|exact .inl W|exact .inr W):HS X i a (.Assign [.Name x pos'] e pos) (cc j f):=cz (kE w y z h A hf)<|by
  rintro I σ H ⟨B,o,R,l,e,q⟩;refine bS e λd C e=>?_
  (obtain rfl:=ao e);exact⟨B,d,R,l,C,λv E r G=>q _ E r ((R.mono r).set j G) (by rw[dh (b6 m)];exact l)⟩
theorem Xe{s:aq}(I:Inv X zK σ H s)(d:HeldAt X a Dc):lP s.heap a Dc:=let ⟨o,h,j⟩:=d.pin
 ⟨o,(I.pin (a,o) (d_ _ h)).1,j⟩
theorem IE(j:HeldAt X a Dc)(m:∀u,RelV v u->u=r){k:Bool}(w:vE X.K (.ref Dc) r=Z k):kF X (.builtin "isinstance") (λxs H Q=>xs=[.ref a,v]/\Q (.bl k) H):=by intro zK s σ H xs B Q I x h;obtain⟨rfl,q⟩:=h;refine cM (E5 x) λu C d y A=>?_;subst d;obtain rfl:=m _ A;cases(show u=eQ a from y);exact m_ (W7 PySem.F.attr_ValueError j.cls) I.gh (Xe I j) w (λz=>nomatch z) (λtk=>⟨.bl _,H,I.tok tk,W,q⟩)
noncomputable def cK(k:Bool):ag->Option D:=λ_=>Z (.bl k)
theorem IF{k:Bool}(B:HeldAt X a Dc)(E:X.N[i]?=Z x)(G:dv X.env.scope x)(I:X.mg y=Z (.ref C))(J:vE X.K (.ref Dc) (.ref C)=Z k)(h:Gl X y)(L:Gl X "isinstance")(M:X.mg "isinstance"=am)(O:'f'=bi:=by decide)(j:'m'=bi:=by decide)(m:(y==("__debug__":Str))=bi:=by decide)(A:a4 [.Name x p1,.Name y p2] X.env=(bi,eval (.Name x p1) X.env)::a4 [.Name y p2] X.env:=by rfl)(w:a4 [.Name y p2] X.env=(bi,eval (.Name y p2) X.env)::a4 [] X.env:=by rfl)(z:(ef pos (a4 [.Name y p2] X.env)).any (·.1)=bi:=by rfl):HE X i a (.Call (.Name "isinstance" p) [.Name x p1,.Name y p2] [] pos) (cK k):=cQ (wm (IE B (v:=.ref C) (λu r=>r) J) L M AA (ek (hH E G O j) (ek (EB (v:=.ref C) h I W m) gj w) A) 'a' 'a' A z)<|by
  rintro σ H Q ⟨T,d,R,l,e,q⟩
  (obtain rfl:=ao e);exact⟨_,l,W,q _ H (aw.refl H) (.bl k)⟩
theorem Xf{k:Bool}(G:HeldAt X a Dc)(I:X.N[i]?=Z x)(J:dv X.env.scope x)(h:X.mg y=am)(j:eR y=Z (.type T))(L:vE X.K (.ref Dc) (.type T)=Z k)(m:Gl X y)(M:Gl X "isinstance")(O:X.mg "isinstance"=am)(U:'f'=bi:=by decide)(w:'m'=bi:=by decide)(z:(y==("__debug__":Str))=bi:=by decide)(A:y≠"__name__":=by decide)(E:a4 [.Name x p1,.Name y p2] X.env=(bi,eval (.Name x p1) X.env)::a4 [.Name y p2] X.env:=by rfl)(B:a4 [.Name y p2] X.env=(bi,eval (.Name y p2) X.env)::a4 [] X.env:=by rfl)(C:(ef pos (a4 [.Name y p2] X.env)).any (·.1)=bi:=by rfl):HE X i a (.Call (.Name "isinstance" p) [.Name x p1,.Name y p2] [] pos) (cK k):=cQ (wm (IE G (v:=.ty T) (λu r=>r) L) M O AA (ek (hH I J U w) (ek (EC (v:=.ty T) m h j W A z) gj B) E) 'a' 'a' E C)<|by
  rintro σ H Q ⟨Y,d,R,l,e,q⟩
  (obtain rfl:=ao e);exact⟨_,l,W,q _ H (aw.refl H) (.bl k)⟩
end
theorem xy{K:av}{H:Hp}{σ:St}{a:ag}{o:Option V}(r:bL K H σ a)(i:Nat):bL K H (σ.set i o) (a.set i am):=by
 refine⟨by rw[e_,e_];exact r.len,λj e h=>?_⟩;by_cases b:i=j
 ·subst b;by_cases c:i<a.length;·rw[ij c]at h;(injection h with h;injection h)
  ·rw[y8.mpr (by rw[e_];exact DA.mp c)]at h;injection h
 ·rw[dh b]at h⊢;exact r.get j e h
noncomputable def IG(i:Nat):Out->Out|.aF a=>.aF (a.set i am)|.ret d=>.ret d|.brk a=>.brk (a.set i am)|.cnt a=>.cnt (a.set i am)
def uE(i:Nat)(cs:List Str)(g:ag->Option kT)(hf:Str->ag->Option Out):ag->Option Out:=λa=>(g a).bind λo=>match o with|.inl o=>Z o|.inr c=>if c.1∈cs then(hf c.1 (c.2.set i am)).bind λo=>Z (IG i o)else am
section
variable {X:Cx}
noncomputable abbrev nV(X:Cx)(pn:List (Addr×Obj))(E:Value->aq->Prop):Cx:={X with pn:=pn,xe:=E}
noncomputable abbrev lQ(X:Cx)(a:Addr)(pn:List (Addr×Obj)):Cx:={X with A:=X.A.mark (Z (.ref a)),calm:=bi,pn:=pn,xe:=λ_ _=>False}
theorem Xg(ok:X.Ok):(nV X pn E).Ok:=⟨ok.mod,ok.kind,ok.glob,ok.blt,ok.above,ok.inj,ok.has,ok.oR,ok.hd,ok.frames,ok.qR,ok.tr,ok.bs,ok.ly,ok.oS,ok.nv,ok.iI,ok.mh⟩
theorem IH(ok:X.Ok):(lQ X a pn).Ok:=⟨ok.mod,ok.kind,ok.glob,ok.blt,ok.above,ok.inj,ok.has,ok.oR,(λh=>ZuN h),ok.frames,ok.qR,ok.tr,ok.bs,ok.ly,ok.oS,ok.nv,ok.iI,ok.mh⟩
theorem Xh(Q:X.stack=X.env::X.outer)(pb:X.env.frame=Z X.env.locals)(hN:X.N.Nodup)(hi:X.N[i]?=Z x)(hk:X.env.scope.names.lookup x=Z .local)(hT:X.mg T=Z (.ref CT))(Xi:Gl X T)(jd:∀c∈cs,∀C,X.mg c=Z (.ref C)->jj X.K C/\Oh X.K (.ref C) (.ref CT)=Z be)(hb:∀pn E ad,xp (nV X pn E) ad->Ir (nV X pn E) ad body g)(hs:∀c∈cs,∀C,X.mg c=Z (.ref C)->∀a pn,HeldAt (lQ X a pn) a C->rL (lQ X a pn) i a (II::U) (hf c))(Xj:(T==("__debug__":Str))=bi:=by decide):DS X (.Try body [.ExceptHandler (Z (.Name T np)) (Z x) (II::U) Xk] [] [] pos) (uE i cs g hf):=by
 intro zK s σ H Dn I ⟨ρ,o,R,ee,q⟩;refine bS ee λo1 h1 ee=>?_;refine wpAny_Try_except ?_;have xA:∀{E:Value->aq->Prop}{j:St}{H':Hp}{s':aq}{M:List (Addr×Obj)},Inv (nV X (X.pn++zK) E) M j H' s'->Inv X zK j H' s':=λ{E j H' s' M} J=> ⟨I.ok,J.os,J.bare,J.base,J.loc,J.cell,J.free,J.fT,λp hp=>J.pin p (d_ _ hp),J.aR,J.len⟩;have Ib:∀E,Inv (nV X (X.pn++zK) E) [] σ H s:=λE=>⟨Xg I.ok,I.os,I.bare,I.base,I.loc,I.cell,I.free,I.fT,λp hp=>I.pin p (by simpa using hp),I.aR,I.len⟩;refine i5 (hb (X.pn++zK) (λe IJ=>wpAny 'b' X.A (noteFrame e X.env) (λ_ Xl=>wpAny 'b' X.A (setFlight e am) (λ_ t_=>wpAny 'b' X.A (handleBy e X.env [.ExceptHandler (Z (.Name T np)) (Z x) (II::U) Xk]) (SP X zK Dn) X.xe t_) X.xe Xl) X.xe IJ) (λc j H'=>∃ρ' o2,c∈cs/\bL X.K H' j ρ'/\hf c (ρ'.set i am)=Z o2/\wants X.K Dn H' (IG i o2)) ?H9 [] s σ H Dn (Ib _) ⟨ρ,o1,R,h1,?e⟩) (λf IJ m=>?n) λ_ _ z=>z;case e=>cases o1 with|inl o1=>(obtain rfl:=ao ee);exact q|inr c=>
   intro j H' s1 R1;dsimp only at ee;split at ee
   ·rename_i hc;refine bS ee λo2 h2 ee=>?_
    (obtain rfl:=ao ee);exact⟨c.2,o2,hc,R1,h2,q.mono s1⟩
   ·injection ee
 case n=>cases f with|next=>refine b8 m λj H' J z=>?_;clear m;exact yV ⟨j,H',xA J,z⟩|brk=>refine b8 m λj H' J z=>?_;clear m;exact⟨j,H',xA J,z⟩|cont=>refine b8 m λj H' J z=>?_;clear m;exact⟨j,H',xA J,z⟩|ret u=>refine dj m λv j H' J r z=>?_;clear m;exact⟨v,j,H',xA J,r,z⟩
 case H9=>
  refine⟨λM j H' s' e s2 E' J h hE=>?_,PassesOwn.looking⟩;refine b_ h λa C t L=>cM L λB H2 Af F qE=>?_;clear h L;subst Af;refine cM (hE _ _ _ qE) λc C' Xm IK L=>cE L λρ' o2 hc R' hh w=>?_;clear L;cases Xm;obtain⟨ac,hx⟩:=jd c hc C IK;refine WY (X:=nV X (X.pn++zK) _) J Q pb F λh4 Y IM=>?_;have J4:=Iz J F Y IM;have Xn:lP h4 a C:=Y.there;refine wpAny_handleBy_cons (codeAny_handlers_test (qS (X:=lQ X a X.pn) (zK:=[]) (σ:=j) (H:=H2) ⟨IH I.ok,J4.os,J4.bare,J4.base,J4.loc,J4.cell,J4.free,J4.fT,λp hp=>J4.pin p ?_,J4.aR,J4.len⟩ Xi hT ?_ Xj)) (by intro z;injection z)
  ·have Ar:p∈X.pn:=by simpa using hp
   exact d_ _ (d_ _ Ar)
  refine(PySem.W.exm_one (h:=h4) J4.gh Xn.type hx).at ?_;refine codeAny_handlers_suite_as (lands_againW Y λh6 O Xo=>?_);have J6:=Iz J F O (IM.trans Xo);refine cE O.first λoe vs IP zx IQ _=>?_;have nH:H2 a=am:=by
   cases z:H2 a with|none=>rfl|some u=>obtain⟨o3,e3⟩:=F.qP a u z;rw[O.2.1]at e3;injection e3
  have nF:∀b∈cN X.stack,a≠b:=λb hb z=>by
   subst z;refine bc (O.2.2.1.mem hb) λ_ L=>a9 L λo' e2 nf=>?_;clear L;rw[IP]at e2
   (obtain rfl:=ao e2);exact nf vs IQ
  have Js:Inv (lQ X a (X.pn++zK++[(a,oe)])) [] j H2 {s2 with heap:=h6}:=
   ⟨IH I.ok,J6.os,J6.bare,J6.base,J6.loc,J6.cell,J6.free,J6.fT,(λp hp=>by
    rw[eZ]at hp;rcases bQ.mp hp with hp|hp
    ·exact J6.pin p (d_ _ hp)
    ·obtain rfl:=aZ.mp hp;refine⟨IP,nH,nF _ ?_,λz=>nF a ?_ W,λv z=>?_⟩
     ·rw[Q,Ip pb];exact bE
     ·rw[Q,Ip pb];exact cx _ z
     ·rw[IQ]at z;injection z),J6.aR,J6.len⟩
  have Xp:i<j.length:=by rw[J6.len];exact(bF.mp hi).1
  refine v7 (X:=lQ X a (X.pn++zK++[(a,oe)])) (v:=.ref a) Js hN hi (.inl hk) W (λs5 J5=>?_) (.inr hk);have HA:HeldAt (lQ X a (X.pn++zK++[(a,oe)])) a C:=⟨⟨oe,dV _ (aZ.mpr W),zx⟩,ac⟩
  refine i5 (hs c hc C IK a _ HA [] s5 _ H2 {nx:=λy G=>Dn.nx (y.set i am) G,rt:=Dn.rt,bk:=λy G=>Dn.bk (y.set i am) G,ct:=λy G=>Dn.ct (y.set i am) G} J5
   ⟨ρ'.set i am,o2,xy R' i,ij Xp,hh,?_⟩) (λf s6 m=>?_) λ_ _ z=>dD z
  ·cases o2 with|aF IS=>exactλy G s3 R3 _=>w _ G s3 (xy R3 i)|ret d=>exactλv G s3 R3=>w v G s3 R3|brk IS=>exactλy G s3 R3 _=>w _ G s3 (xy R3 i)|cnt IS=>exactλy G s3 R3 _=>w _ G s3 (xy R3 i)
  ·have xB:∀{y:St}{G:Hp}{s3:aq},Inv (lQ X a (X.pn++zK++[(a,oe)])) [] y G s3->Inv X zK y G s3:=λ{y G s3} J=>
    ⟨I.ok,J.os,J.bare,J.base,J.loc,J.cell,J.free,J.fT,λp hp=>J.pin p (d_ _ (d_ _ hp)),J.aR,J.len⟩
   cases f with|next=>refine b8 m λy G J z=>?_;clear m;exact xu (xB J) hN hi hk λs7 J7=>⟨_,G,J7,z⟩|brk=>refine b8 m λy G J z=>?_;clear m;exact xu (xB J) hN hi hk λs7 J7=>⟨_,G,J7,z⟩|cont=>refine b8 m λy G J z=>?_;clear m;exact xu (xB J) hN hi hk λs7 J7=>⟨_,G,J7,z⟩|ret u=>refine dj m λv y G J r z=>?_;clear m;exact xu (xB J) hN hi hk λs7 J7=>⟨v,_,G,J7,r,z⟩
end
end DL
namespace DL
open PySem PySem.Spec PyProof.Rows L2 PySem.W
section
variable {K:av}{C D:Addr}{T:String}
theorem Xq(h:mroIn K C x=Z b):(clsIn K C).isSome=be:=by obtain⟨a,h,_⟩:=DP.mp h;rw[h];rfl
theorem IT(a:mroIn K D (.type "BaseException")=Z be)(c:vO K (.ref D)=Z (.type "type"))(h:mroIn K C (.ref D)=Z b):kitCls K (.ref C) (.ref D)=Z b:=by show(if((clsIn K D).isSome&&vO K (.ref D)==Z (.type "type"))=be then subIn K (.ref C) (.ref D)else am)=Z b;rw[Xq a,c,if_pos (by first|rfl|decide|simp)];exact h
theorem Xr(a:mroIn K D (.type "BaseException")=Z be)(c:vO K (.ref D)=Z (.type "type"))(h:mroIn K C (.ref D)=Z b):exmOne K (.ref C) (.ref D)=Z b:=by unfold exmOne;rw[if_pos (show(subIn K (.ref D) (.type "BaseException")==Z be)=be by show(mroIn K D (.type "BaseException")==Z be)=be;rw[a];rfl)];exact IT a c h
theorem Xs:vP K (.ref C) (.ref C)=Z be:=by unfold vP;rw[if_pos 'k']
theorem Xt(a:mroIn K C (.ref C)=Z be)(c:mroIn K D (.type "BaseException")=Z be)(d:vO K (.ref D)=Z (.type "type"))(h:mroIn K C (.ref D)=Z b):vP K (.ref C) (.ref D)=Z b:=by
 unfold vP;split;·rename_i e;have e:C=D:=Zvc (beq_iff_eq.mp e);subst e;rw[a]at h;exact h
 ·exact IT c d h
theorem Xu(a:kitMeta T=be)(h:mroIn K C (.type T)=Z b):vP K (.ref C) (.type T)=Z b:=by
 unfold vP;split;·rename_i e;cases(beq_iff_eq.mp e)
 ·show(if kitMeta T=be then subIn K (.ref C) (.type T)else am)=Z b;rw[if_pos a];exact h
end
structure ClsAt(K:av)(mg:Str->Option Value)(c:Str)(C:Addr):Prop where
 bound:mg c=Z (.ref C)
 exc:jj K C
 self:mroIn K C (.ref C)=Z be
 ty:vO K (.ref C)=Z (.type "type")
theorem Xv{K:av}{h:Heap}(KX:K.In h)(G:h.Ns dU b)(a:nsIn K dU c=Z (Z (.ref C)))(b1:vN K (.ref C) "__getattribute__"=Z (Z (.builtin "BaseException.__getattribute__")))(b2:vN K (.ref C) "__getattr__"=Z am)(b3:vN K (.ref C) "__class__"=Z (Z (.builtin "object.__class__")))(b4:specialIn K (.builtin "object.__class__") "__get__"=Z (Z (.builtin "getset_descriptor.__get__")))(d:takesIn K (.builtin "object.__class__")=Z be)(e:mroIn K C (.type "object")=Z be)(f:mroIn K C (.type "BaseException")=Z be)(g:mroIn K C (.ref C)=Z be)(i:vO K (.ref C)=Z (.type "type")):ClsAt K b c C:=⟨mg_of KX G a,⟨b1,b2,b3,b4,d,e,f⟩,g,i⟩
theorem Xw{K:av}{h:Heap}{e:Str->Option Value}{D:Addr}(KX:K.In h)(G:h.Ns dU e)(a:nsIn K dU c=Z (Z (.ref C)))(f:nsIn K dU d=Z (Z (.ref D)))(m:mroIn K C (.ref D)=Z b):∃C D,e c=Z (.ref C)/\e d=Z (.ref D)/\mroIn K C (.ref D)=Z b:=⟨C,D,mg_of KX G a,mg_of KX G f,m⟩
theorem Xx{K:av}(KX:K.In base)(T:TopRead p b d e base)(a:nsIn K dU c=Z (Z (.ref C)))(q:excIn K C [.type "ValueError",.type "Exception",.type "BaseException",.type "object"] "ValueError.__new__"=be):Ba d base c:=⟨C,_,_,_,_,"ValueError",_,_,_,own_of_in KX T a q,Zvd,by first|rfl|decide,Zvd⟩
theorem Xy{h:Heap}(G:h.Ns a m):∃l:List Str,∀x,x∉l->m x=am:=by refine dj G λo es ep _ _ b=>bc b λf hf=>?_;clear G b;refine⟨es.toList.filterMap λe=>(match e.key with|.str n _=>Z n|_=>am),λx g=>?_⟩;rw[<-hf];unfold nsFind findBy;rw[<-Array.find?_toList];cases q:es.toList.find? (λe=>e.key.isStr x)with|none=>rfl|some e=>
  exfalso;apply g;have c:=List.mem_of_find?_eq_some q;have d:=List.find?_some q;obtain⟨n,t,hn⟩:=f e (by simpa using c);refine qk.mpr ⟨e,c,?_⟩;rw[hn]at d⊢;have:n=x:=by simpa [Value.isStr]using d
  rw[this]
theorem Xz{K:av}{c:Str->Option Value}(M:Mod K c base)(p:a6):∃a b,TopRead p a c b base:=by obtain⟨b,d,e⟩:=M.blt;obtain⟨l,f⟩:=Xy M.glob;exact⟨l,b,⟨M.glob,d,M.nolimit,e,λx _ h _ _ _=>f x h⟩⟩
theorem XA{K:av}{b:Str->Option Value}{base:Heap}{C:Addr}(M:Mod K b base)(p:a6)(a:nsIn K dU c=Z (Z (.ref C))) (q:excIn K C [.type "ValueError",.type "Exception",.type "BaseException",.type "object"] "ValueError.__new__"=be):Ba b base c:=by obtain⟨l,d,T⟩:=Xz M p;exact Xx M.qQ T a q
theorem XB{X:Cx}{ad:Str->L2.St->Hp->Prop}{rest:List Expr}{fs:ag->Option (List D)}(f:uC X ad)(g:X.calm=be)(a:nsIn X.K dU c=Z (Z (.ref C))) (q:excIn X.K C [.type "ValueError",.type "Exception",.type "BaseException",.type "object"] "ValueError.__new__"=be) (h:Gl X c) (i:lG X (b::rest) fs) (j:∀m ds,fs m=Z ds->ds.length<=1000) (d:(c==("__debug__":Str))=bi:=by decide) (p:a4 (b::rest) X.env=(bi,eval b X.env)::a4 rest X.env:=by rfl) (e:(ef cpos (a4 rest X.env)).any (·.1)=bi:=by rfl):XS X ad (.Raise (Z (.Call (.Name c np) (b::rest) [] cpos)) am pos) (rK c fs):=λzK s σ H r I hw=> WX f g (XA I.ok.mod X.prog a q) h i j d p e zK s σ H r I hw
end DL
namespace DL
open PySem PySem.Spec PyProof.Rows L2
noncomputable abbrev fZ:=aK ⊕ Str
def xC(K:av)(ad:Str->St->Hp->Prop)(b:Ends)(H:Hp)(O:List Addr):fZ->Prop|.inl o=>nS K b H O o|.inr c=>∀a H',aw (az H O) H'->ad c a H'
theorem xC.mono{K:av}{ad:Str->St->Hp->Prop}{b:Ends}{H H':Hp}{O d:List Addr}{o:fZ}(h:xC K ad b H O o)(e:aw (az H O) (az H' d)):xC K ad b H' d o:=by cases o with|inl o=>exact nS.mono (o:=o) h e|inr c=>exactλa H2 s=>h a H2 (e.trans s)
def IU(K:av)(ad:Str->St->Hp->Prop)(g:ar->Option fZ):TS:=λb σ H=>∃a O o,RO K H σ a O/\g a=Z o/\xC K ad b H O o
structure KX(X:Cx)(ad:Str->St->Hp->Prop)(st:Stmt)(g:ar->Option fZ):Prop where h:PS X st (IU X.K ad g)
structure nX(X:Cx)(ad:Str->St->Hp->Prop)(st:List Stmt)(g:ar->Option fZ):Prop where h:fU X st (IU X.K ad g)
structure JX(X:Cx)(ad:Str->St->Hp->Prop)(e:Expr)(f:ag->Option DX):Prop where h:XE X ad e f
structure rM(X:Cx)(ad:Str->St->Hp->Prop)(st:Stmt)(g:ag->Option kT):Prop where h:XS X ad st g
structure IV(X:Cx)(ad:Str->St->Hp->Prop)(st:List Stmt)(g:ag->Option kT):Prop where h:Ir X ad st g
section
variable {X:Cx}{ad:Str->St->Hp->Prop}{e c:Expr}{st:Stmt}{uD rest:List Stmt}{pos:Pos}{g u:ar->Option fZ}{gp:ar->Option aK}{t:ag->Option Bool}
noncomputable def pw(g:ar->Option aK):ar->Option fZ:=λa=>(g a).bind λo=>Z (.inl o)
theorem XC(h:KB X uD gp):nX X ad uD (pw gp):=⟨jD h.h<|by
 rintro f σ H ⟨a,O,o,R,e,q⟩;refine bS e λb d e=>?_
 (obtain rfl:=ao e);exact⟨a,O,b,R,d,q⟩⟩
noncomputable def nY(g u:ar->Option fZ):ar->Option fZ:=λa=>(g a).bind λo=>match o with|.inl (.aF ρ')=>u ρ'|o=>Z o
theorem XF(b:KX X ad st g)(f:nX X ad rest u):nX X ad (st::rest) (nY g u):=⟨jD (qT b.h f.h)<|by rintro v σ H ⟨i,O,o,R,e,q⟩;refine bS e λa b e=>?_;refine⟨i,O,a,R,b,?_⟩;cases a with|inr c=>(obtain rfl:=ao e);exact q|inl a=>cases a with|aF ρ'=>exactλj H' m s r=>⟨ρ',m,o,r,e,q.mono s⟩|ret d=>(obtain rfl:=ao e);exact q|brk ρ'=>(obtain rfl:=ao e);exact q|cnt ρ'=>(obtain rfl:=ao e);exact q⟩
theorem XG(h:KX X ad st g):nX X ad [st] g:=⟨oT h.h⟩
def xD(t:ag->Option Bool)(g u:ar->Option fZ):ar->Option fZ:=λa=>(t (fz a)).bind λc=>if c=be then g a else u a
theorem XH(f:JT X c t)(i:nX X ad a g)(j:nX X ad b u):KX X ad (.If c a b pos) (xD t g u):=⟨cz (qU f.h i.h j.h)<|by rintro v σ H ⟨d,O,o,R,e,q⟩;refine bS e λk m e=>?_;refine⟨fz d,k,R.fz,m,λw r=>?_⟩;have S:=SO.of R.ls r;cases k with|true=>rw[if_pos W]at e;exact⟨d,O,o,R.mono S,e,q.mono S.same⟩|false=>rw[if_neg ei]at e;exact⟨d,O,o,R.mono S,e,q.mono S.same⟩⟩
def IW(c:Str)(fs:ag->Option (List D)):ar->Option fZ:=λa=>(fs (fz a)).bind λ_=>Z (.inr c)
theorem XI{c:Str}{fs:ag->Option (List D)}(h:rM X ad st (rK c fs)):KX X ad st (IW c fs):=⟨cz h.h<|by
 rintro f σ H ⟨b,O,o,R,e,q⟩;refine bS e λds d e=>?_
 (obtain rfl:=ao e);refine⟨fz b,.inr (c,fz b),R.fz,by unfold rK;rw[d];rfl,λa H' s _=>q a H' ((hZ H O).trans s)⟩⟩
end
def kU(np ns:Nat)(g:ar->Option fZ)(ds:List D):Option DX:=if ds.length=np then(g (jH ns ds)).bind λo=>match o with|.inl (.ret d)=>Z (.inl d)|.inl (.aF _)=>Z (.inl .aC)|.inr c=>Z (.inr c)|_=>am else am
theorem XJ{P:a6}{w:World}{K:av}{z:Str->Option Value}{base:Heap}{x b:Str}{st:Stmt}{f:Addr}{I:dF}{N ps:List Str}{k np ns:Nat}{g:ar->Option fZ}(Fn:kH K x b st f I)(S:nG N ps (de st))(J:ps.length=np)(hn:N.length=ns) (m:∀(j:Value)(A:a_)(a:List Env)(s:aq)(H:Hp)(E:XK),bI k (A.deeper (g6 b (de st) s.heap.objs.size f j))->nX (dA (gw P w) P w K z base N b (de st) f j A a s H E) (xq z E) (iL st) g):dm P w K z base (gw P w) (k+1) f I ps (rJ K z (kU np ns g)):=by
 subst J hn;have hlen:∀{ds:List D}{d:DX},kU ps.length N.length g ds=Z d->ds.length=ps.length/\∃o,g (jH N.length ds)=Z o/\(match o with|.inl (.ret d)=>Z (.inl d)|.inl (.aF _)=>Z (.inl .aC)|.inr c=>Z (.inr c)|_=>am)=Z d:=λ{ds d} h=>by
  unfold kU at h;split at h;case isFalse=>injection h
  rename_i L;refine bS h λo B p=>?_;exact⟨L,o,B,p⟩
 refine b_ Fn.ex λY od kV i=>b_ i λdoc pm an t=>dj t λj ct M C lk G=>?_;clear i t;subst C;refine Ff lk G S (by rintro vs H Q E ⟨ds,d,r,e,_⟩;rw[r.length];exact(hlen e).1) λA a s H vs Q E O u=>?_;refine cM u λds d r e q=>?_;clear u;refine bc (hlen e) λ_ i=>a9 i λo B p=>?_;clear i;refine⟨_,(m j A a s H E O).h,jH N.length ds,[],o,Hz r,B,?_⟩;cases o with|inr c=>(obtain rfl:=ao p);exactλy H' s=>q y H' (by rw[gT]at s;exact s)|inl o=>cases o with|ret d'=>(obtain rfl:=ao p);exactλv H' s T=>q v H' (by rw[gT]at s;exact s) T|aF ρ=>(obtain rfl:=ao p);exactλy H' U s _=>q .aC H' (by rw[gT]at s;exact s.trans (hZ H' U)) .aC|_=>injection p
section
variable {X:Cx}{ad:Str->St->Hp->Prop}{e c:Expr}{st:Stmt}{rest:List Stmt}{pos p:Pos}{g:ag->Option kT}{fs:List (ag->Option D)}
theorem XM{k:Nat}(d:xp X ad)(C:Iu X.prog X.w X.K X.mg X.base k x F)(f:bI k X.A)(i:JA X (e::es) fs (ai fs))(j:Gl X x:=by rfl)(a:'f'=bi:=by decide)(m:a4 (e::es) X.env=(bi,eval e X.env)::a4 es X.env:=by rfl)(b:(ef pos (a4 es X.env)).any (·.1)=bi:=by rfl):JX X ad (.Call (.Name x p) (e::es) [] pos) (pq F (ai fs)):=⟨WV d C f j i.h a m b⟩
theorem XN{rest:List Expr}{c:Str}{C:Addr}{np cpos:Pos}(i:uC X ad)(a:tf X.K dU c=Z (Z (.ref C))) (q:Oi X.K C [.type "ValueError",.type "Exception",.type "BaseException",.type "object"] "ValueError.__new__"=be) (f:JA X (e::rest) fs (ai fs)) (j:fs.length<=1000:=by decide) (m:X.calm=be:=by rfl) (r:Gl X c:=by rfl) (b:(c==("__debug__":Str))=bi:=by decide) (v:a4 (e::rest) X.env=(bi,eval e X.env)::a4 rest X.env:=by rfl) (d:(ef cpos (a4 rest X.env)).any (·.1)=bi:=by rfl):rM X ad (.Raise (Z (.Call (.Name c np) (e::rest) [] cpos)) am pos) (rK c (ai fs)):=⟨XB i m a q r f.h (λw ds h=>cv (f.n w ds h) j) b v d⟩
theorem XO(h:rM X ad st g):IV X ad [st] g:=⟨oT h.h⟩
end
noncomputable def rN:DX->D|.inl d=>.tup [d]|.inr c=>.str c
noncomputable def nZ:D->Option DX|.tup [d]=>Z (.inl d)|.str c=>Z (.inr c)|_=>am
theorem XP(o:Option DX):(o.map rN).bind nZ=o:=by cases o with|none=>rfl|some o=>cases o<;>rfl
theorem XQ{P:a6}{w:World}{K:av}{a:Str->Option Value}{base:Heap}{f:Addr}{e:dF}{ps:List Str}:dm P w K a base (gw P w) 0 f e ps (rJ K a λ_=>am):=by
 have c:∀vs H Q E,¬rJ K a (λ_=>am) vs H Q E:=by rintro vs H Q E ⟨ds,d,_,h,_⟩;injection h
 exact⟨λvs H Q E h=>absurd h (c vs H Q E),λA b s H args g vs Q E _ _ _ _ h=>absurd h (c vs H Q E)⟩
def Be(K:av)(a:Str->Option Value)(c:Str):Prop:=∃C,tf K dU c=Z (Z (.ref C))/\a c=Z (.ref C)/\Oi K C [.type "ValueError",.type "Exception",.type "BaseException",.type "object"] "ValueError.__new__"=be
theorem XR{K:av}{h:Heap}(KX:K.In h)(G:h.Ns dU b)(a:tf K dU c=Z (Z (.ref C)))(q:Oi K C [.type "ValueError",.type "Exception",.type "BaseException",.type "object"] "ValueError.__new__"=be):Be K b c:=⟨C,a,Ee KX G a,q⟩
def xE(K:av)(a:Str->Option Value)(c:Str):Prop:=∃C,ClsAt K a c C
theorem XT{K:av}{h:Heap}(KX:K.In h)(G:h.Ns dU b)(a:tf K dU c=Z (Z (.ref C)))(b1:De K (.ref C) "__getattribute__"=Z (Z (.builtin "BaseException.__getattribute__")))(b2:De K (.ref C) "__getattr__"=Z am)(b3:De K (.ref C) "__class__"=Z (Z (.builtin "object.__class__")))(b4:ZtK K (.builtin "object.__class__") "__get__"=Z (Z (.builtin "getset_descriptor.__get__")))(d:PySem.W.takesIn K (.builtin "object.__class__")=Z be)(e:vQ K C (.type "object")=Z be)(f:vQ K C (.type "BaseException")=Z be)(g:vQ K C (.ref C)=Z be)(i:PySem.W.typeIn K (.ref C)=Z (.type "type")):xE K b c:=⟨C,Xv KX G a b1 b2 b3 b4 d e f g i⟩
def Bf(K:av)(a:Str->Option Value)(c d:Str)(b:Bool):Prop:=∃C D,a c=Z (.ref C)/\a d=Z (.ref D)/\vQ K C (.ref D)=Z b
def IX(K:av)(a:Str->Option Value)(c:Str)(T:String)(b:Bool):Prop:=∃C,a c=Z (.ref C)/\vQ K C (.type T)=Z b
theorem XU{K:av}{h:Heap}(KX:K.In h)(G:h.Ns dU d)(a:tf K dU c=Z (Z (.ref C)))(m:vQ K C (.type T)=Z b):IX K d c T b:=⟨C,Ee KX G a,m⟩
section
variable {X:Cx}{ad:Str->St->Hp->Prop}{e c:Expr}{rest:List Stmt}{pos:Pos}{fx:ag->Option DX}{fs:List (ag->Option D)}
theorem XW{rest:List Expr}{c:Str}{np cpos:Pos}(f:uC X ad)(h:Be X.K X.mg c)(g:JA X (e::rest) fs (ai fs))(i:fs.length<=1000:=by decide)(j:X.calm=be:=by rfl)(m:Gl X c:=by rfl)(b:(c==("__debug__":Str))=bi:=by decide) (r:a4 (e::rest) X.env=(bi,eval e X.env)::a4 rest X.env:=by rfl) (d:(ef cpos (a4 rest X.env)).any (·.1)=bi:=by rfl):rM X ad (.Raise (Z (.Call (.Name c np) (e::rest) [] cpos)) am pos) (rK c (ai fs)):=let ⟨_,a,_,q⟩:=h
 XN f a q g i j m b r d
theorem XX(i:Nat)(b:X.N.Nodup)(h:JX X ad e fx)(f:X.N[i]?=Z x:=by rfl)(g:Loc X.env.scope x:=by first|exact sS W|exact Or.inr W)(j:eY e (Z (.Name x pos')) pos.line X.env=pure bi:=by rfl)(hf:X.fn x=be\/X.env.scope.names.lookup x=Z .local:=by first|exact .inl W|exact .inr W):rM X ad (.Assign [.Name x pos'] e pos) (A_ i fx):=⟨cz (kE b f g h.h j hf)<|by rintro w σ H ⟨m,o,R,e,q⟩;refine bS e λd r e=>?_;refine⟨m,d,R,r,?_⟩;cases d with|inl d=>(obtain rfl:=ao e);exactλv t a u=>q _ t a ((R.mono a).set i u)|inr c=>(obtain rfl:=ao e);exactλH' a=>q σ H' a (R.mono a)⟩
theorem XY(i:Nat)(cs:List Str)(v:X.N.Nodup)(j:∃t,X.mg T=Z (.ref t)/\∀c∈cs,∀C,X.mg c=Z (.ref C)->jj X.K C/\Oh X.K (.ref C) (.ref t)=Z be)(w:∀pn E ad,xp (nV X pn E) ad->IV (nV X pn E) ad body g)(y:∀c∈cs,∀C,X.mg c=Z (.ref C)->∀a pn,HeldAt (lQ X a pn) a C->rL (lQ X a pn) i a (d::b) (hf c))(z:X.N[i]?=Z x:=by rfl)(f:X.stack=X.env::X.outer:=by rfl)(m:X.env.frame=Z X.env.locals:=by rfl)(A:X.env.scope.names.lookup x=Z .local:=by rfl)(q:Gl X T:=by rfl)(r:(T==("__debug__":Str))=bi:=by decide):JS X (.Try body [.ExceptHandler (Z (.Name T np)) (Z x) (d::b) u] [] [] pos) (uE i cs g hf):=let ⟨_,B,G⟩:=j
 ⟨Xh f m v z A B q G (λpn E ad H=>(w pn E ad H).h) y r⟩
end
section
theorem pz{ks:List Key}{vs:List V}(a:ks.length=vs.length):(ks.zip vs:List (Key×V)).length=ks.length:=by rw[qt];grind
noncomputable def atK:List Key->List D->Key->Option D|k::ks,v::vs,j=>if k=j then Z v else atK ks vs j|_,_,_=>am
theorem rO{K:av}{H:Hp}:∀{ks:List Key}{vs:List V}{ds:List D},aG K H vs ds->∀(j:Key),ks.length=vs.length->(∀d,atK ks ds j=Z d->∃v,gk (ks.zip vs:List (Key×V)) j=Z v/\Rep K H v d)/\(atK ks ds j=am->gk (ks.zip vs:List (Key×V)) j=am)
 |[],vs,ds,_,j,_=>⟨λd h=>(by injection h),λ_=>rfl⟩|k::ks,[],_,_,j,b=>by simp at b|k::ks,v::vs,_,.cons (d:=d0) (ds:=a) r t,j,b=>by
  have f:=rO (ks:=ks) t j (by simpa using b);show(∀d,(if k=j then Z d0 else atK ks a j)=Z d->∃c,gk ((k,v)::ks.zip vs:List (Key×V)) j=Z c/\Rep K H c d)/\((if k=j then Z d0 else atK ks a j)=am->gk ((k,v)::ks.zip vs:List (Key×V)) j=am);by_cases e:k=j;·rw[if_pos e,tK (by rw[e])];exact⟨λd h=>(by(obtain rfl:=ao h);exact⟨v,W,r⟩),λh=>(by injection h)⟩
  ·rw[if_neg e,tL (by intro z;exact e z)];exact f
end
section
variable {X:Cx}{a:Expr}
def IY(a:Addr)(c:Obj)(kvs:List (Key×V)):It:=⟨λi H=>H a=Z (.da c (.dK kvs))/\∃b,kvs[i]?=Z b,λi H x H'=>H'=H/\∃b,kvs[i]?=Z b/\x=kV b.1,λi H=>H a=Z (.da c (.dK kvs))/\kvs.length=i⟩
theorem rP{zK:List (Addr×Obj)}{σ:St}{H:Hp}{s:aq}(I:Inv X zK σ H s){a:Addr}{c:Obj}{kvs:List (Key×V)}(h:H a=Z (.da c (.dK kvs))):s.heap.get? a=Z c/\(a==ku)=bi/\∃vs ep,KV kvs vs/\Heap.DictAt (gP X.prog X.w) s.heap a vs ep:=by refine jw (I.aR a _ h) λd j e b=>a9 b λvs f g=>?_;clear b;obtain⟨ep,i⟩:=g.dictAt;exact⟨d,e,vs,ep,f,i⟩
theorem IZ{K:av}{H:Hp}{k:Key}(h:mn k=be):Rep K H (kV k) (kD k):=by cases k with|inl i=>exact .int i|inr x=>exact .str x (of_decide_eq_true h)
theorem uF{K:av}{H:Hp}{v:V}{k:Key}(h:lF d=Z k)(r:Rep K H v d):v=kV k/\mn k=be/\d=kD k:=by cases r with|int i=>(obtain rfl:=ao h);exact⟨W,W,W⟩|str x b=>(obtain rfl:=ao h);exact⟨W,decide_eq_true b,W⟩|_=>injection h
theorem I0(h:(gP P w).is k u=be):L2.RelV (kV k) u:=by
 rcases lx h with⟨i,t,rfl,rfl⟩|⟨x,t,rfl,rfl⟩;·exact⟨t,W⟩
 ·exact⟨t,W⟩
theorem XZ{P:a6}{w:World}{K:av}{tg:Expr}(a m:Addr)(ob:Obj)(kvs:List (Key×V))(ep:Nat)(y:∃es,ob.data=.dict es ep):Turn P w K tg (IY a ob kvs) [m] m (λi h=>h.IsKeyIter m a i kvs.length ep) where
 mem:=by exact .head _
 obj:=λi h st b t=>by
  have e:b=m:=by simpa using t
  subst e;refine aM st λo e c d=>?_;clear st;exact⟨o,e,λv z=>by rw[d]at z;injection z⟩
 keep:=λi h h' st k=>by obtain⟨o,e,r⟩:=st;exact⟨o,k m (by exact .head _) o e,r⟩
 item:=by
  intro X N hw O hc i zK s σ H E I hf st Q;subst N hw O;obtain⟨T,U,L⟩:=Q;refine bG (rP I T) λY g2 f=>b8 f λvs x M A=>?_;clear f;have g:x=ep:=by
   refine cE (id A) λo es j _ q2 _=>?_;rw[Y]at j
   (obtain rfl:=ao j);obtain⟨Bg,B⟩:=y;rw[q2]at B;cases B;rfl
  subst g;have C:kvs.length=vs.length:=KV.length M;have mw:i<vs.length:=by rw[<-C];exact(bF.mp L).1
  obtain⟨⟨k,u⟩,hu⟩:∃q,vs[i]?=Z q:=⟨_,cy mw⟩
  have hk:k=U.1:=by
   have q:=KV.keys M;have j:(kvs.map (·.1))[i]?=(vs.map (·.1))[i]?:=by rw[q]
   rw[bW,bW,L,hu]at j;exact(ao j).symm
  refine iH (hf m (by exact .head _)) λf0 f1 f2 f3 f4 f5=>?_;refine wpAny_pyNext_dict_item (by rw[<-C];exact st) A hu λkey h' G J sb=>?_;have I1:Inv X zK σ H {s with heap:=h'}:=I.turned (t':=s.toks) (λb o t e=>(sb.2 b t).trans e) f0 f1 f3 f4 f5;refine aM (id J) λo e c d=>?_;refine⟨key,W,wc (s:={s with heap:=h'}) e c d (by exact W) ⟨kV U.1,H,I1,?_,⟨W,U,L,W⟩,by rw[C];exact J,λb t=>(hf b t).1⟩⟩;rw[<-hk];exact I0 G
 done:=by
  intro X N hw O hc i zK s σ H E I hf st Q;subst N hw O;obtain⟨T,L⟩:=Q;refine bG (rP I T) λY g2 f=>b8 f λvs x M A=>?_;clear f;have g:x=ep:=by
   refine cE (id A) λo es j _ q2 _=>?_;rw[Y]at j
   (obtain rfl:=ao j);obtain⟨Bg,B⟩:=y;rw[q2]at B;cases B;rfl
  subst g;have C:kvs.length=vs.length:=KV.length M;refine iH (hf m (by exact .head _)) λf0 f1 f2 f3 f4 f5=>?_;exact wpAny_pyNext_dict_end (I.ok.hd hc) (by rw[<-C];exact st) A (y8.mpr 'd') λh' eb=>⟨W,I.turned (t':=s.toks) (λb o t e=>eb b o t e) f0 f1 f3 f4 f5⟩
 self:=λ_ _ _ _ _ st h=>wpAny_pyIter_keyiter st h
def X0:D->Option (List D)|.aW ks _=>Z (ks.map kD)|_=>am
def xF(f:ag->Option D):ag->Option (List D):=λb=>(f b).bind X0
def I_(K:av)(H:Hp)(J:It)(ds:List D):Prop:=∃(a:Addr)(b:Obj)(ks:List Key)(vs:List V),J=IY a b (ks.zip vs)/\ds=ks.map kD/\H a=Z (.da b (.dK (ks.zip vs)))/\ks.length=vs.length/\∀k∈ks,mn k=be
theorem X1(A:DE X e f):PI X Y e (λσ H R=>∃i ds,bL X.K H σ i/\xF f i=Z ds/\∀J H',aw H H'->I_ X.K H' J ds->R J H'):=by intro zK s σ H R I ⟨i,ds,Rn,j,q⟩;refine bS j λd B j=>?_;refine aT (A zK s σ H (λv c=>aw H c/\Rep X.K c v d) I ⟨i,d,Rn,B,λv H' s r=>⟨s,r⟩⟩) λu m C=>?_;obtain⟨v,c,t,E,G,L⟩:=C;cases L with
 |@aW a x ks vs ds h r M hn=>
  (obtain rfl:=ao j);cases E;refine bG (rP t h) λN O g=>b8 g λws ep Q y=>?_;clear g;have w:=KV.length Q;refine wpAny_pyIter_dict O y ?_;refine⟨m.heap.objs.size,[m.heap.objs.size],_,_,c,W,t.kept (t':=m.toks) λb o e=>bR _ e,XZ a _ x _ ep ?_,⟨_,cW _ W,W,by rw[<-w];rfl⟩,λb T=>?_,q _ c G ⟨a,x,ks,vs,W,W,h,M,hn.2⟩⟩
  ·refine cE (id y) λo es z _ U _=>?_;rw[N]at z
   (obtain rfl:=ao z);exact⟨es,U⟩
  ·have e:b=m.heap.objs.size:=by simpa using T
   subst e;exact t.qX (ba _) (t.aR.fresh (ba _))|_=>injection j
end
theorem uG{k:Key}:∀{ks:List Key}{vs:List V}{i:Nat},ks.length=vs.length->ks[i]?=Z k->∃v,(ks.zip vs:List (Key×V))[i]?=Z (k,v)
 |[],_,_,_,h=>by simp at h|_::_,[],_,b,_=>by simp at b|a::ks,v::vs,0,_,h=>by
  have e:a=k:=by simpa using h
  exact⟨v,by rw[e];rfl⟩|a::ks,v::vs,i+1,b,h=>by obtain⟨u,c⟩:=uG (ks:=ks) (vs:=vs) (i:=i) (by simpa using b) (by simpa using h);exact⟨u,by simpa using c⟩
theorem X2{K:av}{H:Hp}{O:List Addr}{J:It}{ds:List D}(h:I_ K (az H O) J ds):nT K J H O ds:=by
 intro H' m S y;obtain⟨a,p,ks,vs,rfl,rfl,h,b,q⟩:=h;have c:H' a=Z (.da p (.dK (ks.zip vs))):=(S.trans (hZ H' m)) _ _ h;refine⟨λi d e=>?_,⟨c,by rw[pz b,aE]⟩⟩;rw[bW,bu]at e;obtain⟨k,f,rfl⟩:=e;obtain⟨v,g⟩:=uG b f;refine⟨⟨c,_,g⟩,λx r t=>?_⟩;obtain⟨u,z,j,w⟩:=t;rw[g]at j
 (obtain rfl:=ao j);subst u w;exact⟨SO.refl _ _,IZ (q _ (cj f))⟩
section
variable {X:Cx}{a b:Expr}{pos:Pos}{fa fb:ag->Option D}
def ir:D->D->Option D|.aW ks vs,d=>(lF d).bind (atK ks vs)|_,_=>am
theorem X3(m:X.A.units+1<cLine)(t:JE X a fa)(x:JE X b fb)(y:uf b=be:=by rfl):JE X (.Subscript a b pos) (ae ir fa fb):=⟨cQ (Rh m t.h x.h (ug y))<|by rintro σ H Q ⟨g,d,R,e,q⟩;refine bS e λz B e=>?_;refine bS e λC E e=>?_;refine⟨g,z,R,B,λv N i G=>⟨g,C,R.mono i,E,λu H2 j I=>?_⟩⟩;have c:=G.mono j;cases c with|@aW p J ks vs ds h r L hn=>refine bS e λk M e=>?_;obtain⟨rfl,_⟩:=uF M I;obtain⟨w,hw,f⟩:=(rO r k L).1 d e;exact⟨p,w,W,.inl ⟨_,k,.inr ⟨J,h⟩,W,hw.symm⟩,q w H2 (i.trans j) f⟩|_=>injection e⟩
def iu:D->D->Option D|d,.aW ks vs=>(lF d).bind λk=>Z (.bl (atK ks vs k).isSome)|_,_=>am
def lR:D->D->Option D|d,.aW ks vs=>(lF d).bind λk=>Z (.bl (!(atK ks vs k).isSome))|_,_=>am
theorem Ja{ks:List Key}{vs:List V}(h:H p=Z (.da e (.dK (ks.zip vs))))(r:aG X.K H vs ds)(c:ks.length=vs.length)(k:Key):∃o,rb H p (kV k) o/\o.isSome=(atK ks ds k).isSome:=by refine⟨gk (ks.zip vs:List (Key×V)) k,.inl ⟨_,k,.inr ⟨e,h⟩,W,W⟩,?_⟩;cases q:atK ks ds k with|none=>rw[(rO r k c).2 q];rfl|some d=>obtain⟨w,hw,_⟩:=(rO r k c).1 d q;rw[hw];rfl
end
section
variable {X:Cx}{zK:List (Addr × Obj)}{σ:St}{H:Hp}{s:aq}{O:List Addr}
def Dl(u:HO):Prop:=∃kvs,u=.dK kvs\/∃o,u=.da o (.dK kvs)
theorem Inv.swap(I:Inv X zK σ H s)(h:∀b,H2 b=H b\/∃u f,H b=Z u/\H2 b=Z f/\Dl u/\dG X.prog X.w H s.heap b f/\∀o v,X.jW b≠Z (.da o v)):Inv X zK σ H2 s:=by
 have none_of:∀b,H b=am->H2 b=am:=λb e=>by
  rcases h b with q|⟨u,_,q,_⟩;·rw[q];exact e
  ·rw[e]at q;injection q
 have d:∀b u,H b=Z u->¬Dl u->H2 b=Z u:=λb u e n=>by
  rcases h b with q|⟨j,_,q,_,z,_⟩;·rw[q];exact e
  ·rw[e]at q;(obtain rfl:=ao q);exact absurd z n
 refine⟨I.ok,I.os,I.bare,⟨I.base.keep,I.base.slot,λb o e n g=>none_of b (I.base.free b o e n g),I.base.there,λb xs e=>d b _ (I.base.jV b xs e) (by rintro⟨_,z|⟨_,z⟩⟩<;>injection z),λb o u e=>?_,λb ps e=>?_⟩,I.loc,I.cell,none_of _ I.free,λx c e=>none_of _ (I.fT x c e),λp i=>by obtain⟨a,b,c⟩:=I.pin p i;exact⟨a,none_of _ b,c⟩,λb u e=>?_,I.len⟩
 ·rcases h b with q|⟨_,_,_,_,_,_,z⟩;·rw[q];exact I.base.hD b o u e
  ·exact absurd e (z o u)
 ·obtain⟨more,q⟩:=I.base.jB b ps e;exact⟨more,d b _ q (by rintro⟨_,z|⟨_,z⟩⟩<;>injection z)⟩
 ·have ok:dG X.prog X.w H s.heap b u:=by
   rcases h b with q|⟨_,_,_,q,_,z,_⟩
   ·rw[q]at e;exact I.aR b u e
   ·rw[q]at e;(obtain rfl:=ao e);exact z
  exact ok.jA (λ_ _ _ q=>q) (λc q=>d c _ q (by rintro⟨_,z|⟨_,z⟩⟩<;>injection z)) λc xs q=>d c _ q (by rintro⟨_,z|⟨_,z⟩⟩<;>injection z)
noncomputable def pB:Option HO->Bool|some (.dK _)=>be|_=>bi
noncomputable def iQ(H:Hp)(h:Heap)(O:List Addr):Hp:=λb=>if b∈O then(match H b,h.get? b with|some (.dK kvs),Z a=>Z (.da a (.dK kvs))|_,_=>am)else H b
theorem uH(a:b∉O):iQ H h O b=H b:=if_neg a
theorem X4(a:b∈O)(e:H b=Z (.lst vs)):iQ H h O b=am:=by unfold iQ;rw[if_pos a,e]
theorem X5{K:av}(a:b∈O)(e:H b=Z (dB K b ks vs)):iQ H h O b=am:=by unfold iQ;rw[if_pos a,e]
theorem Bh{h:Heap}(a:b∈O)(e:H b=Z (.dK kvs))(q:h.get? b=Z c):iQ H h O b=Z (.da c (.dK kvs)):=by unfold iQ;rw[if_pos a,e,q]
theorem Jb:aw (az H O) (iQ H h O):=λb o e=>by obtain⟨a,e⟩:=gU e;rw[uH a];exact e
def n0(H:Hp)(O:List Addr):List Addr:=O.filter λa=>!pB (H a)
def rQ(H:Hp)(O:List Addr):List Addr:=O.filter λa=>pB (H a)
theorem kf:b∈n0 H O↔b∈O/\pB (H b)=bi:=by unfold n0;rw[dt];simp
theorem uI:b∈rQ H O↔b∈O/\pB (H b)=be:=by unfold rQ;rw[dt]
theorem Inv.Jc(I:Inv X zK σ H s)(g:jf H O):Inv X (zK++i_ (n0 H O) s.heap) σ (iQ H s.heap O) s:=by
 refine Inv.swap (Inv.hide (O:=n0 H O) I λa i=>g a (kf.mp i).1) λb=>?_;by_cases f:b∈O
 ·obtain⟨u,d,j⟩:=g b f;rcases j with⟨vs,rfl⟩|⟨kvs,rfl⟩|⟨K,ks,vs,rfl⟩;·left;rw[X4 f d,eI (kf.mpr ⟨f,by rw[d];rfl⟩)]
  rotate_left;·left;rw[X5 f d,eI (kf.mpr ⟨f,by rw[d];rfl⟩)]
  ·right;refine aM (Inv.nQ I d (.inr (.inl ⟨_,W⟩))) λo q _ m=>?_;exact⟨.dK kvs,.da o (.dK kvs),by rw[cb λz=>by have:=(kf.mp z).2;rw[d]at this;injection this];exact d,Bh f d q,⟨kvs,.inl W⟩,⟨q,m _ _ q λc xs e=>by rw[cb λz=>by have z:=kf.mp z;obtain⟨u,h,d⟩:=g c z.1;rw[e]at h;(obtain rfl:=ao h);rcases d with⟨_,z⟩|⟨_,z⟩|⟨_,_,_,z⟩<;>injection z];exact e⟩,λo v z=>by have:=I.base.hD b o v z;rw[d]at this;(injection this with this;injection this)⟩
 ·left;rw[uH f,cb λz=>f (kf.mp z).1]
theorem Inv.Jd(I:Inv X zK σ H s)(j:jf H O)(S:aw (iQ H s.heap O) H')(J:Inv X (zK++i_ (n0 H O) s.heap) f H' t):Inv X zK f (lay H O H') t/\∀b∈O,∀u,H' b=Z u->Dl u:=by
 have fz:∀b∈O,∀kvs,H b=Z (.dK kvs)->∃g,H' b=Z (.da g (.dK kvs)):=λb c kvs e=>by refine aM (Inv.nQ I e (.inr (.inl ⟨_,W⟩))) λo q _ _=>?_;exact⟨o,S _ _ (Bh c e q)⟩
 have y:Inv X (zK++i_ (n0 H O) s.heap) f (lay H (rQ H O) H') t:=Inv.swap J λb=>by
  by_cases c:b∈rQ H O
  ·right;obtain⟨h,z⟩:=uI.mp c;obtain⟨u,d,m⟩:=j b h;rcases m with⟨vs,rfl⟩|⟨kvs,rfl⟩|⟨K,ks,vs,rfl⟩;·rw[d]at z;injection z
   rotate_left;·rw[d]at z;injection z
   ·obtain⟨g,q⟩:=fz b h kvs d;exact⟨_,.dK kvs,q,by rw[gS c];exact d,⟨kvs,.inr ⟨g,W⟩⟩,(J.aR b _ q).2,λo v z=>by have:=I.base.hD b o v z;rw[d]at this;(injection this with this;injection this)⟩
  ·left;exact eJ c
 obtain⟨A,hn⟩:=Inv.w8 (O:=n0 H O) I (λa B=>j a (kf.mp B).1) y λb o i=>by
  obtain⟨c,i⟩:=gU i;by_cases p:b∈rQ H O
  ·rw[gS p];exact i
  ·rw[eJ p];refine S _ _ ?_;rw[uH λz=>?_]
   ·exact i
   ·cases q:pB (H b)with|true=>exact p (uI.mpr ⟨z,q⟩)|false=>exact c (kf.mpr ⟨z,q⟩)
 refine⟨?_,λb c C r=>?_⟩
 ·have e:lay H (n0 H O) (lay H (rQ H O) H')=lay H O H':=by
   funext b;by_cases c:b∈O
   ·rw[gS c];by_cases z:pB (H b)=be
    ·rw[eJ (λw=>by have:=(kf.mp w).2;rw[z]at this;injection this),gS (uI.mpr ⟨c,z⟩)]
    ·rw[gS (kf.mpr ⟨c,by simpa using z⟩)]
   ·rw[eJ c,eJ λw=>c (kf.mp w).1,eJ λw=>c (uI.mp w).1]
  rw[<-e];exact A
 ·obtain⟨u,d,m⟩:=j b c;have x:pB (H b)=bi->Dl C:=λz=>by have:=hn b (kf.mpr ⟨c,z⟩);rw[eJ (λw=>by have:=(uI.mp w).2;rw[z]at this;injection this),r]at this;injection this
  rcases m with⟨vs,rfl⟩|⟨kvs,rfl⟩|⟨K,ks,vs,rfl⟩
  ·exact x (by rw[d];rfl)
  rotate_left
  ·exact x (by rw[d];rfl)
  ·obtain⟨g,q⟩:=fz b c kvs d;rw[q]at r
   (obtain rfl:=ao r);exact⟨kvs,.inr ⟨g,W⟩⟩
end
mutual
noncomputable def gx:D->Bool|.aW _ _=>bi|.tab .. =>bi|.tup xs=>h8 xs|.lst xs=>h8 xs|_=>be
noncomputable def h8:List D->Bool|[]=>be|x::xs=>gx x&&h8 xs
end
def Bi(H:Hp)(O:List Addr):Prop:=∀b∈O,∀u,H b=Z u->Dl u
theorem Bi.out(h:Bi H O)(e:H b=Z u)(n:¬Dl u):az H O b=Z u:=by
 by_cases a:b∈O;·exact absurd (h b a u e) n
 ·rw[cb a];exact e
theorem X6(n:h8 (d::ds)=be):gx d=be/\h8 ds=be:=by simpa [h8]using n
theorem Rep.X7{K:av}{H:Hp}{O:List Addr}(b:Bi H O){v:V}(r:Rep K H v d):gx d=be->Rep K (az H O) v d:=by
 have c:∀{a xs},Rd H a (.lst xs)->Rd (az H O) a (.lst xs):=λh=>h.imp (λh=>b.out h (by rintro⟨_,z|⟨_,z⟩⟩<;>injection z))<|by rintro⟨o,h⟩;exact⟨o,b.out h (by rintro⟨_,z|⟨_,z⟩⟩<;>cases z)⟩
 exact r.go (P:=λd=>gx d=be) (Q:=λds=>h8 ds=be) (λ_ h=>h.imp_left λh=>b.out h (by rintro⟨_,z|⟨_,z⟩⟩<;>injection z)) (λ_=>c) (λ_ h=>h.imp_left c) (λn=>by simp[gx]at n) (λn=>by simp[gx]at n) (λn=>by simpa [gx]using n) X6
noncomputable def X8:Option SD->Option D|some (.ak d)=>Z d|some (.ow (Z ks) ds)=>Z (.aW ks ds)|_=>am
def dz(a:ar):ag:=a.map X8
theorem RO.dz{X:Cx}{s:aq}(R:RO X.K H σ e O)(I:Inv X zK σ H s):bL X.K (iQ H s.heap O) σ (dz e):=by refine⟨by rw[R.len];simp[DL.dz],λi d h=>?_⟩;unfold DL.dz at h;rw[bW]at h;cases q:e[i]? with|none=>rw[q]at h;injection h|some o=>rw[q]at h;cases o with|none=>(injection h with h;injection h)|some x=>cases x with|ak d'=>cases h;obtain⟨v,b,c⟩:=R.ak i d q;exact⟨v,b,c.mono Jb⟩|xt κ ds=>(injection h with h;injection h)|ow κ ds=>cases κ with|none=>(injection h with h;injection h)|some ks=>cases h;refine fS (R.ow i _ ds q) λa vs b c f j g=>?_;refine aM (Inv.nQ I f (.inr (.inl ⟨_,W⟩))) λp m _ _=>?_;exact⟨.ref a,b,.aW (Bh c f m) (j.mono Jb) (g ks W).1 (g ks W).2⟩
def vD(f:ag->Option D):ar->Option D:=λa=>(f (dz a)).bind λd=>if gx d=be then Z d else am
theorem X9(h:JE X e f):eL X e (vD f):=⟨by
 intro zK s σ H Q I ⟨r,O,d,R,i,q⟩;refine bS i λd' t i=>?_;split at i;case isFalse=>cases i
 rename_i hn;cases i;refine aT (h.h _ s σ (iQ H s.heap O) (λv g=>aw (iQ H s.heap O) g/\Rep X.K g v d) (Inv.Jc I R.ls) ⟨DL.dz r,d,R.dz I,t,λv g j m=>⟨j,m⟩⟩) λu A w=>?_;obtain⟨v,g,J,x,j,m⟩:=w;obtain⟨y,hz⟩:=Inv.Jd I R.ls j J;have e:az (lay H O g) O=az g O:=by
  funext b;by_cases c:b∈O;·rw[eI c,eI c]
  ·rw[cb c,cb c,eJ c]
 refine⟨v,lay H O g,y,x,q v _ ⟨?_,λa z=>gS z⟩ (by rw[e];exact m.X7 hz hn)⟩;rw[e];intro b o p;obtain⟨c,p⟩:=gU p;rw[cb c];exact j _ _ (by rw[uH c];exact p)⟩
noncomputable def gJ{a:Type}:List Key->List a->Key->a->List a|k::ks,x::xs,j,v=>if k=j then v::xs else x::gJ ks xs j v|_,_,_,v=>[v]
noncomputable def gy:List Key->Key->List Key|k::ks,j=>if k=j then k::ks else k::gy ks j|[],j=>[j]
theorem Je{a:Type}{j:Key}{v:a}:∀{ks:List Key}{vs:List a},ks.length=vs.length->(gy ks j).length=(gJ ks vs j v).length
 |[],[],_=>rfl|k::ks,x::vs,h=>by
  unfold gy gJ;split;·exact h
  ·rw[bh,bh,Je (by simpa using h)]
theorem Bj:∀{ks:List Key},i∈gy ks j↔i∈ks\/i=j
 |[]=>by simp[gy]|k::ks=>by
  unfold gy;split;·rename_i e;subst e;simp only[a7];exact⟨.inl,λh=>h.elim id .inl⟩
  ·simp only[a7,Bj (ks:=ks)];exact or_assoc.symm
theorem Jf:∀{ks:List Key},ks.Nodup->(gy ks j).Nodup
 |[],_=>by simp[gy]|k::ks,h=>by
  unfold gy;split;·exact h
  ·rename_i e;rw[gf]at h⊢;exact⟨λz=>(Bj.mp z).elim h.1 e,Jf h.2⟩
theorem aG.gJ{K:av}{H:Hp}{v:V}{j:Key}(r:Rep K H v d):∀{ks:List Key}{vs:List V}{ds:List D},aG K H vs ds->aG K H (gJ ks vs j v) (gJ ks ds j d)
 |[],[],_,.nil=>.cons r .nil|[],_::_,_,.cons _ _=>.cons r .nil|_::_,[],_,.nil=>.cons r .nil|k::ks,x::vs,_,.cons q t=>by
  unfold DL.gJ;split;·exact .cons r t
  ·exact .cons q (aG.gJ r t)
theorem Jg:∀{ks:List Key}{vs:List V},ks.length=vs.length->ks.Nodup->putK (ks.zip vs:List (Key×V)) j v=(gy ks j).zip (gJ ks vs j v)
 |[],[],_,_=>rfl|k::ks,x::vs,d,hn=>by
  rw[gf]at hn;have f:=Jg (j:=j) (v:=v) (ks:=ks) (vs:=vs) (by simpa using d) hn.2;unfold gy DL.gJ;by_cases e:k=j
  ·subst e;rw[if_pos W,if_pos W];show putK ((k,x)::ks.zip vs) k v=(k,v)::ks.zip vs;unfold putK;rw[if_pos 'k'];rw[br,if_pos W];congr 1;refine(qF λp g=>?_).trans (List.map_id _);rw[if_neg λz=>hn.1 ?_];·rfl
   ·have h:p.1∈ks:=(vo (a:=p.1) (b:=p.2) g).1;rwa [z]at h
  ·rw[if_neg e,if_neg e];have c:=e;show putK ((k,x)::ks.zip vs) j v=(k,x)::(gy ks j).zip (DL.gJ ks vs j v);rw[<-f];unfold putK;rw[ky,decide_eq_false c,NN];split;·rw[br,if_neg c]
   ·rfl
noncomputable def rR(i:Nat)(a:ar):Option (List Key×List D):=match a[i]? with|some (Z (.ow (Z ks) ds))=>Z (ks,ds)|_=>am
theorem Jh(h:rR i a=Z (ks,ds)):a[i]?=Z (Z (.ow (Z ks) ds)):=by
 unfold rR at h;split at h;·cases h;assumption
 ·injection h
section
variable {X:Cx}{e ke c a b:Expr}{pos np:Pos}{x:Str}{fv fk fo:ar->Option D}{t:ag->Option Bool}{tt:ar->Option Bool}{g u:ar->Option aK}
structure KT(X:Cx)(c:Expr)(tt:ar->Option Bool):Prop where h:PT X c (λσ H Q=>∃ρ O b,RO X.K H σ ρ O/\tt ρ=Z b/\∀H',SO H H' O->Q b H')
def xG(t:ag->Option Bool):ar->Option Bool:=λd=>t (dz d)
theorem X_(h:JT X c t):KT X c (xG t):=⟨by intro zK s σ H Q I ⟨r,O,d,R,w,q⟩;refine aT (h.h _ s σ (iQ H s.heap O) (λv i=>aw (iQ H s.heap O) i/\v=d) (Inv.Jc I R.ls) ⟨DL.dz r,d,R.dz I,w,λi j=>⟨j,W⟩⟩) λu C y=>?_;obtain⟨i,J,j,z⟩:=y;subst z;obtain⟨A,hz⟩:=Inv.Jd I R.ls j J;refine⟨lay H O i,A,q _ ⟨λb o m=>?_,λa B=>gS B⟩⟩;obtain⟨p,m⟩:=gU m;rw[cb p,eJ p];exact j _ _ (by rw[uH p];exact m)⟩
noncomputable def uJ(tt:ar->Option Bool)(g u:ar->Option aK):ar->Option aK:=λd=>(tt d).bind λc=>if c=be then g d else u d
theorem Ya{a b:List Stmt}(i:KT X c tt)(j:KB X a g)(m:KB X b u):KS X (.If c a b pos) (uJ tt g u):=⟨cz (qU i.h j.h m.h)<|by rintro r σ H ⟨d,O,o,R,e,q⟩;refine bS e λk p e=>?_;refine⟨d,O,k,R,p,λv S=>?_⟩;cases k with|true=>rw[if_pos W]at e;exact⟨d,O,o,R.mono S,e,q.mono S.same⟩|false=>rw[if_neg ei]at e;exact⟨d,O,o,R.mono S,e,q.mono S.same⟩⟩
noncomputable def uK(fo:ar->Option D):ar->Option aK:=λh=>(fo h).bind λd=>Z (.ret d)
theorem Yb(h:eL X e fo):KS X (.Return (Z e) pos) (uK fo):=⟨cz (tw h.h)<|by
  rintro m σ H ⟨i,O,o,R,e,q⟩;refine bS e λd j e=>?_
  (obtain rfl:=ao e);exact⟨i,O,d,R,j,λv H' S r=>q v H' (S.same.trans (hZ _ _)) (r.mono (hZ _ _))⟩⟩
def n4(i:Nat)(fk fv:ar->Option D):ar->Option aK:=λh=>(fv h).bind λd=>(fk h).bind λk=>(rR i h).bind λp=>(lF k).bind λj=>if p.1.length<aD then Z (.aF (h.set i (Z (.ow (Z (gy p.1 j)) (gJ p.1 p.2 j d)))))else am
theorem Yc{h:ar}{ks:List Key}(R:RO X.K H σ h O)(w:h[i]?=Z (Z (.ow (Z ks) ds)))(y:σ[i]?=Z (Z (.ref p)))(r:Rep X.K (az H O) v d)(hz:ks.length<aD)(B:mn j=be):∃H',rd H p (kV j) v H'/\RO X.K H' σ (h.set i (Z (.ow (Z (gy ks j)) (gJ ks ds j d)))) O/\az H' O=az H O:=by refine fS (R.ow i _ ds w) λN vs A C E G I=>?_;rw[y]at A;cases A;obtain⟨m,q⟩:=I ks W;have:=rd.k (k:=j) (v:=v) E (by rw[pz m];exact hz);rw[Jg m q.1]at this;obtain⟨R2,J⟩:=R.Hm (κ':=Z (gy ks j)) w y C (aG.gJ (ks:=ks) (j:=j) r G) (λL z=>by(obtain rfl:=ao z);exact⟨Je m,Jf q.1,λk M=>(Bj.mp M).elim (q.2 k) λe=>e▸B⟩);exact⟨_,this,R2,J⟩
structure Yd(X:Cx)(st:Stmt)(g:ar->Option aK):Prop where h:PS X st (λDn σ H=>∃ρ O ρ',RO X.K H σ ρ O/\g ρ=Z (.aF ρ')/\∀H' O',aw (az H O) (az H' O')->RO X.K H' σ ρ' O'->Dn.nx σ H')
theorem Ye(i:Nat)(L:X.A.units+1<cLine)(M:eL X e fv)(Q:eL X ke fk)(T:X.N[i]?=Z x)(w:dv X.env.scope x)(U:'f'=bi)(B:'m'=bi)(C:eY e (Z (.Subscript (.Name x np) ke pos')) pos.line X.env=pure bi):Yd X (.Assign [.Subscript (.Name x np) ke pos'] e pos) (n4 i fk fv):=⟨cz (Ri L (hH T w U B) Q.h M.h C)<|by
  rintro Dn σ H ⟨I,O,ρ',R,m,q⟩;refine bS m λd Y m=>?_;refine bS m λk h2 m=>?_;obtain⟨⟨ks,ds⟩,h3,m⟩:=bind_some m;have z:=Jh h3;refine bS m λj hj r=>?_;split at r;case isFalse=>injection r
  rename_i hz;cases r;refine⟨I,O,d,R,Y,λv H1 E r1=>?_⟩;refine b8 (R.ow i _ ds z) λp vs J _=>?_;refine⟨.ref p,J,I,O,k,R.mono E,h2,λy H2 G r2=>?_⟩;obtain⟨rfl,C,_⟩:=uF hj r2;refine aM (Yc ((R.mono E).mono G) z J (r1.mono G.same) hz C) λH3 g R3 hh=>?_;exact⟨p,H3,W,g,q _ O (by rw[hh];exact E.same.trans G.same) R3⟩⟩
theorem Yf(i:Nat)(y:X.A.units+1<cLine)(z:eL X e fv)(B:eL X ke fk)(C:X.N[i]?=Z x)(r:dv X.env.scope x)(E:'f'=bi)(v:'m'=bi)(G:eY e (Z (.Subscript (.Name x np) ke pos')) pos.line X.env=pure bi):KS X (.Assign [.Subscript (.Name x np) ke pos'] e pos) (n4 i fk fv):=⟨cz (Ye i y z B C r E v G).h<|by
  rintro M σ H ⟨I,O,o,R,w,q⟩;refine bS w λd Q m=>?_;refine bS m λk T m=>?_;refine bS m λp U m=>?_;refine bS m λj _ m=>?_;have:∃ρ',o=.aF ρ':=by
   split at m;·(obtain rfl:=ao m);exact⟨_,W⟩
   ·injection m
  obtain⟨ρ',rfl⟩:=this;exact⟨I,O,ρ',R,w,λH' J S L=>q σ H' J S L⟩⟩
end
section
variable {X:Cx}{e:Expr}{pos:Pos}{x y:Str}{eW:List Stmt}{g:ar->Option aK}
structure KD(X:Cx)(e:Expr)(f:ar->Option (List Key×List D)):Prop where h:PE X e (λσ H Q=>∃ρ O z,RO X.K H σ ρ O/\f ρ=Z z/\∀vs H' p,SO H H' O->H' p=am->aG X.K (az H' O) vs z.2->Q (.ref p) (upd H' p (.dK (z.1.zip vs))))
noncomputable def pC:ar->Option (List Key×List D):=λ_=>Z ([],[])
theorem Yg(hf:True:=kz):KD X (.Dict [] [] pos) (λa=>pC a):=⟨AV (fl:=λ_=>Z (([],[]):List Key×List D)) (ds:=Oj) (o:=λz _ vs=>.dK (z.1.zip vs)) (cQ Rl<|by
  rintro σ H Q ⟨a,z,R,b,q⟩
  (obtain rfl:=ao b)
  exactλp c=>q [] H p (aw.refl H) c .nil)⟩
def rS(i:Nat)(f:ar->Option (List Key×List D)):ar->Option aK:=λa=>(f a).bind λz=>if z.1.Nodup/\z.1.length=z.2.length/\z.1.all mn=be then Z (.aF (a.set i (Z (.ow (Z z.1) z.2))))else am
theorem Yh(i:Nat)(b:X.N.Nodup)(h:KD X e f)(c:X.N[i]?=Z x)(d:Loc X.env.scope x)(j:eY e (Z (.Name x pos')) pos.line X.env=pure bi)(hf:X.fn x=be\/X.env.scope.names.lookup x=Z .local):KS X (.Assign [.Name x pos'] e pos) (rS i f):=⟨cz (kE b c d h.h j hf)<|by
  rintro w σ H ⟨m,O,o,R,e,q⟩;refine bS e λz r e=>?_;split at e;case isFalse=>injection e
  rename_i hz
  (obtain rfl:=ao e);refine⟨m,O,z,R,r,λvs A p S t a=>?_⟩;obtain⟨u,v⟩:=(R.mono S).Hl (κ:=Z z.1) i t a λks e=>by(obtain rfl:=ao e);exact⟨by rw[hz.2.1,a.length],hz.1,g7.mp hz.2.2⟩
  exact q _ _ _ (S.same.trans v) u⟩
def xH(i:Nat)(g:ar->Option aK):ar->Option aK:=λa=>match rR i a with|some z=>g (a.set i (Z (.ak (.aW z.1 z.2))))|none=>am
theorem Yi(i:Nat)(h:KB X eW g):KB X eW (xH i g):=⟨by intro zK s σ H r I ⟨t,O,o,R,e,q⟩;unfold xH at e;cases d:rR i t with|none=>rw[d]at e;injection e|some z=>
  rw[d]at e;obtain⟨ks,ds⟩:=z;have c:=Jh d;refine fS (R.ow i _ ds c) λa vs u w f A j=>?_;refine aM (Inv.nQ I f (.inr (.inl ⟨_,W⟩))) λm p _ B=>?_;have C:Inv X zK σ (upd H a (.da m (lM (Z ks) vs))) s:=Inv.swap I λb=>by
   by_cases z:b=a;·subst z;exact .inr ⟨_,_,f,bA,⟨_,.inl W⟩,⟨p,B _ _ p λ_ _ e=>e⟩,λo v z=>by have:=I.base.hD b o v z;rw[f]at this;(injection this with this;injection this)⟩
   ·exact .inl (bf z)
  obtain⟨R2,S⟩:=R.Im (H2:=upd H a (.da m (lM (Z ks) vs))) c u w (λb E=>bf E) λS=>Rep.aW (by rw[cb λz=>by simp at z];exact bA) (A.mono S) (j ks W).1 (j ks W).2;exact h.h zK s σ _ r C ⟨_,_,o,R2,e,q.mono S⟩⟩
def rT(i j:Nat):ar->Option aK:=λa=>(h7 i a).bind λds=>(ds[ds.length-1]?).bind λd=>Z (.aF ((a.set i (Z (.own (ds.take (ds.length-1))))).set j (Z (.ak d))))
theorem Yj{apos cpos:Pos}(i j:Nat)(u:X.N.Nodup)(w:X.N[i]?=Z x)(z:dv X.env.scope x)(A:X.N[j]?=Z y)(B:Loc X.env.scope y)(C:'f'=bi)(m:'m'=bi)(b:(apos.endLine==cpos.line)=be)(E:eY (.Call (.Attribute (.Name x np) "pop" apos) [] [] cpos) (Z (.Name y pos')) pos.line X.env=pure bi)(hf:X.fn y=be\/X.env.scope.names.lookup y=Z .local):KS X (.Assign [.Name y pos'] (.Call (.Attribute (.Name x np) "pop" apos) [] [] cpos) pos) (rT i j):=⟨cz (kE u A B (QW oK PySem.F.slot_list_pop PySem.F.type_list_pop Q2 (hH w z C m) W b) E hf)<|by
  rintro Q σ H ⟨T,O,o,R,c,q⟩;refine bS c λds G c=>?_;refine bS c λd I c=>?_
  (obtain rfl:=ao c);have f:=pg G;refine cE (R.own i ds f) λa vs p J r h=>?_;obtain⟨v,L,M⟩:=h.get I;refine⟨.ref a,p,.inl ⟨W,vs,b9.of r⟩,a,vs,v,W,W,r,by rw[h.length];exact L,?_⟩;obtain⟨R2,t⟩:=R.chg f p J (h.take (ds.length-1));rw[List.dropLast_eq_take,h.length];exact q _ _ O (by rw[t];exact aw.refl _) (R2.set j (by rw[t];exact M))⟩
end
section
variable {X:Cx}{e:Expr}{p:Pos}
theorem Yk{k:Nat}(i:bI k X.A):dW X (dE .In) iu:=⟨by intro zK s σ H x y v u Q I j m ⟨E,G,d,c,t,e,q⟩;cases t with
 |@aW p J ks vs ds h r w hn=>
  refine bS e λk z e=>?_;obtain⟨rfl,_⟩:=uF z c
  (obtain rfl:=ao e);cases m;obtain⟨o,g,B⟩:=Ja (X:=X) h r w k;refine L2.zW (q9 i) I g j λL C=>⟨.bl o.isSome,H,C,W,?_⟩;rw[B];exact q _ H (aw.refl H) (.bl _)|_=>first|injection e|(cases c<;>injection e)⟩
theorem Yl{k:Nat}(i:bI k X.A):dW X (dE .NotIn) lR:=⟨by intro zK s σ H x y v u Q I j m ⟨E,G,d,c,t,e,q⟩;cases t with
 |@aW p J ks vs ds h r w hn=>
  refine bS e λk z e=>?_;obtain⟨rfl,_⟩:=uF z c
  (obtain rfl:=ao e);cases m;obtain⟨o,g,B⟩:=Ja (X:=X) h r w k;refine L2.Ra (q9 i) I g j λL C=>⟨.bl (!o.isSome),H,C,W,?_⟩;rw[B];exact q _ H (aw.refl H) (.bl _)|_=>first|injection e|(cases c<;>injection e)⟩
end
theorem Ym:eR "ValueError"=Z (.type "ValueError"):=by decide+kernel
noncomputable def h_:Nat->D->Bool|n+1,.tup xs=>xs.all (h_ n)|_+1,.int _=>be|_+1,.str _=>be|_,_=>bi
theorem Yn{K:av}{H:Hp}{vs:List V}:∀{ds:List D},aG K H vs ds->∀p∈vs.zip ds,Rep K H p.1 p.2:=by induction vs with|nil=>intro ds _ p h;simp at h|cons v vs a=>intro ds r p h;cases r with|cons r t=>
   rw[Zve,a7]at h;rcases h with rfl|h;·exact r
   ·exact a t p h
theorem rV{K:av}{H:Hp}:∀(n:Nat){v:V}{d:D},Rep K H v d->h_ n d=be->d7 K (i9 H) n v d|0,v,d,r,h=>by cases d<;>simp[h_]at h|n+1,v,d,r,h=>by cases r with|int i=>rfl|str x _=>rfl|tup q r=>refine⟨_,q.elim (λz=>.inl (oQ.mpr z)) λz=>.inr (.inr z),r.length,λp a=>rV n (Yn r p a) ?_⟩;exact g7.mp (show List.all _ _=be from h) _ (vo a).2|_=>simp[h_]at h
section
variable {X:Cx}{H:Hp}{a:Addr}{A:a_}
theorem Yo(h:H a=Z (.ext f))(u:World->(Addr->Option (List V))->Heap->Prop)(c:Addr)(ys:List V)(e:i9 H c=Z ys):i9 (upd H a (.ext u)) c=Z ys:=by rw[oQ]at e⊢;rw[bf (Ew e h (by intro z;injection z))];exact e
theorem Bk(c:A.units+9<cLine):(tP X.prog X.w).room A.in1:=by show A.in1.units+8<cLine;rw[units_in1];omega
end
section
theorem Yp(h:KV kvs vs):∀{i:Nat}{b:Key×V},kvs[i]?=Z b->∃u,vs[i]?=Z (b.1,u)/\RelV b.2 u:=by induction h with|nil=>intro i b h;simp at h|@cons x y _ _ r t c=>intro i b h;cases i with|zero=>cases(show x=b by simpa using h);obtain⟨k,u⟩:=y;cases r.1;exact⟨u,W,r.2⟩|succ i=>obtain⟨u,d,g⟩:=c (show _ from by simpa using h);exact⟨u,by simpa using d,g⟩
theorem Ji{K:av}{H:Hp}:∀(ks:List Key),(∀k∈ks,mn k=be)->aG K H (ks.map kV) (ks.map kD)|[],_=>.nil|k::ks,h=>.cons (IZ (h k bE)) (Ji ks λk b=>h k (cx _ b))
theorem Yq{vs:List V}:∀{b:List Value},vs.length=b.length->(∀(j:Nat)(v:V)(w:Value),vs[j]?=Z v->b[j]?=Z w->L2.RelV v w)->Vals vs b:=by induction vs with
 |nil=>intro b h _;cases b with
  |nil=>exact .nil|cons=>injection h
 |cons v vs c=>intro b h g;cases b with|nil=>injection h|cons u b=>exact .cons (g 0 v u W W) (c (by simpa using h) λj v w d i=>g (j+1) v w (by simpa using d) (by simpa using i))
end
def kY(n:Nat)(a:List Key)(b:List D):List Key->List D->Option Bool
 |k::ks,v::vs=>match atK a b k with
  |none=>Z bi|some y=>(cX n v y).bind λe=>(kY n a b ks vs).map (e&& ·)
 |_,_=>Z be
def uL(n:Nat):D->D->Option D|.aW ks vs,.aW a b=>if ks.length=a.length then(kY n a b ks vs).map .bl else Z (.bl bi)|_,_=>am
section
variable {X:Cx}{zK:List (Addr × Obj)}{σ:L2.St}{H:Hp}{s:aq}{A:a_}
theorem Jj(I:Inv X zK σ H s){n:Nat}(B:A.units+n<cLine){a:List Key}{f:List V}(m:aG X.K H f i)(h:a.length=f.length)(g':KV (a.zip f) p):∀{ks:List Key}{vs:List V}{ds:List D}{ws:List (Key×Value)}{b:Bool},aG X.K H vs ds->ks.length=vs.length->KV (ks.zip vs) ws->kY n a i ks ds=Z b->PySem.W.KeqHits A s p ws b
 |[],vs,ds,ws,b,r,j,g,e=>by cases vs with|nil=>cases r;cases g;(obtain rfl:=ao e);exact .nil|cons _ _=>simp at j
 |k::ks,[],ds,ws,b,r,j,g,e=>by simp at j|k::ks,v::vs,_,ws,b,.cons (d:=d) (ds:=ds) r t,j,g,e=>by rw[Zve]at g;cases g with|@cons _ y _ ws C E=>obtain⟨k2,u⟩:=y;obtain⟨G,J⟩:=C;cases(show k=k2 from G);have ev:=KV.val g' k;unfold kY at e;cases q:atK a i k with
   |none=>
    rw[(rO m k h).2 q]at ev;rw[q]at e
    (obtain rfl:=ao e);exact .miss ev.none_of|some y=>rw[q]at e;obtain⟨w,hw,x⟩:=(rO m k h).1 y q;rw[hw]at ev;obtain⟨O,z,L⟩:=ik.some_of ev;refine bS e λc M e=>?_;obtain⟨Q,N,rfl⟩:=bu.mp e;exact .hit z (z_ I n B J L r x M) (Jj I B m h g' t (by simpa using j) E N)
theorem Yr{n:Nat}(hu:X.A.units+(n+1)<cLine):nI X (dE .Eq) (uL n):=by intro zK s σ H x y v u Q I M N ⟨dx,dy,d,O,j,e,q⟩;cases O with
 |@aW a ob ks vs ds h r t hn=>cases j with
  |@aW a2 T f U p Y j g hn2=>
   cases M;cases N;refine bG (rP I h) λ_ w c=>b8 c λws ep B C=>?_;clear c;refine bG (rP I Y) λ_ E c=>b8 c λi ep2 G J=>?_;clear c;have l1:=KV.length B;have l2:=KV.length G;rw[pz t]at l1;rw[pz g]at l2;have m:(if ks.length=f.length then(kY n f p ks ds).map D.bl else Z (.bl bi))=Z d:=e;by_cases L:ks.length=f.length;·rw[if_pos L]at m;obtain⟨b,hb,rfl⟩:=bu.mp m;refine Zvf (r:=b) w E C.dictOf J.dictOf 'd' (λ_=>Jj I (n:=n) (by rw[units_in1];lia) j g G r t B hb) ⟨.bl b,H,I,?_,q _ H (aw.refl H) (.bl b)⟩;rw[show(ws.length==i.length)=be by simp;lia,oJ];rfl
   ·rw[if_neg L]at m
    (obtain rfl:=ao m);refine Zvf (r:=be) w E C.dictOf J.dictOf (by omega) (λz=>by lia) ⟨.bl bi,H,I,?_,q _ H (aw.refl H) (.bl bi)⟩;rw[show(ws.length==i.length)=bi by simp;omega];rfl|_=>injection e
 |_=>first|injection e|(cases j<;>injection e)
theorem Ys{k:Nat}(a:bI k X.A):dW X (dE .Eq) (uL 64):=⟨Yr (by have:=a.un;lia)⟩
theorem Yt(h:JE X e f)(hn:j_ e=be):JI X c e (xF f):=⟨by rintro zK s σ H R I ⟨a,ds,Rn,b,q⟩;exact X1 h.h zK s σ H R I ⟨a,ds,Rn,b,λJ H' S z=>q J H' S (WG (X2 (by rw[gT];exact z)))⟩,hn⟩
end
noncomputable def atT{a:Type}:List D->List a->D->Option a|k::ks,v::vs,d=>if k=d then Z v else atT ks vs d|_,_,_=>am
noncomputable def mD:List D->D->List D|k::ks,d=>if k=d then k::ks else k::mD ks d|[],d=>[d]
noncomputable def pE{a:Type}:List D->List a->D->a->List a|k::ks,x::xs,d,v=>if k=d then v::xs else x::pE ks xs d v|_,_,_,v=>[v]
theorem Bl:∀{xs:List (D×Addr×Value)}{vs:List V},Vals vs (xs.map (·.2.2))->ik (atT (xs.map (·.1)) vs d) ((atKey xs d).map (·.2))|[],_,r=>by cases r;exact trivial|x::xs,_,r=>by cases r with|@cons v u vs b r t=>
   have a:=Bl (d:=d) t;show ik (if x.1=d then Z v else atT (xs.map (·.1)) vs d) _;unfold atKey at a⊢;by_cases e:x.1=d;·rw[if_pos e,Ol (by simpa using e)];exact r
   ·rw[if_neg e,Om (by simpa using e)];exact a
theorem Bm:∀{xs:List (D×Addr×Value)},(xs.map (·.1)).Nodup->(qs xs d b u).map (·.1)=mD (xs.map (·.1)) d
 |[],_=>rfl|x::xs,hn=>by
  rw[br,gf]at hn;have a:=Bm (d:=d) (b:=b) (u:=u) hn.2;show _=if x.1=d then x.1::xs.map (·.1)else x.1::mD (xs.map (·.1)) d;by_cases e:x.1=d;·rw[if_pos e,storedH_old (p:=x.2) (by unfold atKey;rw[Ol (by simpa using e)];rfl),keys_map_putAt];rfl
  ·rw[if_neg e];unfold qs at a⊢;have c:atKey (x::xs) d=atKey xs d:=by unfold atKey;rw[Om (by simpa using e)]
   rw[c];split;·rename_i h;rw[if_pos h]at a;rw[br,br,a,show putAt d u x=x from if_neg e]
   ·rename_i h;rw[if_neg h]at a;rw[Oo,br,a]
theorem Jk(c:RelV v u):∀{xs:List (D×Addr×Value)}{vs:List V},(xs.map (·.1)).Nodup->Vals vs (xs.map (·.2.2))->Vals (pE (xs.map (·.1)) vs d v) ((qs xs d b u).map (·.2.2))
 |[],_,_,r=>by cases r;exact .cons c .nil|x::xs,_,hn,r=>by rw[br,gf]at hn;cases r with|@cons f i vs j r t=>
   have a:=Jk (d:=d) (b:=b) c hn.2 t;show Vals (if x.1=d then v::vs else f::pE (xs.map (·.1)) vs d v) _;by_cases e:x.1=d;·rw[if_pos e,storedH_old (p:=x.2) (by unfold atKey;rw[Ol (by simpa using e)];rfl),br,map_putAt_of_not_mem xs d u (by rw[<-e];exact hn.1),br,show putAt d u x=(x.1,x.2.1,u) from if_pos e];exact .cons c t
   ·rw[if_neg e];unfold qs at a⊢;have g:atKey (x::xs) d=atKey xs d:=by unfold atKey;rw[Om (by simpa using e)]
    rw[g];split;·rename_i h;rw[if_pos h]at a;rw[br,br,show putAt d u x=x from if_neg e];exact .cons r a
    ·rename_i h;rw[if_neg h]at a;exact .cons r a
section
variable {X:Cx}{zK:List (Addr × Obj)}{σ:L2.St}{H:Hp}{s:aq}{a b:Addr}{ks:List D}{vs:List V}{d:D}{v:V}{A:a_}{E:Value->aq->Prop}{e ke:Expr}{pos:Pos}{tk tv td ty:TE}{o i:Expr}{pos':Pos}{fa fb:ag->Option D}
theorem xI(I:Inv X zK σ H s)(h:H a=Z (dB X.K a ks vs)):(a==ku)=bi/\ks.length<=aD/\∃xs:List (D×Addr×Value),xs.map (·.1)=ks/\(∀x∈xs,d7 X.K (i9 H) 8 (.ref x.2.1) x.1)/\Vals vs (xs.map (·.2.2))/\s.heap.DictOfH (tP X.prog X.w) a xs:=by obtain⟨⟨f,g,xs,j,c,m,o,es,ep,p,q,r,t,y⟩,_⟩:=I.aR a _ h;exact⟨f,g,xs,j,c,m,o,es,ep,p,q,r,t,λx u=>d7.raw I 8 (.ref _) _ _ W (c x u),by simp_all⟩
theorem Yu(j:A.units+9<cLine)(I:Inv X zK σ H s)(h:H a=Z (dB X.K a ks vs))(k:d7 X.K (i9 H) 8 (.ref b) d)(q:∀g,Inv X zK σ H g->Q (.bool (!(atT ks vs d).isSome)) g):wpAny 'b' A (dE .NotIn (.ref b) (.ref a)) Q E s:=by refine bG (xI I h) λm t c=>d6 c λxs f u p r=>?_;clear c;subst f;refine Zt6 (Bk j) (d7.raw I 8 (.ref _) _ _ W k) m r ?_;have:=(Bl (d:=d) p).q_;rw[Dr]at this;rw[<-this];exact q _ (I.tok _)
theorem Yv(j:A.units+9<cLine)(I:Inv X zK σ H s)(h:H a=Z (dB X.K a ks vs))(k:d7 X.K (i9 H) 8 (.ref b) d)(m:atT ks vs d=Z v)(q:∀u g,RelV v u->Inv X zK σ H g->Q u g):wpAny 'b' A (lj (.ref a) (.ref b)) Q E s:=by refine bG (xI I h) λB C c=>d6 c λxs f G t x=>?_;clear c;subst f;have r:=Bl (d:=d) t;rw[m]at r;obtain⟨u,e,y⟩:=ik.some_of r;obtain⟨p,z,rfl⟩:=bu.mp e;exact Zt5 (Bk j) (d7.raw I 8 (.ref _) _ _ W k) x z (q _ _ y (I.tok _))
theorem Jl:∀{ks:List D},(mD ks d).length<=ks.length+1
 |[]=>ba _|k::ks=>by
  unfold mD;split;·exact i7 _
  ·exact Dx Jl
theorem Jm(I:Inv X zK σ H s)(h:H a=Z (dB X.K a ks vs))(k:d7 X.K (i9 H) 8 (.ref b) d)(B:RelV v u)(C:ks.length<aD):∃xs:List (D×Addr×Value),s.heap.DictOfH (tP X.prog X.w) a xs/\xs.length<=aD/\∀h' tk,h'.DictOfH (tP X.prog X.w) a (qs xs d b u)->m2 a s.heap h'->Inv X zK σ (upd H a (dB X.K a (mD ks d) (pE ks vs d v))) {s with heap:=h',toks:=tk}:=by
 refine bG (xI I h) λG J c=>d6 c λxs j q L m=>?_;clear c;subst j;have f:(xs.map (·.1)).Nodup:=by refine dj m λ_ _ _ _ _ c=>jw c λ_ _ _ z=>?_;clear m c;exact z
 refine⟨xs,m,by rwa [aE]at J,λh' tk g M=>?_⟩;refine dj g λo es ep r N c=>jw c λO Q T U=>?_;clear g c;refine wy I (by rw[h];trivial) M ⟨o,r⟩ (z0 ⟨G,cv Jl C,_,Bm f,λx p=>?_,Jk B f L,o,es,ep,r,N,O,Q,by simp_all[Bm]⟩);refine d7.mono (Yo h _) 8 _ _ ?_;unfold qs at p;split at p
 ·obtain⟨y,t,rfl⟩:=aL.mp p;unfold putAt;split;·exact q y t
  ·exact q y t
 grind
theorem Jn(u:X.A.units+8<cLine)(x:PE X ke tk)(y:PE X e tv):PE X (.Dict [Z ke] [e] pos) (λσ H Q=>∀p,H p=am->zX [(tk,tv)] σ (upd H p (dB X.K p [] [])) λps H2=>∃b v d,ps=[(.ref b,v)]/\H2 p=Z (dB X.K p [] [])/\d7 X.K (i9 H2) 8 (.ref b) d/\Q (.ref p) (upd H2 p (dB X.K p [d] [v]))):=by intro zK s σ H Q I h;have z:=I.laid (a:=s.heap.objs.size) (o:=dB X.K s.heap.objs.size [] []) (h':=s.heap.push {cls:=.type "dict",data:=.dict #[]}) (t':=s.toks) (λ_ _ q=>bR _ q) (ba _) (z0 ⟨beq_eq_false_iff_ne.mpr (b6 (b5 I.big)),dQ _,[],W,by simp,.nil,_,#[],0,cW _ W,⟨W,W,W⟩,W,W,List.nodup_nil⟩);refine wpAny_Dict_any W W 'k' (by exact kB ..) (aT (Ro x y Rm zK _ σ _ _ z (h _ (I.aR.fresh (ba _)))) λws T B=>?_);obtain⟨ps,H2,g,c,b,v,d,ep,C,j,G⟩:=B;subst ep;cases c with|@cons _ m _ _ r t=>cases t;obtain⟨m,U⟩:=m;obtain⟨J,L⟩:=r;cases J;refine aM (Jm g C j L (by exact oI _)) λxs M hz N=>?_;unfold storeAll;rw[List.forIn_cons];refine gV (gV (wpAny_dictSet_heap (hsz:=hz) (show(tP X.prog X.w).room X.A from u) (d7.raw g 8 (.ref _) _ _ W j) M λh' f O=>Zy1 ?_));simp only[List.forIn_nil];exact Zy1 ⟨.ref _,_,N h' _ f O,W,G⟩
theorem Yw(q:X.A.units+9<cLine)(t:PE X o td)(w:PE X i ty)(z:PE X e tv)(f:eY e (Z (.Subscript o i pos')) pos.line X.env=pure bi):PS X (.Assign [.Subscript o i pos'] e pos) (λD σ H=>tv σ H λv g=>td σ g λx H2=>ty σ H2 λy c=>∃a b ks vs d,x=.ref a/\y=.ref b/\c a=Z (dB X.K a ks vs)/\ks.length<aD/\d7 X.K (i9 c) 8 (.ref b) d/\D.nx σ (upd c a (dB X.K a (mD ks d) (pE ks vs d v)))):=by intro zK s σ H D I h;refine wpAny_Assign_Subscript (aT (z zK s σ H _ I h) λr B ⟨v,g,C,G,J⟩=>aT (t zK B σ g _ C J) λu L ⟨x,H2,M,N,O⟩=>aT (w zK L σ H2 _ M O) λQ s3 T=>?_) f;obtain⟨y,c,m,U,a,b,ks,vs,d,Y,ey,h1,hl,p,q3⟩:=T;subst Y ey;obtain rfl:u=eQ a:=N;obtain rfl:Q=eQ b:=U;refine aM (Jm m h1 p G hl) λxs D0 hz wr=>?_;exact Zt7 (hsz:=hz) (Bk q) (d7.raw m 8 (.ref _) _ _ W p) D0 λh' j f=>⟨σ,_,wr h' _ j f,q3⟩
theorem Jo{c:Type}{d:D}:∀{ks:List D}{vs:List c},ks.length=vs.length->((atT ks vs d).isSome=be↔d∈ks)|[],[],_=>by simp[atT]|k::ks,v::vs,h=>by have f:=Jo (d:=d) (ks:=ks) (vs:=vs) (by simpa using h);unfold atT;grind
def rW:D->D->Option D|.tup k,.tab ks vs=>if h_ 8 (.tup k)=be/\ks.length=vs.length then Z (.bl (!decide (.tup k∈ks)))else am|_,_=>am
theorem Yx{k:Nat}(j:bI k X.A):dW X (dE .NotIn) rW:=⟨by
 intro zK s σ H x y v u Q I m p ⟨B,C,d,f,t,e,q⟩;unfold rW at e;split at e;case h_2=>injection e
 rename_i kk c kvs;split at e;case isFalse=>injection e
 rename_i g
 (obtain rfl:=ao e);have w:=rV 8 f g.1;cases f with|tup _ _=>cases t with|@tab a _ vs _ h r=>cases m;cases p;refine Yu (by have:=j.un;lia) I h w λG z=>⟨.bl _,H,z,W,?_⟩;have e:(atT c vs (.tup kk)).isSome=decide (.tup kk∈c):=jQ.mpr ((Jo (g.2.trans r.length.symm)).trans decide_eq_true_iff.symm);rw[e];exact q _ H (aw.refl H) (.bl _)⟩
def lS:D->D->Option D|.tab ks vs,.tup k=>if h_ 8 (.tup k)=be/\ks.length=vs.length then atT ks vs (.tup k)else am|_,_=>am
theorem Jp{K:av}{H:Hp}{k d:D}:∀{ks:List D}{vs:List V}{ds:List D},aG K H vs ds->atT ks ds k=Z d->∃v,atT ks vs k=Z v/\Rep K H v d
 |[],_,_,_,e=>by simp[atT]at e|_::_,_,_,.nil,e=>by simp[atT]at e|j::ks,_,_,.cons r t,e=>by
  unfold atT at e⊢;split at e;·simp_all
  ·rename_i z;rw[if_neg z];exact Jp t e
theorem Yy{k:Nat}(w:bI k X.A)(z:JE X o fa)(B:JE X i fb)(C:uf i=be):JE X (.Subscript o i pos) (ae lS fa fb):=⟨by
 intro zK s σ H Q I ⟨m,d,R,e,q⟩;refine bS e λdx G e=>?_;refine bS e λdy J e=>?_;unfold lS at e;split at e;case h_2=>injection e
 split at e;case isFalse=>injection e
 rename_i L;refine FN Zt8.lookup (ug C) (aT (z.h zK s σ H (λv c=>aw H c/\Rep X.K c v _) I ⟨m,_,R,G,λv c a b=>⟨a,b⟩⟩) λu M ⟨x,c,N,O,f,j⟩=>aT (B.h zK M σ c (λv H2=>aw c H2/\Rep X.K H2 v _) N ⟨m,_,R.mono f,J,λv c a b=>⟨a,b⟩⟩) λiv s2 T=>?_);obtain⟨y,H2,p,U,g,t⟩:=T;have Y:=rV 8 t L.1;have j:=j.mono g;cases j with|@tab a ks vs ds h r=>cases t with|tup _ _=>cases O;cases U;obtain⟨v,e1,e2⟩:=Jp r e;exact⟨(by obtain⟨_,_,_,_,_,_,D0⟩:=xI p h;exact D0.typeIs),Yv (by have:=w.un;grind) p h Y e1 λu s' ru I'=>⟨v,H2,I',ru,q v H2 (f.trans g) e2⟩⟩⟩
end
section
variable {K:av}{H H':Hp}{σ:St}{ρ:ar}{O A:List Addr}{p a:Addr}{κ κ':XD}{ds es:List D}
noncomputable def mE:Option SD->Bool|some (.xt _ _)=>bi|_=>be
theorem RO.newX(R:RO K H σ ρ O)(i:Nat)(r:aw H H')(J:∀b∈p::A,H b=am)(L:∀b∈p::A,∃u,H' b=Z u/\mB b u)(t:p∉A)(M:∀G,aw (az H O) G->OX K H' G κ p A ds)(hn:ρ.all mE=be):RO K H' (σ.set i (Z (.ref p))) (ρ.set i (Z (.xt κ ds))) (p::A++O)/\aw (az H O) (az H' (p::A++O)):=by
 have B:∀(j:Nat)(κ:XD)(ds:List D),ρ[j]?=Z (Z (.xt κ ds))->False:=λj κ ds h=>by have:=g7.mp hn _ (cj h);cases this
 have out:∀b u,H b=Z u->b∉p::A:=λb u e z=>by rw[J b z]at e;cases e
 have S:aw (az H O) (az H' (p::A++O)):=λb o e=>by obtain⟨hb,C⟩:=gU e;rw[cb λz=>(bQ.mp z).elim (out b _ C) hb];exact r _ _ C
 have old:∀(j:Nat)(x:SD),(ρ.set i (Z (.xt κ ds)))[j]?=Z (Z x)->(j=i/\i<ρ.length/\x=.xt κ ds)\/(j≠i/\ρ[j]?=Z (Z x)):=by grind
 refine⟨⟨by rw[e_,e_];exact R.len,λb hb=>?_,λj e h=>?_,λj κ' es h=>?_,λj k w N es fs a c f m q=>?_,λj w es h=>?_⟩,S⟩
 ·rcases bQ.mp hb with hb|hb;·exact L b hb
  ·obtain⟨u,e,Q⟩:=R.ls b hb;exact⟨u,r _ _ e,Q⟩
 ·rcases old j _ h with⟨_,_,d⟩|⟨g,h⟩;·cases d
  ·rw[dh (b6 g)];obtain⟨v,c,f⟩:=R.ak j e h;exact⟨v,c,f.mono S⟩
 ·rcases old j _ h with⟨_,_,d⟩|⟨g,h⟩
  ·cases d
  ·rw[dh (b6 g)];refine fS (R.ow j κ' es h) λa E c f m q T=>?_;exact⟨a,E,c,dV _ f,r _ _ m,q.mono S,T⟩
 ·rcases old j _ c with⟨_,_,d⟩|⟨g,c⟩
  ·cases d
  ·rcases old k _ f with⟨_,_,d⟩|⟨y,f⟩
   ·cases d
   ·rw[dh (b6 g)]at m;rw[dh (b6 y)]at q;exact R.inj j k _ _ es fs a c f m q
 ·rcases old j _ h with⟨rfl,U,d⟩|⟨g,h⟩
  ·cases d;refine⟨λY κ' es h'=>?_,p,A,ij (by rw[R.len];exact U),λb hb=>d_ _ hb,t,M _ S,λk κ' es b c f hb=>?_⟩
   ·rcases old Y _ h' with⟨e,_⟩|⟨_,h'⟩
    ·exact .inl e
    ·exact(B _ _ _ h').elim
   ·rcases old k _ c with⟨_,_,d⟩|⟨y,c⟩
    ·cases d
    ·rw[dh (b6 y)]at f;refine cE (R.ow k κ' es c) λa E I _ g3 _=>?_;rw[f]at I;cases I;exact out _ _ g3 hb
  ·exact(B _ _ _ h).elim
theorem RO.rX(R:RO K H σ ρ O)(L:ρ[i]?=Z (Z (.xt κ ds)))(M:σ[i]?=Z (Z (.ref a)))(N:∀b∈a::A,b∈O)(G:a∉A)(Q:Off σ ρ (a::A))(y:∀b,b∉a::A->H' b=H b)(hL:∀b∈a::A,∃u,H' b=Z u/\mB b u)(T:OX K H' (az H O) κ' a A es)(hf:κ'.fl=κ.fl):RO K H' σ (ρ.set i (Z (.xt κ' es))) O/\az H' O=az H O:=by
 have v:az H' O=az H O:=by
  funext b;by_cases t:b∈O;·rw[eI t,eI t]
  ·rw[cb t,cb t,y b λz=>t (N b z)]
 have mw:i<ρ.length:=(bF.mp L).1;have old:∀(j:Nat)(x:SD),(ρ.set i (Z (.xt κ' es)))[j]?=Z (Z x)->(j=i/\x=.xt κ' es)\/(j≠i/\ρ[j]?=Z (Z x)):=by grind
 have U:=(R.xt i κ ds L).1;refine⟨⟨by rw[e_];exact R.len,λb t=>?_,λj e h=>?_,λj m fs h=>?_,λj k m q d fs b g r I J=>?_,λj m fs h=>?_⟩,v⟩
 ·by_cases z:b∈a::A;·exact hL b z
  ·rw[y b z];exact R.ls b t
 ·rw[v];rcases old j _ h with⟨_,f⟩|⟨C,h⟩;·injection f
  ·exact R.ak j e h
 ·rw[v];rcases old j _ h with⟨_,f⟩|⟨C,h⟩
  ·injection f
  ·refine cE (R.ow j m fs h) λb ws g r I J=>?_;exact⟨b,ws,g,r,by rw[y b (Q j m fs b h g)];exact I,J⟩
 ·rcases old j _ g with⟨_,f⟩|⟨C,g⟩
  ·injection f
  ·rcases old k _ r with⟨_,f⟩|⟨hk,r⟩
   ·injection f
   ·exact R.inj j k _ _ d fs b g r I J
 ·rcases old j _ h with⟨rfl,f⟩|⟨C,h⟩
  ·cases f;refine⟨λE κ' d h'=>?_,a,A,M,N,G,by rw[v];exact T,λk κ' d b g r=>?_⟩
   ·rcases old E _ h' with⟨e,_⟩|⟨_,h'⟩
    ·exact .inl e
    ·rw[hf];exact U _ _ _ h'
   ·rcases old k _ g with⟨_,f⟩|⟨hk,g⟩
    ·injection f
    ·exact Q k κ' d b g r
  ·obtain⟨Y,f2,ne⟩:=(U _ _ _ h).resolve_left C;refine bc (R.xt j m fs h) λu w=>fS w λb B q1 q2 q3 q4 q5=>?_;clear w;obtain rfl:=q4.flat f2;obtain rfl:=T.flat (hf.trans Y);have nb:b≠a:=λz=>ne (by rw[q1,M,z]);refine⟨λE q d h'=>?_,b,[],q1,q2,q3,?_,λk q d c g r=>?_⟩
   ·rcases old E _ h' with⟨rfl,f⟩|⟨_,h'⟩
    ·cases f;exact .inr ⟨f2,hf.trans Y,b6 ne⟩
    ·exact u E q d h'
   ·rw[v];exact q4.mono (λc hc=>by rw[aZ.mp hc];exact y b (by simpa using nb)) (aw.refl _)
   ·rcases old k _ g with⟨_,f⟩|⟨_,g⟩
    ·injection f
    ·exact q5 k q d c g r
end
section
variable {X:Cx}{e ke ie:Expr}{pos pos' np:Pos}{x:Str}{fk fv f:ag->Option D}{fo fi:ar->Option D}
def xJ(fk fv:ag->Option D):ag->Option (List D×List D):=λa=>(fk a).bind λk=>(fv a).bind λd=>if h_ 8 k=be/\cG d=be then match k with|.tup kk=>Z ([.tup kk],[d])|_=>am else am
theorem Yz{k:Nat}(B:bI k X.A)(C:JE X ke fk)(E:JE X e fv):PE X (.Dict [Z ke] [e] pos) (λσ H Q=>∃g O z,RO X.K H σ g O/\xJ fk fv (pv g)=Z z/\∀vs H' p,SO H H' O->H' p=am->aG X.K (az H' O) vs z.2->Q (.ref p) (upd H' p (dB X.K p z.1 vs))):=AV (fl:=xJ fk fv) (ds:=Oj) (o:=λz p vs=>dB X.K p z.1 vs) (cQ (Jn (by have:=B.un;lia) C.h E.h)<|by
  rintro σ H Q ⟨g,z,R,a,q⟩;refine bS a λk G a=>?_;refine bS a λd I a=>?_;split at a;case isFalse=>injection a
  rename_i hn;split at a;case h_2=>injection a
  rename_i d0 kk J
  (obtain rfl:=ao a);intro p t;have j:=cU t (dB X.K p [] []);refine⟨g,_,R.mono j,G,λv U m u=>⟨g,d,R.mono (j.trans m),I,λw H2 r L=>?_⟩⟩;have M:=rV 8 (u.mono r) hn.1;have i:H2 p=Z (dB X.K p [] []):=r _ _ (m _ _ bA);cases u with|@tup b _ _ _ _=>
  refine⟨b,w,_,W,i,M,?_⟩;have N:upd H2 p (dB X.K p [.tup kk] [w])=upd (az H2 [p]) p (dB X.K p [.tup kk] [w]):=by
   funext c;by_cases z:c=p;·simp_all[bA]
   ·rw[bf z,bf z,cb (by simpa using z)]
  rw[N];refine q [w] (az H2 [p]) p (λc o y=>?_) (eI (by exact .head _)) (.cons (L.hide (O:=[p]) (λc T=>?_) hn.2) .nil);·have Y:c≠p:=jz y t;rw[cb (by grind)];exact r _ _ (m _ _ (j _ _ y))
  ·cases aZ.mp T;exact⟨_,i,.inr (.inr ⟨_,_,_,W⟩)⟩)
def xK(i:Nat)(fk fv:ag->Option D):ar->Option aK:=λa=>(xJ fk fv (pv a)).bind λz=>if a.all mE=be then Z (.aF (a.set i (Z (.xt (.t am z.1) z.2))))else am
theorem YA{k:Nat}(i:Nat)(r:bI k X.A)(u:X.N.Nodup)(v:JE X ke fk)(w:JE X e fv)(y:X.N[i]?=Z x)(B:Loc X.env.scope x)(C:eY (.Dict [Z ke] [e] np) (Z (.Name x pos')) pos.line X.env=pure bi)(hf:X.fn x=be\/X.env.scope.names.lookup x=Z .local):KS X (.Assign [.Name x pos'] (.Dict [Z ke] [e] np) pos) (xK i fk fv):=⟨cz (kE u y B (Yz r v w) C hf)<|by
  rintro M σ H ⟨E,O,o,R,c,q⟩;refine bS c λz a c=>?_;split at c;case isFalse=>injection c
  rename_i hn
  (obtain rfl:=ao c);have h:z.1.length=1/\z.2.length=1:=by
   refine bS a λk _ a=>?_;refine bS a λd _ a=>?_;split at a;case isFalse=>injection a
   split at a;·grind
   ·injection a
  refine⟨E,O,z,R,a,λvs Q p S j m=>?_⟩;obtain⟨I,J⟩:=(R.mono S).newX (A:=[]) (κ:=.t am z.1) (ds:=z.2) i (cU j (dB X.K p z.1 vs)) (λb g=>by cases aZ.mp g;exact j) (λb g=>by cases aZ.mp g;exact⟨_,bA,.inr (.inr ⟨_,_,_,W⟩)⟩) 'k' (λG L=>⟨W,vs,bA,m.mono L,by rw[m.length,h.1,h.2],λ_ z=>by injection z⟩) hn;exact q _ _ _ (S.same.trans J) I⟩
theorem Jq:∀{ks:List D},d∉ks->mD ks d=ks++[d]|[],_=>rfl|k::ks,h=>by simp_all[a7,not_or,mD,if_neg,b6,Jq,Oo]
theorem Jr{a:Type}{d:D}{v:a}:∀{ks:List D}{vs:List a},ks.length=vs.length->d∉ks->pE ks vs d v=vs++[v]|[],[],_,_=>rfl|k::ks,w::vs,b,h=>by rw[a7,not_or]at h;unfold pE;rw[if_neg (b6 h.1),Jr (by simpa using b) h.2,Oo]
def uM(i:Nat)(fk fv:ar->Option D):ar->Option aK:=λa=>(fv a).bind λd=>(fk a).bind λk=>match a[i]?,k with|some (Z (.xt (.t o ks) ds)),.tup kk=>if h_ 8 (.tup kk)=be/\ .tup kk∉ks/\ks.length<aD then Z (.aF (a.set i (Z (.xt (.t o (ks++[.tup kk])) (ds++[d])))))else am|_,_=>am
theorem YB{k:Nat}(i:Nat)(G:bI k X.A)(I:eL X e fo)(J:eL X ke fi)(L:X.N[i]?=Z x)(c:dv X.env.scope x)(M:'f'=bi)(j:'m'=bi)(Q:eY e (Z (.Subscript (.Name x np) ke pos')) pos.line X.env=pure bi):KS X (.Assign [.Subscript (.Name x np) ke pos'] e pos) (uM i fi fo):=⟨cz (Yw (by have:=G.un;grind) (hH L c M j) J.h I.h Q)<|by
  rintro Dn σ H ⟨z,O,o,R,a,q⟩;refine bS a λd T a=>?_;refine bS a λk U a=>?_;split at a;case h_2=>injection a
  rename_i Y ks ds kk m;split at a;case isFalse=>injection a
  rename_i hn
  (obtain rfl:=ao a);refine bc (R.xt i _ ds m) λ_ g=>b8 g λp A r _=>?_;clear g;refine⟨z,O,d,R,T,λv H1 u r1=>⟨.ref p,r,z,O,_,R.mono u,U,λy H2 w B=>?_⟩⟩;have R2:=(R.mono u).mono w;obtain⟨_,p',A,C,f2,f3,⟨rfl,vs,f4,f5,f6,f8⟩,f7⟩:=R2.xt i _ ds m;rw[r]at C;cases C;have kt:=rV 8 (B.mono (hZ _ _)) hn.1;cases B with|@tup b _ _ _ _=>refine⟨p,b,ks,vs,_,W,W,f4,hn.2.2,kt,?_⟩;rw[Jq hn.2.1,Jr f6 hn.2.1];obtain⟨R3,hh⟩:=R2.rX (A:=[]) (κ':=.t Y (ks++[.tup kk])) (es:=ds++[d]) (H':=upd H2 p (dB X.K p (ks++[.tup kk]) (vs++[v]))) m r f2 f3 f7 (λb E=>bf (by grind)) (λb E=>by cases aZ.mp E;exact⟨_,bA,.inr (.inr ⟨_,_,_,W⟩)⟩) ⟨W,_,bA,f5.append (.cons (r1.mono w.same) .nil),by grind,f8⟩ W;exact q _ _ O (by rw[hh];exact u.same.trans w.same) R3⟩
def GN(c d:Hp)(vs:List V)(a:List D):Prop:=aw c d/\∃A:List Addr,vs=A.map .ref/\A.Nodup/\a=A.map (λ_=>.lst [])/\∀b∈A,c b=am/\d b=Z (.lst [])
theorem YC:GE X (.List [] pos) (cC (.lst [])) (GN g):=cQ (wh gj)<|by
 rintro σ H Q ⟨r,y,vs,h,R,i,⟨S,A,j,t,m,d⟩,q⟩
 (obtain rfl:=ao i);refine⟨dQ _,λp a=>?_⟩;have c:=cU a (.lst []);refine q _ _ c ⟨S.trans c,A++[p],by rw[j,bX];rfl,?_,by rw[m,bX];rfl,λb hb=>?_⟩;·grind
 ·rcases bQ.mp hb with hb|hb;·exact⟨(d b hb).1,c _ _ (d b hb).2⟩
  ·cases aZ.mp hb;refine⟨?_,bA⟩;cases z:g p with|none=>rfl|some u=>rw[S _ _ z]at a;injection a
def rY(i:Nat)(f:ag->Option (List D)):ar->Option aK:=λa=>(f (fz a)).bind λds=>if a.all mE=be then Z (.aF (a.set i (Z (.xt .n ds))))else am
theorem YD{fL:ag->Option (List D)}{v:Pos}{a:Scope}(i:Nat)(hN:X.N.Nodup)(hi:JI X tg iter fL)(tY:∀C c g U,JG (cn X a Y N' C c g U) tg gt/\JF (cn X a Y N' C c g U) I fc)(An:X.N[i]?=Z x)(hx:Loc X.env.scope x)(w:oG a X.env=pure Y)(B:∀y∈a.names,y.2≠ .cell)(E:a.kind=.function)(m:∀y∈a.names,y.2=.local->a.names.lookup y.1=Z .local)(jd:jb X.env.cells Y)(J:jc Y (kA a X.env).names)(L:gq X a N' cap)(hc:X.calm=be)(Az:eY (.ListComp (.List [] t) [⟨tg,iter,I,0⟩] a pos) (Z (.Name x pos')) v.line X.env=pure be)(hf:X.fn x=be\/X.env.scope.names.lookup x=Z .local):KS X (.Assign [.Name x pos'] (.ListComp (.List [] t) [⟨tg,iter,I,0⟩] a pos) v) (rY i (eC cap fL gt fc (cC (.lst [])))):=⟨cz (GL (G:=GN) (λ_ _ s=>⟨s,[],W,.nil,W,by simp⟩) (by rintro _ _ _ _ _ s ⟨s0,A,e1,e2,e3,M⟩;exact⟨s0.trans s,A,e1,e2,e3,λb r=>⟨(M b r).1,s _ _ (M b r).2⟩⟩) hN An hx hc hi.h w B E m jd J L (λC c g U=>by obtain⟨h1,h2⟩:=tY C c g U;exact⟨h1.h,h2.h,λ_=>YC⟩) (pe hi.s) Az hf)<|by
  rintro Dn σ H ⟨ρ,O,o,R,e,q⟩;refine bS e λds h1 e=>?_;split at e;case isFalse=>injection e
  rename_i hn
  (obtain rfl:=ao e);refine⟨fz ρ,ds,R.fz,h1,λvs H1 p s1 hp zZ=>?_⟩;obtain⟨_,A,e1,e2,e3,M⟩:=zZ;subst e1;have Q:p∉A:=(by grind);have T:∀b∈A,upd H1 p (.lst (A.map .ref)) b=Z (.lst []):=λb r=>by rw[bf (λz:b=p=>Q (z▸r))];exact(M b r).2
  have AY:H p=am:=by cases z:H p with|none=>rfl|some u=>rw[s1 _ _ z]at hp;injection hp
  obtain⟨R',S'⟩:=R.newX (A:=A) (κ:=.n) (ds:=ds) i (s1.trans (cU hp (.lst (A.map .ref)))) (λb r=>(a7.mp r).elim (λz=>z▸AY) λz=>(M b z).1) (λb r=>(a7.mp r).elim (λz=>z▸⟨_,bA,.inl ⟨_,W⟩⟩) λz=>⟨_,T b z,.inl ⟨_,W⟩⟩) Q (λG hG=>⟨bA,e2,by simp_all,λj b d q1 q2=>by
   rw[e3,bW,q1]at q2
   (obtain rfl:=ao q2);exact⟨[],[],W,T b (cj q1),.nil⟩⟩) hn;exact q _ _ _ S' R'⟩
noncomputable def xM(i:Nat)(fi fv:ar->Option D):ar->Option aK:=λa=>(fi a).bind λk=>(fv a).bind λd=>match a[i]?,k with|some (Z (.xt .n ds)),.int j=>if 0<=j then match ds[j.toNat]? with|some (.lst es)=>if es.length<aD then Z (.aF (a.set i (Z (.xt .n (ds.set j.toNat (.lst (es++[d])))))))else am|_=>am else am|_,_=>am
theorem YE{apos cpos:Pos}(i:Nat)(I:eL X ie fi)(h:eL X e fo)(hs:uf ie=be)(hi:X.N[i]?=Z x)(hv:dv X.env.scope x)(hn:cZ e=be)(hd:'f'=bi)(J:'m'=bi)(g:(apos.endLine==cpos.line)=be):KS X (.Expr (.Call (.Attribute (.Subscript (.Name x np) ie ip) "append" apos) [e] [] cpos) pos) (xM i fi fo):=⟨cz (oU (lD oK y_ za tI (zQ Fs (hH hi hv hd J) I.h (ug hs)) (ek h.h gj (bP hn)) W (by rw[kP (show [e].all cZ=be by rw[gg,hn];rfl)];rfl) g (bP hn) (plain_any W)) W)<|by
  rintro Dn σ H ⟨Q,O,o,R,a,q⟩;refine bS a λk h1 a=>?_;refine bS a λd h2 a=>?_;split at a;case h_2=>injection a
  rename_i ds j T hk0;split at a;case isFalse=>injection a
  rename_i h0;split at a;case h_2=>injection a
  rename_i es U;split at a;case isFalse=>injection a
  rename_i hz
  (obtain rfl:=ao a);obtain⟨_,p,A,Y,r,e3,⟨e4,e5,e6,e7⟩,e8⟩:=R.xt i _ ds T;refine⟨.ref p,Y,Q,O,_,R,h1,λy H1 w r1=>?_⟩;cases r1;have hA:j.toNat<A.length:=by rw[e6];exact(bF.mp U).1
  have c:=cy hA;have E:=cj c;refine cM (e7 _ _ _ c U) λvs Bg e9 L B=>?_;cases e9;have o1:H1 p=Z (.lst (A.map .ref)):=(w.own p (r p (by exact .head _))).trans e4;have o2:H1 A[j.toNat]=Z (.lst vs):=(w.own _ (r _ (cx _ E))).trans L;refine⟨p,_,j,.ref A[j.toNat],W,W,b9.of o1,?_,.inl ⟨W,vs,b9.of o2⟩,Q,O,d,R.mono w,h2,λv H2 M r2=>?_⟩;·have:=wo (xs:=A.map V.ref) (j:=j.toNat) (v:=.ref A[j.toNat]) (by rw[bW,c];rfl);rwa [ni h0]at this
  ·have R2:=(R.mono w).mono M;have S:=w.trans M;have o3:H2 A[j.toNat]=Z (.lst vs):=(M.own _ (r _ (cx _ E))).trans o2;have nd:∀b,b∉p::A->upd H2 A[j.toNat] (.lst (vs++[v])) b=H2 b:=λb c=>bf λz=>c (z▸cx _ E);have ne:p≠A[j.toNat]:=λz=>e3 (z▸E);refine⟨_,vs,v,W,W,o3,by rw[B.length];exact hz,?_⟩;have hL:∀b∈p::A,∃u,upd H2 A[j.toNat] (.lst (vs++[v])) b=Z u/\mB b u:=λb c=>by
    by_cases z:b=A[j.toNat]
    ·rw[z];exact⟨_,bA,.inl ⟨_,W⟩⟩
    ·rw[bf z];exact R2.ls b (r b c)
   have hX:OX X.K (upd H2 A[j.toNat] (.lst (vs++[v]))) (az H2 O) .n p A (ds.set j.toNat (.lst (es++[d]))):=by
    refine⟨by rw[bf ne];exact(S.own p (r p (by exact .head _))).trans e4,e5,by rw[e_];exact e6,λm b x C G=>?_⟩;by_cases t:j.toNat=m
    ·subst t;rw[ij 'd']at G;rw[c]at C
     (obtain rfl:=ao C)
     (obtain rfl:=ao G);exact⟨_,_,W,bA,(B.mono S.same).append (.cons r2 .nil)⟩
    ·rw[dh t]at G;refine cM (e7 m b x C G) λus fs g1 g2 g3=>?_;refine⟨us,fs,g1,?_,g3.mono S.same⟩;rw[bf]
     ·exact(S.own b (r b (cx _ (cj C)))).trans g2
     ·intro z;exact t ((Ef hA e5).mp (by rw[c,C,z]))
   obtain⟨R3,hh⟩:=R2.rX (κ':=.n) T Y r e3 e8 nd hL hX W;exact q _ _ O (by rw[hh];exact S.same) R3⟩
def xN(i:Nat)(f:ag->Option D):ar->Option aK:=λa=>(h7 i a).bind λds=>(f (fz a)).bind λd=>match d with|.lst es=>if ds.length+es.length<=aD/\cO es=be then Z (.aF (a.set i (Z (.own (ds++es)))))else am|_=>am
def YF:V->List V->Hp->VK->Prop:=λx vs H Q=>∃l b xs a,x=.ref l/\vs=[.ref b]/\H l=Z (.lst xs)/\Rd H b (.lst a)/\xs.length+a.length<=aD/\Q .aC (upd H l (.lst (xs++a)))
theorem YG:tF X "list.extend" YF:=by
 intro zK s σ H x vs v L Q I w y h;refine b_ h λl b xs c=>d6 c λA j m p i=>bG i λB hz q=>?_;clear h c i;subst j;subst m;cases w;obtain⟨u,rfl,C⟩:=y.one;cases C;refine bc (I.tG p) λz c=>cM c λd n r M e=>?_;clear c;refine cE (Inv.rh I B) λa n2 t E G _=>?_;have J:A.length=a.length:=t.length;have hsz:d.toArray.size+a.toArray.size<=aD:=by rw[di,di];grind
 have g:¬(!d.toArray.isEmpty&&Dq (d.toArray.size+a.toArray.size))=be:=by rw[Fx hsz,vt];exact ei
 refine y3 ZtX ⟨_,e,W⟩ ZtY (ZtZ _ _) (Zt0 l d.toArray n b a.toArray n2 g 'd' (fo hsz)) ⟨e,G,?_⟩;refine⟨.aC,_,I.wu (its':=d++a) p e 'k' (r.append t) ?_,W,q⟩;rw[bB];omega
theorem YH{apos cpos:Pos}(i:Nat)(h:JE X e f)(z:X.N[i]?=Z x)(A:dv X.env.scope x)(hn:cZ e=be) (B:'f'=bi) (m:'m'=bi) (g:(apos.endLine==cpos.line)=be):KS X (.Expr (.Call (.Attribute (.Name x np) "extend" apos) [e] [] cpos) pos) (xN i f):=⟨cz (oU (lD oK ZuG ZuH YG (hH z A B m) (ek h.h gj (bP hn)) W (by rw[kP (show [e].all cZ=be by rw[gg,hn];rfl)];rfl) g (bP hn) (plain_any W)) W)<|by
  rintro Dn σ H ⟨C,O,o,R,c,q⟩;refine bS c λds E c=>?_;refine bS c λd G c=>?_;split at c;case h_2=>injection c
  rename_i es;split at c;case isFalse=>injection c
  rename_i hz
  (obtain rfl:=ao c);have j:=pg E;refine cE (R.own i ds j) λa vs p I J e4=>?_;refine⟨.ref a,p,.inl ⟨W,vs,b9.of J⟩,fz C,.lst es,R.fz,G,λv H1 L M=>?_⟩;have S:=SO.of R.ls L;have r:=R.mono S;refine cE (r.own i ds j) λa' t u f2 Q w=>?_;rw[p]at u;cases u;cases M with|@lst b T _ U y=>refine⟨a,b,t,T,W,W,Q,U,by rw[w.length,y.length];exact hz.1,?_⟩;obtain⟨R2,Y⟩:=r.chg j p I (w.append (y.hide r.ls hz.2));exact q _ _ O (by rw[Y];exact S.same) R2⟩
end
end DL
namespace HT
open PySem PySem.Spec PyProof.Rows L2
section
variable {prog:a6}{w:World}{A:a_}{E:Value->aq->Prop}{s:aq}
theorem YI:vr (.type "list_reverseiterator") "__len__"=pure am:=by rw[D1,D2];kernel_rfl
theorem YJ:vr (.type "list_reverseiterator") "__length_hint__"=pure (Z (.builtin "list_reverseiterator.__length_hint__")):=by rw[D1,D2];kernel_rfl
noncomputable abbrev xO(items:Array Value):Nat->Value->Prop:=λi v=>items[items.size-1-i]?=Z v
theorem YK{c:Array Value}(C:A.in1.handled=am)(u:l≠I)(f:s.heap.IsRevIter I l ((c.size:Int)-1))(B:s.heap.IsList l c)(G:∀g h,Moved [I] (λa b=>b=a) s g->tj (xO c) h c.size->Q h.toList g)(hn:c.size<=aD):wpAny 'h' A (vM (.ref I)) Q E s:=by
 have ad:=(Walks.listRev (prog:=prog) (w:=w) C I l u c).toS;have v:(λi (s:aq)=>i<=c.size/\s.heap.IsRevIter I l ((c.size:Int)-1-(i:Int))/\s.heap.IsList l c) 0 s:=⟨dQ _,by simpa using f,B⟩;obtain⟨_,H,_⟩:=id f;obtain⟨_,J,_⟩:=id B;have j:s.heap.objs.size∉[I,l]:=λr=>by
  simp only[a7,kC,or_false]at r;rcases r with z|z;·exact absurd (bz H) (by rw[<-z];exact js _)
  ·exact absurd (bz J) (by rw[<-z];exact js _)
 have x:s.heap.objs.size≠I:=λe=>j (by simp[e]);unfold vM;refine gV (zd (lr F.entry_proto_collect ?_));rw[oM F.plain_proto_collect _];show wpAny _ A.in1 (newList []>>=λl=>again (.builtin "list.__iadd__" ⟨[l,.ref I],[]⟩)) _ _ s;refine gV (wpAny_newObj_type (Zy1 ⟨sY Zvg _,lr F.entry_list_iadd ?_⟩));rw[oM Zvg _];have d:=ad.frame 0 s (s.heap.push {cls:=.type "list",data:=.seq ([]:List Value).toArray}) s.toks v (ba _) λb _ o e=>bR _ e;have t:zc {s with heap:=s.heap.push {cls:=.type "list",data:=.seq ([]:List Value).toArray}} (.ref I) "list_reverseiterator":=d.2.1.typeIs;have L:D7 (.ref s.heap.objs.size) (.ref I)=bi:=by simp[D7,x]
 show wpAny _ A.in1 (D6 (.ref s.heap.objs.size) (.ref I) (.ref s.heap.objs.size)) _ _ _;unfold D6;refine gV (sP t ?_);rw[if_neg (by rw[L];decide)];refine gV (ad.self 0 _ _ _ d (gV (wpAny_holding ?_)));unfold N8;refine gV (sU t YI ?_);show wpAny _ A.in1 (specialOf (eQ I) (oF "__length_hint__")>>=_) _ _ _;refine gV (sU t YJ ?_);generalize az:("list_reverseiterator.__length_hint__":String)=m;(fail_if_success (clear az m));wp_delta;rw[show splitId m=Z ("list_reverseiterator","__length_hint__") from by subst az;decide+kernel];subst az;refine gV (y4 (b:=be) t (by rw[zb];kernel_rfl) (Zy1 ?_));rw[if_neg 'a'];refine Zy1 ⟨sY F.plain_extend_loop _,Zu8 ad hn _ j _ c.size 0 _ _ _ W (dQ _) d (cW _ W) (Zu9 _) λg p M r y q=>?_⟩;show wpAny _ A (load s.heap.objs.size>>=_) _ _ g;exact gV (wpAny_load y (Zy1 (G g p (Moved.drop_new (o:={cls:=.type "list",data:=.seq ([]:List Value).toArray}) (tk:=s.toks) r (ba _)) q)))
theorem YL(I l:Addr)(c:Array Value)(hsz:c.size<=aD):Meets (Builtin.«tuple.__new__» ⟨[.type "tuple",.ref I],[]⟩) (λA R s=>A.handled=am/\l≠I/\s.heap.IsRevIter I l ((c.size:Int)-1)/\s.heap.IsList l c/\∀(f:aq)(d:Array Value),Moved [I] (λa b=>b=a) s f->tj (xO c) d c.size-> R (.ok (.ret (.ref f.heap.objs.size))) {f with heap:=f.heap.push {cls:=.type "tuple",data:=.seq d}}):=.of_wp<|by
  rintro prog w A R s ⟨q,i,g,r,h⟩;have p:=sub_tuple_self;have j:=init_tuple_lookup;have t:=madeHere_tuple;have u:s.TypeIs (.ref I) "list_reverseiterator":=g.typeIs;have m:A.in1.in1.handled=am:=q
  wp_walk using sP u,YK (hn:=hsz) m i g r;intro f d x e;show wpAny _ _ (vq d.toList.toArray>>=λv=>ret v) _ _ _;unfold vq;refine gV (wpAny_newObj_type (Zy1 ⟨_,W,?_⟩) (show d.toList.toArray.size<=aD by simp only[Zvh];rw[e.1];exact hsz));rw[show d.toList.toArray=d by simp];exact h f d x e
theorem YM{a:Array Value}(r:A.handled=am)(f:l≠I)(g:s.heap.IsRevIter I l ((a.size:Int)-1))(t:s.heap.IsList l a)(hsz:a.size<=aD)(h:∀(h':Heap)(tk:Nat)(c:Array Value),(∀b o,b≠I->s.heap.get? b=Z o->h'.get? b=Z o)->tj (xO a) c a.size->Q (.ref h'.objs.size) {s with heap:=h'.push {cls:=.type "tuple",data:=.seq c},toks:=tk}):wpAny 'h' A (call (.type "tuple") [.ref I]) Q E s:=by refine callType_new F.called_tuple 'a' (F.typeCall_tuple_1 _) (F.newCall_tuple_1 _) (λi=>ZuE i _) F.entry_tuple_new (YL I l a hsz) ⟨r,f,g,t,λu c v d=>⟨⟨_,cW _ W,W⟩,?_⟩⟩;obtain⟨x,m,p,q,_⟩:=v;obtain⟨h',g',d',j,y⟩:=u;simp only at m p q;subst m p q;exact h h' j c (λb o z e=>x b o (by simpa using z) e) d
end
end HT
namespace DL
open PySem PySem.Spec PyProof.Rows L2
section
variable {X:Cx}{a:Expr}{fa:ag->Option D}{p1 p2 p3 p4:Pos}
theorem YN{ys:List V}{b:List Value}{c:Array Value}(f:Vals ys b)(h:tj (HT.xO b.toArray) c b.toArray.size):Vals ys.reverse c.toList:=by
 have e:c.toList=b.reverse:=by
  refine Du λj=>?_;have g:c.size=b.length:=by rw[h.1,di]
  by_cases d:j<b.length;·have i:=h.2 j (c[j]''d') (nh 'd');rw[List.getElem?_reverse d,sQ,nh (by omega),<-i];show b.toArray[_]?=_;rw[List.getElem?_toArray,di]
  ·rw[sZ (by simpa [g]using d),sZ (by simpa using d)]
 rw[e];clear h e;induction f with|nil=>exact .nil|cons r t m=>rw[Eg,Eg];exact m.append (.cons r .nil)
noncomputable def xP(fa:ag->Option D):ag->Option D:=λb=>(fa b).bind λd=>match d with|.lst ds=>Z (.tup ds.reverse)|_=>am
theorem YO:eR "reversed"=Z (.type "reversed"):=by decide+kernel
theorem Jt{K:av}{H:Hp}:∀{vs:List V}{ds:List D},aG K H vs ds->aG K H vs.reverse ds.reverse|_,_,.nil=>.nil|_,_,.cons r t=>by rw[Eg,Eg];exact(Jt t).append (.cons r .nil)
theorem YP(B:X.mg "tuple"=am)(p:X.mg "reversed"=am)(C:JE X a fa)(E:Gl X "tuple")(r:Gl X "reversed")(hn:cZ a=be)(G:X.calm=be):JE X (.Call (.Name "tuple" p1) [.Call (.Name "reversed" p2) [a] [] p3] [] p4) (xP fa):=⟨by intro zK s σ H Q I ⟨J,d,R,m,q⟩;refine bS m λdl L m=>?_;refine wpAny_Call_Name_kw (lz I E B DL.GQ (sL ?_ (bP W) (plain_any W)) 'a' (by exact W));rw[bP W];refine Dg (wpAny_Call_Name_kw (lz I r p YO (sL (aT (ek C.h gj (bP hn) _ zK s σ H (λvs f=>∃v,vs=[v]/\aw H f/\Rep X.K f v dl) I ⟨J,dl,R,L,λv f c t=>⟨v,W,c,t⟩⟩) λus c M=>?_) (bP hn) (plain_any W)) 'a' (by exact W)));obtain⟨vs,f,g,N,v,ev,O,t⟩:=M;subst ev;obtain⟨u,rfl,T⟩:=kG N;cases t with
 |@lst l ys ds h U=>
  (obtain rfl:=ao m);cases T;obtain⟨i,w,x⟩:=Inv.jE g h;have hz:i.toArray.size<=aD:=by refine cE (Inv.rh g h) λ_ _ _ _ _ y=>?_;rw[di,<-w.length];exact y
  refine call_reversed_list x ?_;have lt:∀b o,c.heap.get? b=Z o->b≠c.heap.objs.size:=λb o e=>b5 (bz e);have I2:Inv X zK σ f {c with heap:=c.heap.push (revObj l ((i.toArray.size:Int)-1))}:=g.kept (t':=c.toks) λb o e=>bR _ e;refine Df ?_;refine HT.YM (g.ok.hd G) (by obtain⟨_,e,_⟩:=x;exact lt l _ e) ⟨_,cW _ W,W,W⟩ (x.at λo e=>bR _ e) hz λh' tk z Y j=>?_;have A:Inv X zK σ f {c with heap:=h',toks:=tk}:=g.kept λb o e=>Y b o (lt b o e) (bR _ e);have hf:=A.aR.fresh (ba _);refine⟨.ref h'.objs.size,_,A.laid (t':=tk) (o:=.tup ys.reverse) (λb ob q=>bR _ q) (ba _) ⟨?_,z.toList,YN w j,?_⟩,W,q _ _ (O.trans (cU hf _)) (.tup (.of bA) ((Jt U).mono (cU hf _)))⟩;·rw[List.length_reverse,w.length];simpa using hz
  ·rw[Zvh];exact Dk _ _|_=>injection m⟩
end
def uN(x:D):D->Option D|.lst ys=>if(ys.all jZ&&!hV x)=be then Z (.bl (!(ys.any λy=>eH y x)))else am|_=>am
theorem YQ{X:Cx}{k:Nat}(c:bI k X.A):dW X (dE .NotIn) uN:=⟨by intro zK s σ H x y v u Q I g i ⟨j,B,d,m,t,e,q⟩;cases t with|@lst a xs ds h r=>cases i;obtain⟨w,z,p⟩:=Inv.jE I h;obtain⟨rfl,k⟩:=wK (A:=X.A.in1) (f:=λb=>.bl (!b)) I (q9 c) g m z r e;exact Zvi (mr j) p k ⟨.bl _,H,I,W,q _ H (aw.refl H) (.bl _)⟩|_=>injection e⟩
noncomputable abbrev ET:=Option (List D)×List D
noncomputable def xd(a:Addr):Option (List D)->XD|none=>.x a|some ks=>.t (Z a) ks
def EX(K:av)(H G:Hp)(as:List Addr)(E:List ET):Prop:=as.length=E.length/\∀(j:Nat)(a:Addr)(e:ET),as[j]?=Z a->E[j]?=Z e->OX K H G (xd a e.1) a [] e.2
theorem Bo(a:Addr)(o:Option (List D)):(xd a o).fl=be:=by cases o<;>rfl
theorem YR{K:av}{H G:Hp}{a:Addr}{o:Option (List D)}{es:List D}(h:OX K H G (xd a o) a [] es):∃u,H a=Z u/\mB a u:=by cases o with|none=>exact by obtain⟨_,_,vs,h,_⟩:=h;exact⟨_,h,.inl ⟨_,W⟩⟩|some ks=>exact by obtain⟨_,vs,h,_⟩:=h;exact⟨_,h,.inr (.inr ⟨_,_,_,W⟩)⟩
theorem EX.at{K:av}{H G:Hp}{as:List Addr}{E:List ET}(h:EX K H G as E){a:Addr}(c:a∈as):∃e:ET,OX K H G (xd a e.1) a [] e.2:=by
 obtain⟨j,b⟩:=zh c;have d:j<E.length:=by rw[<-h.1];exact(bF.mp b).1
 exact⟨_,h.2 j a _ b (cy d)⟩
theorem EX.ls{K:av}{H G:Hp}{as:List Addr}{E:List ET}(h:EX K H G as E):jf H as:=λa b=>by obtain⟨_,h⟩:=EX.at h b;exact YR h
theorem EX.mono{K:av}{H H' G c:Hp}{as:List Addr}{E:List ET}(h:EX K H G as E)(e:∀b∈as,H' b=H b)(s:aw G c):EX K H' c as E:=⟨h.1,λj a x d f=>(h.2 j a x d f).mono (λb g=>by rw[aZ.mp g];exact e a (cj d)) s⟩
def pF(K:av)(F:List D->List ET->Option (D×List ET)):Sp:=λvs H Q _=>∃a as ds E d E',vs=a++as.map .ref/\as.Nodup/\EX K H (az H as) as E/\aG K (az H as) a ds/\F ds E=Z (d,E')/\∀v H',aw (az H as) (az H' as)->EX K H' (az H' as) as E'->Rep K (az H' as) v d->Q v H'
def mF(n:Nat)(ds:List D)(as:List Addr)(E:List ET):ar:=(ds.map λd=>Z (.ak d))++((Zvj (λa (e:ET)=>Z (SD.xt (xd a e.1) e.2)) as E)++yZ (n-(ds.length+E.length)) am)
theorem rZ{n:Nat}{ds:List D}(h:(mF n ds as E)[j]?=Z (Z x)):(∃d,ds[j]?=Z d/\x=.ak d)\/∃m a e,j=ds.length+m/\as[m]?=Z a/\E[m]?=Z e/\x=.xt (xd a e.1) e.2:=by
 unfold mF at h;by_cases f:j<ds.length;·rw[iF (by simpa using f),bW]at h;cases q:ds[j]? with|none=>rw[q]at h;injection h|some d=>rw[q]at h;cases h;exact .inl ⟨d,W,W⟩
 ·rw[m8 (by simp;lia),aE]at h;refine .inr ⟨j-ds.length,?_⟩;generalize g:j-ds.length=m at h;by_cases hz:m<(Zvj (λa (e:ET)=>Z (SD.xt (xd a e.1) e.2)) as E).length;·rw[iF hz,List.getElem?_zipWith]at h;cases b:as[m]? with|none=>rw[b]at h;injection h|some a=>cases c:E[m]? with|none=>rw[b,c]at h;injection h|some e=>rw[b,c]at h;cases h;exact⟨a,e,by lia,W,W,W⟩
  ·rw[m8 'd',NQ]at h;split at h<;>cases h
theorem YS{K:av}{H:Hp}{N:List Str}{g:List V}{ds:List D}{as:List Addr}{E:List ET}(M:ds.length+E.length<=N.length)(hn:as.Nodup)(u:EX K H (az H as) as E)(r:aG K (az H as) g ds):RO K H (start N (g++as.map .ref)) (mF N.length ds as E) as:=by
 have hlen:=r.length;have C:=u.1;have y:∀j v,(g++as.map V.ref)[j]?=Z v->(start N (g++as.map .ref))[j]?=Z (Z v):=λj v e=>by have G:=(bF.mp e).1;unfold L2.start;rw[iF (by simpa using G),bW,e];rfl
 have w:∀m a,as[m]?=Z a->(start N (g++as.map .ref))[ds.length+m]?=Z (Z (.ref a)):=λm a e=>y _ _ (by rw[m8 'd',show ds.length+m-g.length=m by lia,bW,e];rfl);refine⟨by simp[L2.start,mF];lia,u.ls,λj d h=>?_,λj κ x h=>?_,λi j κ κ' O Q b h _ _ _=>?_,λj κ x h=>?_⟩
 ·rcases rZ h with⟨d',f,c⟩|⟨_,_,_,_,_,_,c⟩;·cases c;obtain⟨v,t,p⟩:=r.get f;exact⟨v,y j v (by rw[iF (bF.mp t).1];exact t),p⟩
  ·injection c
 ·rcases rZ h with⟨d',f,c⟩|⟨_,_,_,_,_,_,c⟩<;>injection c
 ·rcases rZ h with⟨d',f,c⟩|⟨_,_,_,_,_,_,c⟩<;>injection c
 ·rcases rZ h with⟨d',f,c⟩|⟨m,a,e,rfl,f,t,c⟩;·injection c
  ·cases c;refine⟨λI κ' A h'=>?_,a,[],w m a f,λb J=>by rw[aZ.mp J];exact cj f,by simp,u.2 m a e f t,λI κ' A b h' _=>?_⟩
   ·rcases rZ h' with⟨d',_,c⟩|⟨B,L,A,rfl,p,_,c⟩;·injection c
    ·cases c;by_cases z:B=m
     ·exact .inl (by rw[z])
     ·refine .inr ⟨Bo _ _,Bo _ _,λq=>z ?_⟩;rw[w m a f,w B L p]at q;cases q;exact((Ef (bF.mp p).1 hn).mp (p.trans f.symm))
   ·rcases rZ h' with⟨d',_,c⟩|⟨_,_,_,_,_,_,c⟩<;>injection c
noncomputable abbrev MU:=ar->Option (D×List (Addr×ET))
structure lT(X:Cx)(st:List Stmt)(u:MU):Prop where h:fU X st (λDn σ H=>∃ρ O r,RO X.K H σ ρ O/\u ρ=Z r/\∀v H' O',aw (az H O) (az H' O')->(∀x∈r.2,x.1∈O'/\OX X.K H' (az H' O') (xd x.1 x.2.1) x.1 [] x.2.2)->Rep X.K (az H' O') v r.1->Dn.rt v H')
section
variable {X:Cx}{e:Expr}{st:Stmt}{rest:List Stmt}{pos:Pos}{fo:ar->Option D}{g:ar->Option aK}{u:MU}
noncomputable def kZ(g:ar->Option aK)(u:MU):MU:=λa=>(g a).bind λo=>match o with|.aF ρ'=>u ρ'|_=>am
theorem YT(a:KS X st g)(b:lT X rest u):lT X (st::rest) (kZ g u):=⟨jD (qT a.h b.h)<|by rintro p σ H ⟨c,O,r,R,e,q⟩;refine bS e λo a e=>?_;refine⟨c,O,o,R,a,?_⟩;cases o with|aF ρ'=>exactλf H' i s j=>⟨ρ',i,r,j,e,λv H2 O2 m=>q v H2 O2 (s.trans m)⟩|ret d=>injection e|brk ρ'=>injection e|cnt ρ'=>injection e⟩
def xQ(i:Nat)(u:MU):MU:=λa=>u (lO i a)
theorem YU(i:Nat)(h:lT X rest u):lT X rest (xQ i u):=⟨jD h.h<|by rintro f σ H ⟨a,O,r,R,e,q⟩;exact by obtain⟨b,c,S⟩:=R.drop i;exact⟨lO i a,b,r,c,e,λv H2 O2 d=>q v H2 O2 (S.trans d)⟩⟩
noncomputable def xR(i:Nat)(b:ar):Option (Addr×ET):=match b[i]? with|some (Z (.xt (.x a) es))=>Z (a,am,es)|some (Z (.xt (.t (Z a) ks) es))=>Z (a,Z ks,es)|_=>am
theorem YV{x:Addr×ET}(h:xR i a=Z x):a[i]?=Z (Z (.xt (xd x.1 x.2.1) x.2.2)):=by
 unfold xR at h;split at h;·rename_i q;(obtain rfl:=ao h);exact q
 ·rename_i q;(obtain rfl:=ao h);exact q
 ·injection h
def exts:List Nat->ar->Option (List (Addr×ET))|[],_=>Z []|i::is,a=>(xR i a).bind λx=>(exts is a).map (x:: ·)
theorem Ju:∀{is:List Nat}{L:List (Addr×ET)},exts is a=Z L->∀x∈L,∃i,xR i a=Z x
 |[],L,h,x,hx=>by(obtain rfl:=ao h);cases hx|i::is,L,h,x,hx=>by
  refine bS h λy b h=>?_;obtain⟨d,c,rfl⟩:=bu.mp h;rcases a7.mp hx with rfl|hx;·exact⟨i,b⟩
  ·exact Ju c x hx
theorem RO.ext{K:av}{H:Hp}{σ:St}{d:ar}{O:List Addr}(R:RO K H σ d O){i:Nat}{x:Addr×ET}(h:d[i]?=Z (Z (.xt (xd x.1 x.2.1) x.2.2))):σ[i]?=Z (Z (.ref x.1))/\x.1∈O/\OX K H (az H O) (xd x.1 x.2.1) x.1 [] x.2.2/\Off σ d [x.1]:=by
 refine bc (R.xt i _ _ h) λun b=>fS b λf A j m q c p=>?_;clear b;obtain rfl:=c.flat (Bo _ _);obtain⟨a,o,es⟩:=x;have e:f=a:=by cases o with|none=>exact c.1|some ks=>exact by obtain⟨_,_,_,_,_,z⟩:=c;exact z a W
 subst e;exact⟨j,m _ bE,c,p⟩
def xS(is:List Nat)(fo:ar->Option D):MU:=λa=>(fo a).bind λd=>(exts is a).map λx=>(d,x)
theorem YW(is:List Nat)(h:eL X e fo):lT X [.Return (Z e) pos] (xS is fo):=⟨jD (oT (tw h.h))<|by rintro t σ H ⟨a,O,r,R,e,q⟩;refine bS e λd b e=>?_;obtain⟨L,c,rfl⟩:=bu.mp e;refine⟨a,O,d,R,b,λv H' S r=>?_⟩;refine q v H' O S.same (λx f=>?_) r;obtain⟨i,j⟩:=Ju c x f;obtain⟨_,m,p,_⟩:=(R.mono S).ext (YV j);exact⟨m,p⟩⟩
def uO(t:ag->Option Bool)(u w:MU):MU:=λa=>(t (fz a)).bind λc=>if c=be then u a else w a
theorem YX{t:ag->Option Bool}(f:JT X c t)(i:lT X a u)(j:lT X rest w):lT X (.If c a [] pos::rest) (uO t u w):=⟨jD (qT (qU f.h i.h v_) j.h)<|by rintro x σ H ⟨b,O,r,R,e,q⟩;refine bS e λk m e=>?_;refine⟨fz b,k,R.fz,m,λy p=>?_⟩;have S:=SO.of R.ls p;cases k with|true=>rw[if_pos W]at e;exact⟨b,O,r,R.mono S,e,λv H2 O2 d=>q v H2 O2 (S.same.trans d)⟩|false=>rw[if_neg ei]at e;exact⟨b,O,r,R.mono S,e,λv H2 O2 d=>q v H2 O2 (S.same.trans d)⟩⟩
noncomputable def xT(i:Nat)(f:ar->Option D):ar->Option aK:=λb=>match b[i]? with|some (Z (.xt (.x a) es))=>(f b).bind λd=>if es.length<aD then Z (.aF (b.set i (Z (.xt (.x a) (es++[d])))))else am|_=>am
theorem YY{apos cpos:Pos}(i:Nat)(h:eL X e fo)(z:X.N[i]?=Z x)(B:dv X.env.scope x)(hn:cZ e=be)(C:'f'=bi)(p:'m'=bi)(f:(apos.endLine==cpos.line)=be):KS X (.Expr (.Call (.Attribute (.Name x np) "append" apos) [e] [] cpos) pos) (xT i fo):=⟨cz (oU (lD oK y_ za tI (hH z B C p) (ek h.h gj (bP hn)) W (by rw[kP (show [e].all cZ=be by rw[gg,hn];rfl)];rfl) f (bP hn) (plain_any W)) W)<|by
  rintro Y σ H ⟨E,O,o,R,c,q⟩;unfold xT at c;split at c;case h_2=>injection c
  rename_i a ds j;refine bS c λd G c=>?_;split at c;case isFalse=>injection c
  rename_i hz
  (obtain rfl:=ao c);obtain⟨t,I,⟨_,_,vs,J,e4⟩,_⟩:=R.ext (x:=(a,am,ds)) j;refine⟨.ref a,t,.inl ⟨W,vs,b9.of J⟩,E,O,d,R,G,λv L S M=>?_⟩;have w:=R.mono S;obtain⟨_,_,⟨_,_,m,Q,y⟩,T⟩:=w.ext (x:=(a,am,ds)) j;refine⟨a,m,v,W,W,Q,by rw[y.length];exact hz,?_⟩;obtain⟨R2,U⟩:=w.rX j t (A:=[]) (by simpa using I) 'k' T (H':=upd L a (.lst (m++[v]))) (λb r=>bf (by simpa using r)) (λb r=>⟨.lst (m++[v]),by rw[aZ.mp r];exact bA,.inl ⟨_,W⟩⟩) (κ':=.x a) ⟨W,W,_,bA,y.snoc M⟩ W;exact q _ _ O (by rw[U];exact S.same) R2⟩
end
open Classical in
def runM(ns:Nat)(u:MU)(np a:Nat)(ds:List D)(E:List ET):Option (D×List ET):=if h:(ds.length=np/\E.length=a)/\∃r:D×List ET,r.2.length=E.length/\∀as,as.length=E.length->u (mF ns ds as E)=Z (r.1,as.zip r.2)then Z (choose h.2)else am
theorem Bp{ds:List D}{r:D×List ET}(h:runM ns u np a ds E=Z r):(ds.length=np/\E.length=a)/\r.2.length=E.length/\∀as,as.length=E.length->u (mF ns ds as E)=Z (r.1,as.zip r.2):=by
 unfold runM at h;split at h;·rename_i q;(obtain rfl:=ao h);exact⟨q.1,Oq q.2⟩
 ·injection h
theorem Jv{ds:List D}{r:D×List ET}(f:ds.length=np/\E.length=b)(a:r.2.length=E.length)(h:∀as,as.length=E.length->u (mF ns ds as E)=Z (r.1,as.zip r.2)):runM ns u np b ds E=Z r:=by unfold runM;rw[dif_pos ⟨f,r,a,h⟩];have c:=Oq (p:=λr:D×List ET=>r.2.length=E.length/\∀as,as.length=E.length->u (mF ns ds as E)=Z (r.1,as.zip r.2)) ⟨r,a,h⟩;have hz:(yZ E.length (0:Addr)).length=E.length:=List.length_replicate;have e:=oN (ao ((c.2 _ hz).symm.trans (h _ hz)));have d:=congrArg (Ot Oj) e.2;rw[Od (by rw[hz,c.1];exact ba _),Od (by rw[hz,a];exact ba _)]at d;exact congrArg Z (NG e.1 d)
theorem YZ{P:a6}{w:World}{K:av}{I:Str->Option Value}{base:Heap}{x g:Str}{st:Stmt}{f:Addr}{J:dF}{N ps:List Str}{k np ns B:Nat}{u:MU}(Fn:kH K x g st f J)(S:nG N ps (de st))(Y:ps.length=np+B)(hn:N.length=ns)(hle:np+B<=ns) (p:∀(m:Value)(A:a_)(c:List Env)(s:aq)(H:Hp)(E:XK),bI k (A.deeper (g6 g (de st) s.heap.objs.size f m))->lT (dA eu P w K I base N g (de st) f m A c s H E).lB (iL st) u):dm P w K I base eu (k+1) f J ps (pF K (runM ns u np B)):=by
 subst hn;refine Fn.ok S (by rintro vs H Q E ⟨us,as,ds,L,d,E',e1,_,t,r,e,_⟩;rw[e1,bB,aE,r.length,t.1,Y,(Bp e).1.1,(Bp e).1.2]) (λm A c s H vs Q E hr h=>?_);obtain⟨us,as,ds,L,d,E',rfl,C,t,r,e,q⟩:=h;obtain⟨M,y,e⟩:=Bp e;refine⟨_,(p m A c s H E hr).h,mF N.length ds as L,as,_,YS 'd' C t r,e as t.1,λv H' O s1 T h3=>?_⟩;have sub:∀a∈as,a∈O:=λa ha=>by
  obtain⟨j,U⟩:=zh ha;have M:j<E'.length:=by rw[y,<-t.1];exact(bF.mp U).1
  exact(T (a,E'[j]) (cj (i:=j) (by rw[Ou];exact⟨U,cy M⟩))).1
 have G:aw (az H' O) (az H' as):=λb o e=>by obtain⟨hb,e'⟩:=gU e;rw[cb λz=>hb (sub b z)];exact e'
 exact q v H' (s1.trans G) ⟨t.1.trans y.symm,λj a e h1 h2=>(T (a,e) (cj (i:=j) (by rw[Ou];exact⟨h1,h2⟩))).2.mono (λ_ _=>rfl) G⟩ (h3.mono G)
structure Jw(P:a6)(w:World)(K:av)(mg:Str->Option Value)(base:Heap)(k:Nat)(x:Str)(F:List D->List ET->Option (D×List ET)):Prop where ex:∃(f:Addr)(fd:dF)(ps:List Str),mg x=Z (.ref f)/\m3 K (.ref f)=be/\jC K fd ps []/\dm P w K mg base eu k f fd ps (pF K F)
noncomputable def pG(i:Nat)(a:ar):Option ET:=match a[i]? with|some (Z (.ow am ds))=>Z (am,ds)|some (Z (.xt (.t am ks) ds))=>Z (Z ks,ds)|_=>am
def things:List Nat->ar->Option (List ET)|[],_=>Z []|i::is,a=>(pG i a).bind λx=>(things is a).map (x:: ·)
noncomputable def lU:ET->SD|(am,es)=>.own es|(Z ks,es)=>.xt (.t am ks) es
def lV:List Nat->List ET->ar->ar|i::is,e::E,a=>lV is E (a.set i (Z (lU e)))|_,_,a=>a
noncomputable def kinds(E:List ET):List Bool:=E.map λe=>e.1.isSome
theorem xU(h:pG i a=Z e):a[i]?=Z (Z (lU e)):=by
 unfold pG at h;split at h;·rename_i q;(obtain rfl:=ao h);exact q
 ·rename_i q;(obtain rfl:=ao h);exact q
 ·injection h
def At(K:av)(H:Hp)(O:List Addr)(σ:St)(i:Nat)(a:Addr)(e:ET):Prop:=σ[i]?=Z (Z (.ref a))/\a∈O/\OX K H (az H O) (xd a e.1) a [] e.2
section
variable {K:av}{H H':Hp}{σ:St}{ρ:ar}{O:List Addr}
theorem RO.pG(R:RO K H σ ρ O)(h:ρ[i]?=Z (Z (lU e))):∃a,At K H O σ i a e:=by obtain⟨o,es⟩:=e;cases o with|none=>refine cE (R.own i es h) λa vs d f g j=>?_;exact⟨a,d,f,W,W,vs,g,j⟩|some ks=>refine bc (R.xt i _ _ h) λun c=>fS c λa A m p v q w=>?_;clear c;obtain⟨rfl,vs,r,t,u,_⟩:=q;exact⟨a,m,p _ bE,W,vs,r,t,u,λb z=>ao z⟩
theorem RO.put(R:RO K H σ ρ O){e c:ET}(h:ρ[i]?=Z (Z (lU e)))(m:c.1.isSome=e.1.isSome)(f:σ[i]?=Z (Z (V.ref a)))(w:a∈O)(p:∀b,b≠a->H' b=H b)(q:OX K H' (az H O) (xd a c.1) a [] c.2):RO K H' σ (ρ.set i (Z (lU c))) O/\az H' O=az H O:=by obtain⟨o,es⟩:=e;obtain⟨r,x⟩:=c;cases o with
 |none=>cases r with|some ks=>injection m|none=>
   obtain⟨_,_,y,A,C⟩:=q;have:H'=upd H a (.lst y):=by
    funext b;by_cases z:b=a;·rw[z,bA];exact A
    ·rw[bf z];exact p b z
   rw[this];exact R.chg h f w C
 |some ks=>cases r with|none=>injection m|some g=>refine bc (R.xt i _ _ h) λun d=>fS d λb B u E G I J=>?_;clear d;rw[f]at u;cases u;obtain rfl:=I.flat W;obtain⟨_,vs,v,L,M,_⟩:=q;exact R.rX (κ':=.t am g) h f E G J (λb j=>p b (by simpa using j)) (λb j=>by rw[aZ.mp j];exact⟨_,v,.inr (.inr ⟨_,_,_,W⟩)⟩) ⟨W,vs,v,L,M,λ_ z=>by injection z⟩ W
theorem Jx(h:i≠j):(ρ.set i (Z (lU e)))[j]?=ρ[j]?:=dh h
theorem Jy:∀{is:List Nat}{E:List ET}{ρ:ar},j∉is->(lV is E ρ)[j]?=ρ[j]?|[],_,_,_=>rfl|_::_,[],_,_=>rfl|i::is,e::E,ρ,h=>by show(lV is E _)[j]?=_;rw[Jy λz=>h (.tail _ z),Jx λz:i=j=>h (z▸bE)]
theorem RO.lV:∀{is:List Nat}{as:List Addr}{E E':List ET}{ρ:ar}{H:Hp},RO K H σ ρ O->az H O=G->is.Nodup->as.Nodup->things is ρ=Z E->kinds E'=kinds E->(is.map λi=>σ[i]?)=as.map (λa=>Z (Z (V.ref a)))->(∀a∈as,a∈O)->(∀b,b∉as->H' b=H b)->EX K H' G as E'->RO K H' σ (DL.lV is E' ρ) O/\az H' O=G
 |[],as,E,E',ρ,H,R,f,_,_,_,_,g,_,p,_=>by cases as with|cons _ _=>injection g|nil=>have:H'=H:=funext λb=>p b 'k';subst this;cases E'<;>exact⟨R,f⟩
 |i::is,as,E,E',ρ,H,R,f,C,hn,q,y,g,A,p,r=>by cases as with|nil=>injection g|cons a as=>injection g with I J;refine bS q λe M q=>?_;obtain⟨Y,t,rfl⟩:=bu.mp q;cases E' with|nil=>injection y|cons u E'=>
  injection y with k1 k2;have c:=gf.mp C;have v:=gf.mp hn;have hf:∀b,b≠a->(λb=>if b=a then H' b else H b) b=H b:=λb z=>if_neg z;obtain⟨N,Q⟩:=R.put (H':=λb=>if b=a then H' b else H b) (xU M) k1 I (A a (.head _)) hf (by rw[f];exact(r.2 0 a u W W).mono (λb d=>by rw[aZ.mp d];exact if_pos W) (aw.refl _));have tk:∀{is:List Nat}{E:List ET},i∉is->things is ρ=Z E->things is (ρ.set i (Z (lU u)))=Z E:=λ{is}=>by induction is with|nil=>exactλ_ h=>h|cons j is T=>intro E B h;refine bS h λx m w=>?_;obtain⟨L,U,rfl⟩:=bu.mp w;unfold things;rw[show DL.pG j (ρ.set i (Z (lU u)))=Z x by unfold DL.pG at m⊢;rw[Jx λz:i=j=>B (z▸bE)];exact m,T (λz=>B (.tail _ z)) U];rfl
  refine RO.lV (is:=is) (as:=as) (E':=E') N (Q.trans f) c.2 v.2 (tk c.1 t) k2 J (λb d=>A b (.tail _ d)) (λb d=>?_) ⟨Eh r.1,λj b x m w=>r.2 (j+1) b x m w⟩;by_cases z:b=a;·rw[z];exact(if_pos W).symm
  ·exact(p b (by simp[z,d])).trans (if_neg z).symm
theorem RO.things(R:RO K H σ ρ O):∀{is:List Nat}{E:List ET},DL.things is ρ=Z E->∃as:List Addr,(is.map λi=>σ[i]?)=as.map (λa=>Z (Z (V.ref a)))/\(∀a∈as,a∈O)/\EX K H (az H O) as E|[],E,h=>by(obtain rfl:=ao h);exact⟨[],W,by simp,W,by simp⟩|i::is,E,h=>by refine bS h λe m h=>?_;obtain⟨w,c,rfl⟩:=bu.mp h;obtain⟨as,p,q,d⟩:=RO.things R c;obtain⟨a,r,t,u⟩:=R.pG (xU m);refine⟨a::as,by rw[br,br,r,p],λb v=>(a7.mp v).elim (λz=>z▸t) (q b),congrArg Nat.succ d.1,λj b x f g=>?_⟩;cases j with|zero=>(obtain rfl:=ao f);(obtain rfl:=ao g);exact u|succ j=>exact d.2 j b x f g
theorem RO.unlike(R:RO K H σ ρ O){i:Nat}{e q:ET}(h:ρ[i]?=Z (Z (lU e)))(h':ρ[j]?=Z (Z (lU q)))(d:σ[i]?=Z (Z (V.ref a)))(f:σ[j]?=Z (Z (V.ref a))):i=j:=by
 obtain⟨o,es⟩:=e;obtain⟨r,c⟩:=q;have g:∀{i j:Nat}{ks es c:List D},ρ[i]?=Z (Z (.xt (.t am ks) es))->ρ[j]?=Z (Z (.own c))->σ[i]?=Z (Z (.ref a))->σ[j]?=Z (Z (.ref a))->False:=λ{i j ks es c} h h' d f=>by refine bc (R.xt i _ _ h) λun m=>fS m λb B u w x y v=>?_;clear m;rw[d]at u;cases u;exact v j _ _ _ h' f bE
 cases o with
 |none=>cases r with
  |none=>exact R.inj i j _ _ _ _ a h h' d f|some p=>exact(g h' h f d).elim
 |some ks=>cases r with|none=>exact(g h h' d f).elim|some p=>exact((R.xt j _ _ h').1 i _ _ h).elim id λz=>absurd (d.trans f.symm) z.2.2
theorem RO.Jz(R:RO K H σ ρ O):∀{is:List Nat}{as:List Addr}{E:List ET},is.Nodup->DL.things is ρ=Z E->(is.map λi=>σ[i]?)=as.map (λa=>Z (Z (V.ref a)))->as.Nodup
 |[],as,_,_,_,c=>by cases as with
  |nil=>exact .nil|cons _ _=>injection c
 |i::is,as,E,p,h,c=>by cases as with
  |nil=>injection c|cons a as=>
  injection c with q m;refine bS h λe r h=>?_;obtain⟨B,d,_⟩:=bu.mp h;have f:=gf.mp p;refine gf.mpr ⟨λz=>f.1 ?_,RO.Jz R f.2 d m⟩;have g:∀{is:List Nat}{E:List ET}{as:List Addr},DL.things is ρ=Z E->(is.map λi=>σ[i]?)=as.map (λa=>Z (Z (V.ref a)))->a∈as->i∈is:=λ{is}=>by induction is with
   |nil=>intro E as _ c z;cases as with
    |nil=>cases z
    |cons _ _=>injection c
   |cons j is t=>
    intro E as h c z;cases as with
    |nil=>cases z
    |cons b as=>
    injection c with u v;refine bS h λx w y=>?_;obtain⟨L,A,_⟩:=bu.mp y;rcases a7.mp z with rfl|z
    ·rw[R.unlike (xU r) (xU w) q u];exact .head _
    ·exact .tail _ (t A v z)
  exact g d m z
end
section
variable {X:Cx}{e:Expr}{es:List Expr}{st:Stmt}{p pos np:Pos}{f:ar->Option D}{fs:List (ar->Option D)}{x:Str}{is:List Nat}{F:List D->List ET->Option (D × List ET)}
noncomputable def r0:List (ar->Option D)->ar->Option (List D)|[],_=>Z []|f::fs,a=>(f a).bind λd=>(r0 fs a).map (d:: ·)
structure mG(X:Cx)(es:List Expr)(fs:List (ar->Option D))(is:List Nat):Prop where
 h:PA X es (λσ H Q=>∃ρ O ds,∃as:List Addr,RO X.K H σ ρ O/\(is.map λi=>σ[i]?)=as.map (λa=>Z (Z (V.ref a)))/\r0 fs ρ=Z ds/\∀vs H',SO H H' O->aG X.K (az H' O) vs ds->Q (vs++as.map .ref) H')
 st:es.all cZ=be
theorem Y0:mG X [] [] []:=⟨λpos zK s σ H Q I ⟨c,O,ds,as,R,b,a,q⟩=>gj pos zK s σ H Q I (by cases as with|cons _ _=>injection b|nil=>(obtain rfl:=ao a);exact q [] H (SO.refl H O) .nil),W⟩
theorem Y1(i:Nat)(r:mG X es [] is)(g:X.N[i]?=Z x)(j:dv X.env.scope x)(m:'f'=bi)(b:'m'=bi):mG X (.Name x p::es) [] (i::is):=⟨λpos zK s σ H Q I ⟨t,O,ds,as,R,d,c,q⟩=>(ek (hH g j m b) r.h (bP W)) pos zK s σ H Q I (by cases as with|nil=>injection d|cons a as=>
  injection d with u v
  (obtain rfl:=ao c);refine⟨.ref a,u,t,O,[],as,R,v,W,λvs H' S r=>?_⟩;cases r;exact q [] H' S .nil),by rw[gg,r.st];rfl⟩
theorem Y2(h:eL X e f)(r:mG X es fs is)(hn:cZ e=be):mG X (e::es) (f::fs) is:=⟨λpos zK s σ H Q I ⟨c,O,ds,as,R,j,a,q⟩=>(ek h.h r.h (bP hn)) pos zK s σ H Q I (by refine bS a λd m a=>?_;obtain⟨b,t,rfl⟩:=bu.mp a;exact⟨c,O,d,R,m,λv z g u=>⟨c,O,b,as,R.mono g,j,t,λvs H2 i w=>q (v::vs) H2 (g.trans i) (.cons (u.mono i.same) w)⟩⟩),by rw[gg,hn,r.st];rfl⟩
def JD(K:av)(is:List Nat)(fs:List (ar->Option D))(F:List D->List ET->Option (D×List ET)):TE:=λσ H Q=>∃a O E ds d E',RO K H σ a O/\is.Nodup/\things is a=Z E/\kinds E'=kinds E/\r0 fs a=Z ds/\F ds E=Z (d,E')/\∀v H',aw (az H O) (az H' O)->RO K H' σ (lV is E' a) O->Rep K (az H' O) v d->Q v H'
theorem Y3{k:Nat}(C:Jw X.prog X.w X.K X.mg X.base k x F)(hr:bI k X.A)(hg:Gl X x)(ha:mG X (e::es) fs is)(Y4:'f'=bi):PE X (.Call (.Name x p) (e::es) [] pos) (JD X.K is fs F):=by
 have t:=ha.st;rw[gg,cJ]at t;obtain⟨f,fd,ps,hm,hk,i,hF⟩:=C.ex;intro zK s σ H Q I ⟨ρ,O,E,ds,d,E',R,M,T,Y5,wL,Y6,q⟩;refine wpAny_Call_Name_kw (qS I hg hm ?_ Y4);obtain⟨as,U,L,_⟩:=R.things T;have N:=R.Jz M T U;refine Nx (h₀:=X.base) I.ok.mod.qQ hk (aT (ha.h pos zK s σ H (λus j=>∃vs,us=vs++as.map .ref/\SO H j O/\aG X.K (az j O) vs ds) I ⟨ρ,O,ds,as,R,U,wL,λvs H' S r=>⟨vs,W,S,r⟩⟩) λus s1 ⟨ws,j,I1,rv,vs,ev,S,r1⟩=>⟨I1.gh,?_⟩) (bP t.1) (plain_any t.2);subst ev;have Y:=R.mono S;obtain⟨g,Y7,_,hX⟩:=Y.things T;have ea:g=as:=(Ei λa b z=>by cases z;rfl).mp (Y7.symm.trans U);subst ea;have sub:∀b,b∈O.filter (λb=>decide (b∉g))↔b∈O/\b∉g:=λb=>by simp[dt]
 generalize hO2:O.filter (λb=>decide (b∉g))=O2 at sub;have hL:jf j O2:=λb i=>Y.ls b ((sub b).mp i).1;have eh:az (az j O2) g=az j O:=by
  funext b;by_cases i:b∈g;·rw[eI i,eI (L b i)]
  ·rw[cb i];by_cases m:b∈O;·rw[eI m,eI ((sub b).mpr ⟨m,i⟩)]
   ·rw[cb m,cb λz=>m ((sub b).mp z).1]
 have B:∀b∈g,b∉O2:=λb i z=>((sub b).mp z).2 i;refine aT (E9 (Q:=λv H2=>aw (az (az j O2) g) (az H2 g)/\EX X.K H2 (az H2 g) g E'/\Rep X.K (az H2 g) v d) hF hr i .nil Fz (Inv.hide I1 hL) rv ⟨vs,g,ds,E,d,E',by rw[eZ],N,hX.mono (λb i=>cb (B b i)) (by rw[eh];exact aw.refl _),by rw[eh];exact r1,Y6,λv H' a b c=>⟨a,b,c⟩⟩) λu s' zZ=>?_;obtain⟨v,H2,J,rv,s2,x2,r2⟩:=zZ;obtain⟨J',hn⟩:=Inv.Hi I1 hL J λb xs e=>by
  have i:b∉g:=λz=>by
   obtain⟨u,hu,ow⟩:=Y.ls b (L b z);rw[cb (B b z)]at e;rw[e]at hu
   (obtain rfl:=ao hu);rcases ow with⟨_,z⟩|⟨_,z⟩|⟨_,_,_,z⟩<;>injection z
  exact(gU (s2 b _ (show az (az j O2) g b=Z (.tup xs) by rw[cb i];exact e))).2
 have el:az (lay j O2 H2) O=az H2 g:=by
  funext b;by_cases i:b∈g
  ·rw[eI i,eI (L b i)]
  ·rw[cb i];by_cases m:b∈O
   ·rw[eI m,hn b ((sub b).mpr ⟨m,i⟩)]
   ·rw[cb m,eJ λz=>m ((sub b).mp z).1]
 rw[eh,<-el]at s2;have S2:SO j (λb=>if b∈g then j b else lay j O2 H2 b) O:=⟨λb o e=>by
  obtain⟨i,e'⟩:=gU e;rw[cb i,if_neg λz=>i (L b z)];exact(gU (s2 b o e)).2,λb i=>by
  by_cases z:b∈g
  ·exact if_pos z
  ·exact(if_neg z).trans (gS ((sub b).mpr ⟨i,z⟩))⟩
 obtain⟨R3,_⟩:=RO.lV (H':=lay j O2 H2) (G:=az H2 g) (Y.mono S2) (by
  rw[<-el];funext b;by_cases i:b∈O
  ·rw[eI i,eI i]
  ·rw[cb i,cb i,if_neg λz=>i (L b z)]) M N T Y5 U L (λb i=>(if_neg i).symm) (x2.mono (λb i=>eJ (B b i)) (aw.refl _));exact⟨v,_,J',rv,q v _ (S.same.trans s2) R3 (by rw[el];exact r2)⟩
def Bq(j:Nat)(is:List Nat)(F:List D->List ET->Option (D×List ET))(fs:List (ar->Option D)):ar->Option aK:=λa=>(h7 j a).bind λb=>(things is a).bind λE=>(r0 fs a).bind λds=>(F ds E).bind λx=>if(j∉is/\is.Nodup)/\kinds x.2=kinds E/\b.length<aD then Z (.aF ((lV is x.2 a).set j (Z (.own (b++[x.1])))))else am
structure KM(X:Cx)(e:Expr)(is:List Nat)(F:List D->List ET->Option (D×List ET))(fs:List (ar->Option D)):Prop where
 h:PE X e (JD X.K is fs F)
 s:cZ e=be
theorem Y8{k:Nat}(C:Jw X.prog X.w X.K X.mg X.base k x F)(b:bI k X.A)(c:mG X (e::es) fs is)(d:Gl X x)(a:'f'=bi):KM X (.Call (.Name x p) (e::es) [] pos) is F fs:=⟨Y3 C b d c a,W⟩
theorem Y9{apos cpos:Pos}(j:Nat)(h:KM X e is F fs)(C:X.N[j]?=Z x)(G:dv X.env.scope x)(I:'f'=bi)(i:'m'=bi)(c:(apos.endLine==cpos.line)=be):KS X (.Expr (.Call (.Attribute (.Name x np) "append" apos) [e] [] cpos) pos) (Bq j is F fs):=⟨cz (oU (lD oK y_ za tI (hH C G I i) (ek h.h gj (bP h.s)) W (by rw[kP (show [e].all cZ=be by rw[gg,h.s];rfl)];rfl) c (bP h.s) (plain_any W)) W)<|by
  rintro Dn σ H ⟨u,O,o,R,b,q⟩;refine bS b λm J b=>?_;refine bS b λE L b=>?_;refine bS b λds M b=>?_;obtain⟨⟨d,E'⟩,Q,b⟩:=bind_some b;split at b;case isFalse=>injection b
  rename_i hz
  (obtain rfl:=ao b);have g:=pg J;refine cE (R.own j m g) λa vs r T U e4=>?_;refine⟨.ref a,r,.inl ⟨W,vs,b9.of U⟩,u,O,E,ds,d,E',R,hz.1.2,L,hz.2.1,M,Q,λv H1 Y w r1=>?_⟩;have z:(lV is E' u)[j]?=Z (Z (.own m)):=(Jy hz.1.1).trans g;refine cE (w.own j m z) λa' t A f2 f3 B=>?_;rw[r]at A;cases A;refine⟨a,t,v,W,W,f3,by rw[B.length];exact hz.2.2,?_⟩;obtain⟨R2,hh⟩:=w.chg z r T (B.snoc r1);exact q _ _ O (by rw[hh];exact Y) R2⟩
end
def tupI:D->Option (List Int)|.tup xs=>intsOf xs|_=>am
def lW:List D->Option (List (List Int))|[]=>Z []|d::ds=>(tupI d).bind λa=>(lW ds).map (a:: ·)
theorem JH{K:av}{H:Hp}:∀(ns:List Int){vs:List V},aG K H vs (ns.map D.int)->vs=ns.map V.int|[],_,r=>by cases r;rfl|n::ns,_,r=>by cases r with|cons r t=>cases r;rw[JH ns t];rfl
theorem Br{K:av}{H:Hp}{v:V}{ns:List Int}(r:Rep K H v d)(h:tupI d=Z ns):d=.tup (ns.map .int)/\∃a,v=.ref a/\cF K H a (ns.map V.int):=by cases r with|@tup a vs ds q b=>have e:=uB (show intsOf ds=Z ns from h);subst e;exact⟨W,a,W,by rw[<-JH ns b];exact q⟩|_=>injection h
noncomputable def k4(K:av)(H:Hp)(b:List Int):Value->Bool|.ref a=>@decide (cF K H a (b.map V.int)) (vA _)|_=>bi
theorem JJ:∀{ns a:List Int},ns.map V.int=a.map V.int->ns=a|[],[],_=>rfl|[],_::_,h=>by injection h|_::_,[],h=>by injection h|n::ns,m::a,h=>by rw[br,br]at h;obtain⟨b,c⟩:=oO h;cases b;rw[JJ c]
theorem JM(k:Nat):∀ns a:List Int,∃c,eA k (ns.map .int) (a.map .int)=Z c/\(c&&(ns.map D.int).length==(a.map D.int).length)=decide (ns=a)
 |[],[]=>⟨be,by exact W,W⟩|[],m::a=>⟨be,by exact W,by exact W⟩|n::ns,[]=>⟨be,by exact W,by exact W⟩|n::ns,m::a=>by
  obtain⟨c,b,d⟩:=JM k ns a;have e:cX k (.int n) (.int m)=Z (n==m):=by rw[z7 k _ _ W];rfl
  refine⟨n==m&&c,by simp[eA,e,b],?_⟩;rw[br,br,bh,bh,Ov,show((ns.map D.int).length+1==(a.map D.int).length+1)=((ns.map D.int).length==(a.map D.int).length) by simp,d,jQ];simp
section
variable {X:Cx}{zK:List (Addr × Obj)}{σ:St}{H:Hp}{s:aq}
theorem JN(I:Inv X zK σ H s){A:a_}(j:A.units+1<cLine){f:List Int}(C:RelV x w)(E:Rep X.K H x (.tup (f.map .int))):∀{xs:List V}{d:List Value}{ds:List D}{g:List (List Int)},Vals xs d->aG X.K H xs ds->lW ds=Z g->d.map (k4 X.K H f)=g.map (λns=>decide (ns=f))/\∀u∈d,m7 A s u w (k4 X.K H f u):=by intro xs;induction xs with|nil=>intro d ds g r q h;cases r;cases q;(obtain rfl:=ao h);exact⟨W,λu j=>by cases j⟩|cons y xs G=>intro d ds g r q h;cases r with|@cons _ u1 _ J r t=>cases q with|@cons _ dy _ L q M=>
    refine bS h λns N h=>?_;obtain⟨v,O,rfl⟩:=bu.mp h;obtain⟨Q,T⟩:=G t M O;refine bc (Br q N) λm i=>a9 i λa p B=>?_;clear i;subst m;subst p;cases r;have e:k4 X.K H f (.ref a)=decide (ns=f):=by unfold k4;rw[jQ,@decide_eq_true_iff _ (vA _),decide_eq_true_iff];exact⟨λz=>JJ (I.v9 B z),λz=>by rw[<-z];exact B⟩
    refine⟨by rw[br,br,e,Q],λu mu=>?_⟩;rcases a7.mp mu with rfl|mu;·obtain⟨c,U,Y⟩:=JM 0 ns f;rw[e];refine z_ I 1 j (show RelV (.ref a) (.ref a) from W) C q E ?_;show(eA 0 (ns.map D.int) (f.map D.int)).map (λb=>b&&(ns.map D.int).length==(f.map D.int).length)=_;rw[U,<-Y];rfl
    ·exact T u mu
end
def Bs(x:D):D->Option D|.lst ys=>(tupI x).bind λm=>(lW ys).map λbs=>.bl (!decide (m∈bs))|_=>am
theorem Y_:∀a:List (List Int),(a.map λns=>decide (ns=c)).any id=decide (c∈a):=λa=>by
 rw[jQ,vR,decide_eq_true_iff];constructor
 ·rintro⟨b,d,e⟩;obtain⟨ns,hn,rfl⟩:=aL.mp d;have:ns=c:=by simpa using e
  rw[<-this];exact hn
 ·intro h;exact⟨_,aL.mpr ⟨c,h,W⟩,by simp⟩
theorem Za{X:Cx}{k:Nat}(g:bI k X.A):dW X (dE .NotIn) Bs:=⟨by
 intro zK s σ H x y v u Q I i j ⟨t,L,d,f,z,e,q⟩;have b:X.A.in1.units+1<cLine:=by have:=g.un;show X.A.units+1+1<cLine;grind
 cases z with|@lst a xs ds h r=>cases j;refine bS (show(tupI t).bind (λm=>(lW ds).map λbs=>D.bl (!decide (m∈bs)))=Z d from e) λm B e=>?_;obtain⟨bs,C,rfl⟩:=bu.mp e;obtain⟨rfl,_⟩:=Br f B;obtain⟨c,E,p⟩:=Inv.jE I h;obtain⟨G,J⟩:=JN I b i f E r C;refine Zvi (k4 X.K H m) p (λw hw=>J w (by simpa using hw)) ⟨.bl _,H,I,W,?_⟩;rw[show c.toArray.any (k4 X.K H m)=decide (m∈bs) by rw[<-Y_ bs,<-G];simp];exact q _ H (aw.refl H) (.bl _)|_=>injection e⟩
theorem JP:∀{bs:List (List Int)}{j:Nat}(_:j<bs.idxOf m){h:j<bs.length},bs[j]=m->False
 |b::bs,j,a,h,e=>by
  rw[Zvk]at a;by_cases q:b=m;·rw[show(b==m)=be by simpa using q]at a;simp at a
  ·rw[show(b==m)=bi by simpa using q]at a;cases j with|zero=>exact q e|succ j=>exact JP (bs:=bs) (j:=j) (by simpa using a) (h:=by simpa using h) (by simpa using e)
def Bt:D->D->Option D|.lst xs,y=>(tupI y).bind λm=>(lW xs).bind λbs=>if m∈bs then Z (.int (bs.idxOf m:Nat))else am|_,_=>am
section
variable {X:Cx}
theorem Zb(hu:X.A.units+65<cLine):wq X "list.index" (λx xs H Q=>∃y t r d,xs=[y]/\Rep X.K H x t/\Rep X.K H y r/\Bt t r=Z d/\∀v H',aw H H'->Rep X.K H' v d->Q v H'):=by
 intro zK s σ H x xs v us Q I T U h;refine b_ h λy t r c=>d6 c λd w Y L f=>bc f λe q=>?_;clear h c f;subst w;obtain⟨u,rfl,ru⟩:=kG U;cases Y with|@lst a vs ds h rr=>
  cases T;refine bS (show(tupI r).bind (λm=>(lW ds).bind λbs=>if m∈bs then Z (D.int (bs.idxOf m:Nat))else am)=Z d from e) λm h1 e=>?_;refine bS e λbs h2 e=>?_;split at e;case isFalse=>injection e
  rename_i M
  (obtain rfl:=ao e);obtain⟨rfl,_⟩:=Br L h1;refine cE (Inv.rh I h) λb n rv hl N z=>?_;obtain⟨O,g2⟩:=JN (A:=X.A.in1) I (by show X.A.units+1+1<cLine;lia) ru L rv rr h2;have Zc:b.length=bs.length:=by have:=congrArg qm O;simpa using this
  have B:=Zvl.mpr M;have hb:aD<2^62:=by decide
  have i:∀(j:Nat)(p:j<b.length),k4 X.K H m b[j]=decide (bs[j]''d'=m):=λj p=>by have:=congrArg (λl=>l[j]?) O;simp only[bW]at this;rw[cy p,cy (show j<bs.length by grind)]at this;exact ao this
  have C:k4 X.K H m b[bs.idxOf m]=be:=by rw[i _ (by omega)];simpa using List.getElem_idxOf B
  have E:∀(j:Nat)(p:j<b.toArray.size),j<bs.idxOf m->k4 X.K H m b.toArray[j]=bi:=λj p G=>by
   have J:j<b.length:=by simpa using p
   have g:k4 X.K H m b[j]=bi:=by rw[i j J,decide_eq_false_iff_not];intro z;have:=Zvl.mpr M;exact JP G z
   simpa using g
  refine y3 Zvm ⟨_,N,W⟩ PySem.F.entry_list_index (PySem.F.args_list_index_2 _ _) (SeqAt.list_indexAt a b.toArray n am #[] u (k4 X.K H m) (bs.idxOf m) (by simp;omega) 'd' (by simpa using C) E) ⟨N,λy hy=>g2 y (by simpa using hy),?_⟩;exact⟨.int _,H,I.tok _,⟨_,W⟩,q _ H (aw.refl H) (.int _)⟩|_=>injection e
end
section
variable {X:Cx}{b:Expr}{fa fb:ag->Option D}{x:Str}{p3:Pos}
def xV(fa fb:ag->Option D):ag->Option D:=λa=>(fa a).bind λx=>if wY "list" x=be then(fb a).bind λy=>Bt x y else am
theorem Zd{k:Nat}{apos cpos:Pos}(r:bI k X.A)(t:JE X (.Name x p3) fa)(w:JE X b fb)(hn:cZ b=be)(a:(apos.endLine==cpos.line)=be)(c:Dp (.Name x p3) "index" X.env (eval (.Name x p3) X.env)=eval (.Name x p3) X.env):JE X (.Call (.Attribute (.Name x p3) "index" apos) [b] [] cpos) (xV fa fb):=⟨cQ (lD oK Zvm PySem.F.type_list_index (Zb (by have:=r.un;grind)) t.h (ek w.h gj (bP hn)) c (by rw[kP (show [b].all cZ=be by rw[gg,hn];rfl)];rfl) a (bP hn) W)<|by
  rintro σ H Q ⟨f,d,R,e,q⟩;refine bS e λg y e=>?_;split at e;case isFalse=>injection e
  rename_i B;refine bS e λi C e=>?_;exact⟨f,g,R,y,λv J j m=>⟨G1 m B,f,i,R.mono j,C,λu H2 p E=>⟨u,g,i,d,W,m.mono p,E,e,λz H' G I=>q z H' (j.trans (p.trans G)) I⟩⟩⟩⟩
end
noncomputable def insI(x:Int):List Int->List Int|[]=>[x]|y::r=>if y<x then y::insI x r else x::y::r
def sortI:List Int->List Int|[]=>[]|x::r=>insI x (sortI r)
theorem Bu(x:Int):∀l:List Int,(insI x l).Perm (x::l)
 |[]=>.refl _|y::r=>by
  unfold insI;split;·exact((Bu x r).cons y).trans (.swap x y r)
  ·exact .refl _
theorem r4:∀l:List Int,(sortI l).Perm l|[]=>.refl _|x::r=>(Bu x (sortI r)).trans ((r4 r).cons x)
theorem JQ(x:Int):∀{l:List Int},l.Pairwise (· <= ·)->(insI x l).Pairwise (· <= ·)
 |[],_=>DB _ _|y::r,h=>by
  have h':=g_.mp h;unfold insI;split
  ·refine g_.mpr ⟨λz hz=>?_,JQ x h'.2⟩;rcases a7.mp ((Bu x r).mem_iff.mp hz)with rfl|hz;·lia
   ·exact h'.1 z hz
  ·refine g_.mpr ⟨λz hz=>?_,h⟩;rcases a7.mp hz with rfl|hz;·lia
   ·have:=h'.1 z hz;lia
theorem xW:∀l:List Int,(sortI l).Pairwise (· <= ·)|[]=>NM|x::r=>JQ x (xW r)
theorem xX:∀{l m:List Int},l.Pairwise (· <= ·)->m.Pairwise (· <= ·)->l.Perm m->l=m
 |[],m,_,_,p=>(List.nil_perm.mp p).symm|x::l,[],_,_,p=>absurd p.length_eq 'k'|x::l,y::m,c,d,p=>by
  have a:=g_.mp c;have b:=g_.mp d;have e:x=y:=by
   have q1:x∈y::m:=p.mem_iff.mp bE;have q2:y∈x::l:=p.mem_iff.mpr bE;rcases a7.mp q1 with rfl|q1;·rfl
   ·rcases a7.mp q2 with rfl|q2;·rfl
    ·have:=a.1 y q2;have:=b.1 x q1;lia
  subst e;rw[xX a.2 b.2 (List.Perm.cons_inv p)]
theorem Bv{K:av}{H:Hp}:∀{ns:List Int}{a:List Value},sR a ns->Vals (ns.map V.int) a/\aG K H (ns.map V.int) (ns.map D.int)|[],_,.nil=>⟨.nil,.nil⟩|n::ns,_,.cons _ t r=>by obtain⟨b,c⟩:=Bv (K:=K) (H:=H) r;exact⟨.cons ⟨t,W⟩ b,.cons (.int n) c⟩
def Bw:List D->Option D:=k1 λd=>match d with|.lst xs=>if xs.length<64 then(intsOf xs).map λns=>.lst ((sortI ns).map .int)else am|_=>am
theorem Ze:JC X (.builtin "sorted") Bw:=⟨rl λ{zK}{s}{σ}{H}{x}{u}{Q}{C}{d} I m r e q=>by cases r with|@lst a vs ds h c=>
  cases m;have f:(if ds.length<64 then(intsOf ds).map (λns=>D.lst ((sortI ns).map .int))else am)=Z d:=e;split at f;case isFalse=>injection f
  rename_i b;obtain⟨ns,i,rfl⟩:=bu.mp f;have t:=c.length;rw[uB i]at c;obtain⟨v,j,p⟩:=Inv.jE I h;refine sorted_ints p (DL.tJ ns c j) (by rw[<-j.length,t];exact b) λout g w y z=>?_;have eq:g=sortI ns:=xX z (xW ns) (y.trans (r4 ns).symm);subst eq;obtain⟨A,B⟩:=Bv (K:=X.K) (H:=H) w;exact AF I (by rw[aE,(r4 ns).length_eq,<-show ds.length=ns.length by rw[uB i,aE]];exact du (l8 b 'a')) A B q|_=>injection e⟩
def uP(n:Nat):D->D->Option D|.lst xs,.lst ys=>if xs.length=ys.length then(eA n xs ys).map λc=>.bl (!c)else Z (.bl be)|_,_=>am
theorem Zf{X:Cx}{k:Nat}(B:bI k X.A):dW X (dE .NotEq) (uP 64):=⟨by
 intro zK s σ H x y v u Q I C E ⟨M,N,d,g,h,e,q⟩;have O:X.A.units+65<cLine:=by have:=B.un;lia
 unfold uP at e;split at e;case h_2=>injection e
 rename_i xs ys;cases g with|@lst a vs _ G g=>cases h with|@lst T J _ L h=>
 cases C;cases E;obtain⟨f,i,j⟩:=Inv.jE I G;obtain⟨b,m,p⟩:=Inv.jE I L;have l1:f.toArray.size=xs.length:=by rw[di,<-i.length];exact g.length
 have l2:b.toArray.size=ys.length:=by rw[di,<-m.length];exact h.length
 split at e;·rename_i r;obtain⟨c,t,rfl⟩:=bu.mp e;have z:=z9 t;rw[<-l1,<-l2,show min f.toArray.size b.toArray.size=f.toArray.size by grind]at z;refine ZwJ j p (by grind) 'd' (RL I (by omega) g h i m t) X.prog X.w X.xe _ ?_;rw[z];exact⟨.bl _,H,I,W,q _ H (aw.refl H) (.bl _)⟩
 ·rename_i r
  (obtain rfl:=ao e);refine ZwK j p (by rw[l1,l2];simpa using r) 'd' X.prog X.w X.xe _ ?_;exact⟨.bl _,H,I,W,q _ H (aw.refl H) (.bl _)⟩⟩
def xY(x:D):D->Option D|.tup ys=>if(ys.all jZ&&!hV x)=be then Z (.bl (!(ys.any λy=>eH y x)))else am|_=>am
theorem Zg{X:Cx}{k:Nat}(c:bI k X.A):dW X (dE .NotIn) xY:=⟨by intro zK s σ H x y v u Q I g i ⟨j,B,d,m,t,e,q⟩;cases t with|@tup a xs ds h r=>cases i;obtain⟨w,z,p⟩:=Inv.lK I h;obtain⟨rfl,k⟩:=wK (A:=X.A.in1) (f:=λb=>.bl (!b)) I (q9 c) g m z r e;exact SeqAt.notIn_tupleAt (mr j) p k ⟨.bl _,H,I,W,q _ H (aw.refl H) (.bl _)⟩|_=>injection e⟩
noncomputable def lX:ET->D|(am,es)=>.lst es|(Z ks,es)=>.tab ks es
noncomputable def mH:List D->Option (List ET)|[]=>Z []|.lst es::r=>(mH r).map ((am,es):: ·)|.tab ks es::r=>(mH r).map ((Z ks,es):: ·)|_=>am
theorem xZ:∀E:List ET,mH (E.map lX)=Z E|[]=>rfl|(am,es)::r=>by show(mH (r.map lX)).map _=_;rw[xZ r];rfl|(Z ks,es)::r=>by show(mH (r.map lX)).map _=_;rw[xZ r];rfl
def encM(F:List D->List ET->Option (D×List ET)):List D->Option D:=λds=>match ds.reverse with|.tup xs::r=>(mH xs).bind λE=>(F r.reverse E).map λx=>.tup [x.1,.tup (x.2.map lX)]|_=>am
def iR(G:List D->Option D):List D->List ET->Option (D×List ET):=λds E=>match G (ds++[.tup (E.map lX)])with|some (.tup [d,.tup xs])=>(mH xs).map λE'=>(d,E')|_=>am
theorem Zh(F:List D->List ET->Option (D×List ET))(ds:List D)(E:List ET):encM F (ds++[.tup (E.map lX)])=(F ds E).map λx=>.tup [x.1,.tup (x.2.map lX)]:=by unfold encM;rw[List.reverse_append];show(mH (E.map lX)).bind (λE=>(F ds.reverse.reverse E).map λx:D×List ET=>D.tup [x.1,.tup (x.2.map lX)])=_;rw[xZ,List.reverse_reverse];rfl
theorem Bx(F:List D->List ET->Option (D×List ET)):iR (encM F)=F:=by funext ds E;unfold iR;rw[Zh];cases F ds E with|none=>rfl|some x=>show(mH (x.2.map lX)).map _=_;rw[xZ];rfl
theorem Zi{P:a6}{w:World}{K:av}{c:Str->Option Value}{base:Heap}{f:Addr}{d:dF}{ps:List Str}:dm P w K c base eu 0 f d ps (pF K (iR λ_=>am)):=by
 have b:∀vs H Q E,¬pF K (iR λ_=>am) vs H Q E:=by rintro vs H Q E ⟨_,_,_,_,_,_,_,_,_,_,h,_⟩;injection h
 exact⟨λvs H Q E h=>absurd h (b vs H Q E),λA a s H args e vs Q E _ _ _ _ h=>absurd h (b vs H Q E)⟩
end DL
set_option backward.match.sparseCases true
namespace DL
open PySem PySem.Spec PyProof.Rows L2
section
variable {prog:a6}{w:World}{A:a_}{E:Value->aq->Prop}{s:aq}
theorem Zj{n:Nat}{P:Nat->Value->Prop}{OK:Heap->Prop}(K:Zvn prog w T r d n P OK)(v:A.handled=am)(i:OK s.heap)(hn:n<=aD){R:List Value->aq->Prop} (h:∀(h':Heap)(tk:Nat)(a:Array Value),s.heap.objs.size<=h'.objs.size->(∀b o,s.heap.get? b=Z o->h'.get? b=Z o)->tj P a n->R a.toList {s with heap:=h',toks:=tk}):wpAny 'h' A (vM (.ref r)) R E s:=by
 obtain⟨z,ld⟩:=K.there _ i;have p:=PySem.W.kdl_extend (A:=A) (s:={s with heap:=s.heap.push (cL "list" #[] 0)}) (R:=λq g=>q=.ok (.ret (.ref s.heap.objs.size))/\∃h' tk a c,g={s with heap:=h',toks:=tk}/\(∀b o,s.heap.get? b=Z o->h'.get? b=Z o)/\h'.get? s.heap.objs.size=Z (cL "list" a c)/\tj P a n) K v (K.keep _ _ i λb _ o e=>bR _ e) s.heap.objs.size (oB z) (oB ld) (.ref s.heap.objs.size) 0 (cW _ W) (λh' tk a c t m u=>⟨W,h',tk,a,c,W,λb o e=>t b o (b5 (bz e)) (bR _ e),m,u⟩) hn;have j:∀g,(∃h' tk a c,g={s with heap:=h',toks:=tk}/\(∀b o,s.heap.get? b=Z o->h'.get? b=Z o)/\h'.get? s.heap.objs.size=Z (cL "list" a c)/\tj P a n)->wpAny 'h' A (load s.heap.objs.size>>=λo=>match o.data with|.seq xs _=>pure xs.toList|_=>unsupported "internal:collect") R E g:=by rintro g ⟨h',tk,a,c,e,t,m,u⟩;subst e;exact gV (wpAny_load m (Zy1 (h h' tk a (du (bz m)) t u)))
 unfold vM;refine gV (zd (lr entry_proto_collect' ?_));rw[oM Zu7 _];refine gV (wpAny_newObj_type ?_);refine Zy1 ⟨sY D5 _,lr entry_list_iadd' ?_⟩;rw[oM D5 _];refine i5 p (λf g x=>?_) λe g x=>?_;·cases f with|done f=>injection x.1 with x1;subst x1;exact j g x.2|again c=>exact⟨x.1,oE x.2 λq B y=>by obtain⟨rfl,y⟩:=y;exact j B y⟩
 ·injection x.1
theorem Zk{n:Nat}{P:Nat->Value->Prop}{OK:Heap->Prop}(K:Zvn prog w T r d n P OK)(y:A.handled=am)(i:OK s.heap)(f:n<64){Q:Value->aq->Prop} (h:∀(vs:List Value)(g:aq)(L:Addr),vs.length=n->(∀j v,vs[j]?=Z v->P j v)->g.heap.get? L=Z (cL "list" vs.toArray 0)->g.os=s.os->g.gens=s.gens->s.heap.objs.size<=L->(∀b o,s.heap.get? b=Z o->b≠L/\g.heap.get? b=Z o)-> wpAny 'h' A.in1 (call (.builtin "list.sort") [.ref L]) (λ_ p=>Q (.ref L) p) E g):wpAny 'h' A (call (.builtin "sorted") [.ref r]) Q E s:=by
 refine N9 kind_sorted plain_sorted entry_sorted (args_sorted1 _) ?_;unfold Builtin.«sorted»;refine gV (m:=N_ "sorted" 1 1 _) (Zy1 ?_);refine gV (Zj (A:=A.in1) K y i (du (l8 f 'a')) λh' tk c hz t a=>?_);have u:c.toList.length=n:=by rw[m5];exact a.1
 refine gV (D8 ?_ (by rw[u];exact du (l8 f 'a')));refine gV (wpAny_holding (i5 (h c.toList {s with heap:=h'.push (cL "list" c.toList.toArray 0),toks:=tk} h'.objs.size u (λj v e=>a.2 j v (by rw[<-sQ];exact e)) (cW _ W) W W hz λb o q=>⟨b5 (bz (t b o q)),bR _ (t b o q)⟩) (λ_ p x=>?_) λ_ _ e=>e));exact Zy1 ⟨_,W,x⟩
end
theorem Zl{X:Cx}(r:X.calm=be){zK:List (Addr×Obj)}{σ:St}{H:Hp}{s:aq}(I:Inv X zK σ H s){a:Addr}{t:Obj}{ks:List Key}{vs:List V}(h:H a=Z (.da t (.dK (ks.zip vs))))(i:ks.length=vs.length)(f:ks.length<64){Q:Value->aq->Prop}{E:Value->aq->Prop} (k:∀(c:List Value)(e:aq)(L:Addr),c.length<64->Vals (ks.map kV) c->e.heap.get? L=Z (cL "list" c.toArray 0)->e.os=s.os->e.gens=s.gens->s.heap.objs.size<=L->(∀b o,s.heap.get? b=Z o->b≠L/\e.heap.get? b=Z o)->wpAny 'b' X.A.in1 (call (.builtin "list.sort") [.ref L]) (λ_ y=>Q (.ref L) y) E e):wpAny 'b' X.A (call (.builtin "sorted") [.ref a]) Q E s:=by refine bG (rP I h) λM z g=>b8 g λws ep m B=>?_;clear g;have d:=KV.length m;rw[pz i]at d;refine Zk (PySem.W.kdl_dict (knd:=gP X.prog X.w) (kvs:=ws) (ep:=ep) z) (I.ok.hd r) B (by rw[<-d];exact f) λc e L i1 i2=>k c e L (by rw[i1,<-d];exact f) ?_;refine Yq (by rw[aE,i1,d]) λj v w p hw=>?_;rw[bW,bu]at p;obtain⟨k,C,rfl⟩:=p;refine b8 (i2 j w hw) λk' x G J=>?_;obtain⟨N,hz⟩:=uG i C;obtain⟨u,q,_⟩:=Yp m hz;rw[G]at q;cases q;exact I0 J
theorem JR{X:Cx}{zK:List (Addr×Obj)}{σ:St}{H:Hp}{s a:aq}(I:Inv X zK σ H s){L:Addr}{c:List Value}{out:Array Value}{d:List V}{ds:List D}{Q:V->Hp->Prop}(e:a.heap.get? L=Z (cL "list" c.toArray 0))(f:a.os=s.os)(g:a.gens=s.gens)(hz:s.heap.objs.size<=L)(h:∀b o,s.heap.get? b=Z o->b≠L/\a.heap.get? b=Z o)(i:d.length<=aD)(j:Vals d out.toList)(m:aG X.K H d ds)(q:∀v H',aw H H'->Rep X.K H' v (.lst ds)->Q v H'):EP X zK σ Q (.ref L) {a with heap:=Eb a.heap L c out}:=by obtain⟨p,r⟩:=sortedHeap_at (out:=out) e;have t:Inv X zK σ (upd H L (.lst d)) {s with heap:=Eb a.heap L c out,toks:=a.toks}:=I.laid (λb u q=>by obtain⟨n1,n2⟩:=h b u q;rw[sortedHeap_old n1 (bz n2)];exact n2) hz ⟨i,out.toList,p,j,by simpa [cL]using r⟩;have hf:=cU (I.aR.fresh hz) (.lst d);exact⟨.ref L,_,HX t W g f,W,q _ _ hf (.lst (.inl bA) (m.mono hf))⟩
def mI:List D->Option D:=k1 λd=>match d with|.aW ks _=>if ks.length<64 then(match intsOf (ks.map kD),strsOf (ks.map kD)with|some ns,_=>Z (.lst ((sortI ns).map .int))|none,Z a=>Z (.lst ((d8 a).map .str))|_,_=>am)else am|_=>am
theorem Zm{X:Cx}(T:X.calm=be):JC X (.builtin "sorted") mI:=⟨rl λ{zK}{s}{σ}{H}{x}{u}{Q}{dx}{d} I U r e q=>by cases r with
 |@aW a ob ks vs ds h rr g hn=>
  have i:=Ji (K:=X.K) (H:=H) ks hn.2;simp only[mI]at e;split at e;case isFalse=>injection e
  rename_i j;cases U;refine Zl T I h g j λY s1 L i1 E c G J hz M=>?_;have len:∀{v:Type}{f:v->D}{l:List v},ks.map kD=l.map f->l.length<=aD:=λ{v f l} e=>by have:=congrArg qm e;rw[aE,aE]at this;exact this▸du (l8 j 'a')
  cases p:intsOf (ks.map kD)with|some ns=>rw[p]at e;obtain rfl:=ao e;have g:=len (uB p);rw[uB p]at i;refine jt D9 ⟨_,c,W⟩ D_ (list_sort_tree c (DL.tJ ns i E) i1 λout w y z a3=>⟨_,W,?_⟩) (Ea _);have eq:w=sortI ns:=xX a3 (xW ns) (z.trans (r4 ns).symm);subst eq;obtain⟨A,B⟩:=Bv (K:=X.K) (H:=H) y;exact JR I c G J hz M (by rw[aE,(r4 ns).length_eq];exact g) A B q|none=>rw[p]at e;cases t:strsOf (ks.map kD)with
   |none=>rw[t]at e;injection e|some m=>rw[t]at e;obtain rfl:=ao e;have g:=len (mz t);rw[mz t]at i;have b:=uc i E;refine jt D9 ⟨_,c,W⟩ D_ (list_sort_treeK strKind_oneLt c b.keysOf (λN O rest e=>keyKind_strs (by rw[<-e];exact b)) i1 λAo y z=>⟨_,W,?_⟩) (Ea _);refine aM (sorted_out_str b y z) λC b1 b2 b3=>?_;have eq:C=d8 m:=wX (AE b3) (ue m) (b2.trans (iM m).symm);subst eq;obtain⟨A,B⟩:=ud (K:=X.K) (H:=H) b1 λx hx=>wV i x ((iM m).mem_iff.mp hx);exact JR I c G J hz M (by rw[aE,(iM m).length_eq];exact g) A B q
 |_=>injection e⟩
end DL
set_option backward.match.sparseCases false
namespace DL
open PySem PySem.Spec PyProof.Rows L2
section
variable {X:Cx}
def Zn:V->List V->Hp->VK->Prop:=λx vs H Q=>∃a kvs k y,x=.ref a/\vs=[kV k,y]/\H a=Z (.dK kvs)/\kvs.length<aD/\(∀v,gk kvs k=Z v->Q v H)/\(gk kvs k=am->Q y (upd H a (.dK (putK kvs k y))))
theorem Zo:tF X "dict.setdefault" Zn:=by intro zK s σ H x vs v L Q I p d ⟨a,kvs,k,y,r,t,i,hz,u,A⟩;subst r t;cases p;cases d with|@cons _ M _ _ B d=>cases d with|@cons _ C _ _ j d=>
 cases d;refine bG (FI I.aR i) λz m f=>a9 f λws b dd=>?_;clear f;have c:=b.val k;refine call_meetsIn Zvo dd.typeIs PySem.F.entry_dict_setdefault (PySem.F.args_dict_setdefault_3 _ _ _) (kt_meets_setdefault (gP X.prog X.w) a (ra B) m C) ⟨ws,dd,by rw[<-b.length];exact z,λw e=>?_,λe h' g E=>?_⟩;·cases q:gk kvs k with|none=>rw[q,e]at c;exact c.elim|some h=>rw[q,e]at c;exact⟨h,H,I.tok _,c,u h q⟩
 ·cases q:gk kvs k with|some h=>rw[q,e]at c;exact c.elim|none=>
   have G:(putK kvs k y).length<=aD:=by have:=zU kvs k y;lia
   exact⟨y,_,wy I (by rw[i];exact kz) E (by obtain⟨q,_,_,J,_⟩:=g;exact⟨q,J⟩) (FJ G m (b.put k j) g),j,A q⟩
end
noncomputable def gW:List Key->Key->Nat|[],_=>0|k::ks,j=>if k=j then 0 else gW ks j+1
theorem x3:∀{ks:List Key}{vs:List V},ks.length=vs.length->gk (ks.zip vs:List (Key×V)) j=vs[gW ks j]?
 |[],[],_=>rfl|k::ks,v::vs,h=>by
  unfold gW;by_cases e:k=j;·rw[if_pos e];exact tK e
  ·rw[if_neg e];exact(tL e).trans (x3 (Eh h))
theorem JU:∀{ks:List Key},j∈ks->gW ks j<ks.length
 |k::ks,h=>by
  unfold gW;split;·exact oI _
  ·rename_i e;exact Oa (JU ((a7.mp h).resolve_left λz=>e z.symm))
def uQ(ks:List Key)(ds:List D)(j:Key)(k n:D):Option (List Key×List D):=if ks.length<aD then if gW ks j<ks.length then(match ds[gW ks j]? with|some (.tup [k',.lst es])=>if es.length<aD then Z (ks,ds.set (gW ks j) (.tup [k',.lst (es++[n])]))else am|_=>am)else Z (ks++[j],ds++[.tup [k,.lst [n]]])else am
section
variable {K:av}{H H':Hp}{σ:St}{ρ:ar}{O O':List Addr}
theorem RO.grow(R:RO K H σ ρ O)(S:aw (az H O) (az H' O'))(h:∀a∈O,a∈O'/\H' a=H a)(g:jf H' O'):RO K H' σ ρ O':=⟨R.len,g,λi d e=>by obtain⟨v,f,c⟩:=R.ak i d e;exact⟨v,f,c.mono S⟩,λi κ ds e=>by obtain⟨a,vs,f,c,j,m,p⟩:=R.ow i κ ds e;exact⟨a,vs,f,(h a c).1,(h a c).2.trans j,m.mono S,p⟩,R.inj,R.xt.of (λ_ _ _ h=>⟨h,W⟩) S λA q o=>⟨λb r=>h b (q b r),o⟩⟩
theorem RO.gone(R:RO K H σ ρ O)(i:Nat)(v:V):RO K H (σ.set i (Z v)) (ρ.set i am) O:=by
 have old:∀(j:Nat)(x:SD),(ρ.set i am)[j]?=Z (Z x)->j≠i/\ρ[j]?=Z (Z x):=λj x h=>by
  by_cases f:i=j
  ·subst f;by_cases p:i<ρ.length;·rw[ij p]at h;injection h with h;injection h
   ·rw[y8.mpr (by rw[e_];lia)]at h;injection h
  ·rw[dh f]at h;exact⟨b6 f,h⟩
 have sg:∀{j:Nat},j≠i->(σ.set i (Z v))[j]?=σ[j]?:=λh=>dh (b6 h);refine⟨by rw[e_,e_];exact R.len,R.ls,λj e h=>?_,λj κ ds h=>?_,λj k κ κ' ds es a c d g m=>?_,R.xt.of (λj κ ds h=>⟨(old j _ h).2,sg (old j _ h).1⟩) (aw.refl _) λA q o=>⟨λb r=>⟨q b r,W⟩,λj κ es b c d=>?_⟩⟩;·rw[sg (old j _ h).1];exact R.ak j e (old j _ h).2
 ·rw[sg (old j _ h).1];exact R.ow j κ ds (old j _ h).2
 ·rw[sg (old j _ c).1]at g;rw[sg (old k _ d).1]at m;exact R.inj j k κ κ' ds es a (old j _ c).2 (old k _ d).2 g m
 ·rw[sg (old j _ c).1]at d;exact o j κ es b (old j _ c).2 d
theorem OX.more{ks:List Key}{A T:List Addr}{ds:List D}{k:D}{n:D} (J:H a=Z (.dK (ks.zip (T.map .ref)))) (L:pf (Z ks) (T.map .ref)) (x:A.Nodup) (M:T.length=ds.length) (N:A.length=ds.length) (y:∀(j:Nat)(b c:Addr)(d:D),A[j]?=Z b->T[j]?=Z c->ds[j]?=Z d->∃v k vs es,G c=Z (.tup [v,.ref b])/\Rep K G v k/\d=.tup [k,.lst es]/\H b=Z (.lst vs)/\aG K G vs es) (f:A[m]?=Z b) (B:ds[m]?=Z (.tup [k,.lst es])) (hw:H b=Z (.lst ws)) (i:aG K G ws es) (p:a≠b) (Q:Rep K G v n):OX K (upd H b (.lst (ws++[v]))) G (.s ks) a A (ds.set m (.tup [k,.lst (es++[n])])):=by
 refine⟨T,by rw[bf p];exact J,L,x,by rw[e_];exact M,by rw[e_];exact N,λj U c d g C h=>?_⟩;by_cases q:m=j
 ·subst q;rw[f]at g
  (obtain rfl:=ao g);rw[ij (bF.mp B).1]at h
  (obtain rfl:=ao h);obtain⟨r,k',vs,e,t,u,w,E,I⟩:=y m b c _ f C B;cases w;exact⟨r,k,_,_,t,u,W,bA,i.snoc Q⟩
 ·rw[dh q]at h;obtain⟨r,k',vs,e,t,u,w,E,I⟩:=y j U c d g C h;refine⟨r,k',vs,e,t,u,w,?_,I⟩;rw[bf λz=>q ((Ef (bF.mp f).1 x).mp (by rw[f,g,z]))];exact E
theorem OX.fresh{A T:List Addr}{ds:List D}{k n:D} (B:H' a=Z (.dK ((ks++[j]).zip ((T++[c]).map .ref)))) (C:pf (Z ks) (T.map .ref)) (E:j∉ks) (I:mn j=be) (J:A.Nodup) (r:T.length=ds.length) (t:A.length=ds.length) (L:∀(j:Nat)(b c:Addr)(d:D),A[j]?=Z b->T[j]?=Z c->ds[j]?=Z d->∃v k vs es,G c=Z (.tup [v,.ref b])/\Rep K G v k/\d=.tup [k,.lst es]/\H' b=Z (.lst vs)/\aG K G vs es) (M:p∉A) (N:G c=Z (.tup [v,.ref p])) (Q:Rep K G v k) (hw:H' p=Z (.lst [w])) (U:Rep K G w n):OX K H' G (.s (ks++[j])) a (A++[p]) (ds++[.tup [k,.lst [n]]]):=by
 refine⟨T++[c],B,λY e=>?_,?_,by simp[r],by simp[t],λi b' c' d f g h=>?_⟩;·obtain rfl:=ao e;obtain⟨u,g2,g3⟩:=C ks W;rw[aE]at u;refine⟨by simp[u],oP.mpr ⟨g2,by simp,λx m y q z=>E (by rw[<-aZ.mp q,<-z];exact m)⟩,λx m=>(bQ.mp m).elim (g3 x) λz=>by rw[aZ.mp z];exact I⟩
 ·exact oP.mpr ⟨J,by simp,λx m y q z=>M (by rw[<-aZ.mp q,<-z];exact m)⟩
 ·by_cases hi:i<ds.length;·rw[iF 'd']at f g h;exact L i b' c' d f g h
  ·rw[m8 'd']at f g h;rw[t]at f;rw[r]at g;cases z:i-ds.length with|succ _=>rw[z]at f;simp at f|zero=>rw[z]at f g h;cases f;cases g;cases h;exact⟨v,k,_,_,N,Q,W,hw,.cons U .nil⟩
end
section
variable {X:Cx}{xi xl xw xk xn:Str}{p1 p2 p3 p4 p5 p6 p7 p8 p9 JV JY JZ ap cp By Bz:Pos}
def uR(i l w k n:Nat):ar->Option aK:=λa=>match a[i]?,aa w (pv a),aa k (pv a),aa n (pv a)with|some (Z (.xt (.s ks) ds)),Z dw,Z dk,Z dn=>(lF dw).bind λj=>(uQ ks ds j dk dn).bind λz=>if l≠n/\l<a.length then Z (.aF ((a.set i (Z (.xt (.s z.1) z.2))).set l am))else am|_,_,_,_=>am
theorem Zp(i l w k n:Nat)(hN:X.N.Nodup)(hi:X.N[i]?=Z xi)(hl:X.N[l]?=Z xl)(hw:X.N[w]?=Z xw)(hk:X.N[k]?=Z xk)(hn:X.N[n]?=Z xn)(vi:dv X.env.scope xi)(vl:dv X.env.scope xl)(vw:dv X.env.scope xw)(vk:dv X.env.scope xk)(vn:dv X.env.scope xn)(hx:Loc X.env.scope xl) (hd:∀x∈[xi,xl,xw,xk,xn],'f'=bi/\'m'=bi) (ha:(ap.endLine==cp.line)=be) (Zq:(By.endLine==Bz.line)=be) (hs:eY (.Call (.Attribute (.Name xi p2) "setdefault" ap) [.Name xw p3,.Tuple [.Name xk p4,.List [] p5] t1 p6] [] cp) (Z (.Name xl p1)) p7.line X.env=pure bi) (hf:X.fn xl=be\/X.env.scope.names.lookup xl=Z .local):KB X [.Assign [.Name xl p1] (.Call (.Attribute (.Name xi p2) "setdefault" ap) [.Name xw p3,.Tuple [.Name xk p4,.List [] p5] t1 p6] [] cp) p7,.Expr (.Call (.Attribute (.Subscript (.Name xl p8) (.Constant (.int 1) t2 p9) JV) "append" By) [.Name xn JY] [] Bz) JZ] (uR i l w k n):=by
 have r:∀{j:Nat}{x:Str}{p:Pos},X.N[j]?=Z x->dv X.env.scope x->x∈[xi,xl,xw,xk,xn]->PE X (.Name x p) (zy j):=λh1 h2 h3=>hH h1 h2 (hd _ h3).1 (hd _ h3).2;have e1:=kE (pos:=p7) (pos':=p1) hN hl hx (lD (cpos:=cp) (apos:=ap) PySem.F.plainAttrs_dict Zvo PySem.F.type_dict_setdefault Zo (r (p:=p2) hi vi 'k') (ek (r (p:=p3) hw vw 'k') (ek (E7 (x1:=t1) (pos:=p6) (ek (r (p:=p4) hk vk 'k') (ek (wh (pos:=p5) gj) gj (bP W)) (bP W))) gj (bP W)) (bP W)) W (by rw[kP (by rfl)];rfl) ha (bP W) (plain_any W)) hs hf;have e2:=oU (pos:=JZ) (lD (cpos:=Bz) (apos:=By) oK y_ za tI (zQ (pos:=JV) Fu (r (p:=p8) hl vl 'k') (zz (i:=1) (j:=t2) (pos:=p9)) (ug W)) (ek (r (p:=JY) hn vn 'k') gj (bP W)) W (by rw[kP (by rfl)];rfl) Zq (bP W) (plain_any W)) W;refine⟨jD (qT e1 (oT e2)) λDn σ H zZ=>?_⟩;obtain⟨ρ,O,o,R,B,q⟩:=zZ;unfold uR at B;split at B;case h_2=>injection B
 rename_i ks ds dw dk dn h1 Zr Zs Zt;refine bS B λj hj B=>?_;refine bS B λz hz B=>?_;split at B;case isFalse=>injection B
 rename_i uo
 (obtain rfl:=ao B);obtain⟨vw',g1,r1⟩:=R.pv.get w dw (tR Zr);obtain⟨C,g2,r2⟩:=R.pv.get k dk (tR Zs);obtain⟨f,g3,r3⟩:=R.pv.get n dn (tR Zt);obtain⟨rfl,Zu,_⟩:=uF hj r1;refine bc (R.xt i _ ds h1) λuq nM=>fS nM λa A q1 q2 q3 q4 q5=>?_;clear nM;obtain⟨T,t1,t2,t3,t4,t5,t6⟩:=q4;have lk:ks.length=(T.map V.ref).length:=(t2 ks W).1;have Zv:ks.length=ds.length:=by rw[lk,aE,t4]
 refine⟨.ref a,q1,.inr (.inr (.inl ⟨W,.inl ⟨_,t1⟩⟩)),_,g1,_,g2,dQ _,λp hp=>⟨show 2<=aD by decide,λp2 E=>?_⟩⟩;have Q:p2≠p:=λz=>by rw[z,bA]at E;injection E
 have np:∀{b u},H b=Z u->b≠p:=λe=>jz e hp;have t:∀{b u},H b=Z u->b≠p2:=λ{b u} e z=>by rw[z]at e;rw[bf Q,e]at E;injection E
 generalize U:upd (upd H p (.lst [])) p2 (.tup [C,.ref p])=y;have I:aw H y:=λb u e=>by rw[<-U,bf (t e),bf (np e)];exact e
 have J0:y p=Z (.lst []):=by rw[<-U,bf (b6 Q),bA]
 have J:y p2=Z (.tup [C,.ref p]):=by rw[<-U,bA]
 have J2:∀b∈O,∃u,H b=Z u:=λb hb=>by obtain⟨u,e,_⟩:=R.ls b hb;exact⟨u,e⟩
 have pO:p∉O:=λz=>by obtain⟨_,e⟩:=J2 p z;exact np e W
 have Zw:p2∉O:=λz=>by obtain⟨_,e⟩:=J2 p2 z;exact t e W
 have J8:=I _ _ t1;have fin:∀{H2:Hp}{O2:List Addr}{κ:List Key}{es:List D}{v:V},aw (az H O) (az H2 O2)->RO X.K H2 σ (ρ.set i (Z (.xt (.s κ) es))) O2->z=(κ,es)->Dn.nx (σ.set l (Z v)) H2:=λ{H2 O2 κ es v} S R' e=>by subst e;exact q _ _ _ S (R'.gone l v)
 have gn:∀{v:V},(σ.set l (Z v))[n]?=Z (Z f):=(dh uo.1).trans g3;have gl:∀{v:V},(σ.set l (Z v))[l]?=Z (Z v):=ij (by rw[R.len];exact uo.2);have nA:∀{b:Addr},b∈A->b∈O:=λh=>q2 _ (.tail _ h);have aO:a∈O:=q2 _ (.head _);unfold uQ at hz;split at hz;case isFalse=>injection hz
 rename_i Zx;have J9:∀{H2:Hp}{O2:List Addr},aw (az H O) (az H2 O2)->(∀b∈A,H2 b=H b)->∀(j:Nat)(b c:Addr)(d:D),A[j]?=Z b->T[j]?=Z c->ds[j]?=Z d->∃v k vs es,az H2 O2 c=Z (.tup [v,.ref b])/\Rep X.K (az H2 O2) v k/\d=.tup [k,.lst es]/\H2 b=Z (.lst vs)/\aG X.K (az H2 O2) vs es:=λS hA j b c d q1 q2 q3=>by obtain⟨v,k,vs,es,f1,f2,f3,f4,f5⟩:=t6 j b c d q1 q2 q3;exact⟨v,k,vs,es,S _ _ f1,f2.mono S,f3,(hA b (cj q1)).trans f4,f5.mono S⟩
 refine⟨a,_,j,.ref p2,W,W,J8,by rw[qt,<-lk,Nat.min_self];exact Zx,λv e=>?_,λe=>?_⟩
 ·rw[x3 lk,bW]at e;obtain⟨c,L,rfl⟩:=bu.mp e;have hm:gW ks j<ks.length:=by rw[lk,aE];exact(bF.mp L).1
  rw[if_pos hm]at hz;split at hz;case h_2=>injection hz
  rename_i k0 es J_;split at hz;case isFalse=>injection hz
  rename_i Zy;have hA:gW ks j<A.length:=by rw[t5,<-Zv];exact hm
  have hb:=cy hA;generalize A[gW ks j]=b at hb;obtain⟨v',k',vs,Bg,f1,f2,f3,f4,f5⟩:=t6 _ b c _ hb L J_;cases f3;have bO:=nA (cj hb);have g:=SO.of R.ls I;have R1:=R.mono g;have Y:=I _ _ f4;refine⟨_,gl,c,_,1,.ref b,W,W,.of (I _ _ (gU f1).2),W,.inl ⟨W,vs,b9.of Y⟩,_,gn,b,vs,f,W,W,Y,by rw[f5.length];exact Zy,?_⟩;have nb:a≠b:=λz=>q3 (z▸cj hb);have ox:=OX.more (K:=X.K) (G:=az y O) (v:=f) (n:=dn) J8 t2 t3 t4 t5 (J9 g.same λb hb=>g.own b (nA hb)) hb J_ Y (f5.mono g.same) nb (r3.mono g.same);obtain⟨R2,hh⟩:=R1.rX (κ':=.s ks) (A:=A) h1 q1 q2 q3 q5 (λc L=>bf λz=>L (z▸ .tail _ (cj hb))) (λc L=>by
   by_cases z:c=b
   ·rw[z];exact⟨_,bA,.inl ⟨_,W⟩⟩
   ·rw[bf z];exact R1.ls c (q2 c L)) ox W;exact fin (by rw[hh];exact g.same) R2 (ao hz).symm
 ·rw[x3 lk]at e;have hm:¬gW ks j<ks.length:=λz=>by rw[cy (by rw[<-lk];exact z)]at e;injection e
  rw[if_neg hm]at hz;have na:a≠p:=np t1;have Zz:a≠p2:=t t1;have ZA:putK (ks.zip (T.map V.ref)) j (.ref p2)=(ks++[j]).zip ((T++[p2]).map .ref):=by unfold putK;rw[zT,x3 lk,e,bX,List.zip_append lk];rfl
  rw[ZA];generalize m:upd y a (.dK ((ks++[j]).zip ((T++[p2]).map .ref)))=H2;have Ka:H2 p=Z (.lst []):=by rw[<-m,bf (b6 na)];exact J0
  have ZC:H2 p2=Z (.tup [C,.ref p]):=by rw[<-m,bf (b6 Zz)];exact J
  refine⟨_,gl,p2,_,1,.ref p,W,W,.of ZC,W,.inl ⟨W,[],b9.of Ka⟩,_,gn,p,[],f,W,W,Ka,oI _,?_⟩;have S3:aw (az H O) (az y (p::O)):=λb u e=>by obtain⟨hb,e'⟩:=gU e;rw[cb λz=>(a7.mp z).elim (np e') hb];exact I _ _ e'
  have L1:jf y (p::O):=λb hb=>(a7.mp hb).elim (λz=>z▸⟨_,J0,.inl ⟨_,W⟩⟩) λz=>by obtain⟨u,e,hu⟩:=R.ls b z;exact⟨u,I _ _ e,hu⟩
  have R1:=R.grow S3 (λb hb=>⟨.tail _ hb,(SO.of R.ls I).own b hb⟩) L1;have pA:p∉A:=λz=>pO (nA z);have rE:∀b,b∉a::(A++[p])->upd H2 p (.lst [f]) b=y b:=λb hb=>by rw[bf λz=>hb (by simp[z]),<-m,bf λz=>hb (by simp[z])]
  have keep:∀b∈A,upd H2 p (.lst [f]) b=H b:=λb hb=>by rw[bf λz:b=p=>pA (z▸hb),<-m,bf λz:b=a=>q3 (z▸hb)];exact(SO.of R.ls I).own b (nA hb)
  have Kb:upd H2 p (.lst [f]) a=Z (.dK ((ks++[j]).zip ((T++[p2]).map .ref))):=by rw[bf na,<-m,bA]
  have sub:∀b∈a::(A++[p]),b∈p::O:=λb hb=>by
   rcases a7.mp hb with rfl|hb
   ·exact .tail _ aO
   ·rcases bQ.mp hb with hb|hb
    ·exact .tail _ (nA hb)
    ·rw[aZ.mp hb];exact .head _
  have M:az (upd H2 p (.lst [f])) (p::O)=az y (p::O):=by
   funext b;by_cases hb:b∈p::O
   ·rw[eI hb,eI hb]
   ·rw[cb hb,cb hb,rE b λz=>hb (sub b z)]
  have S4:aw (az H O) (az (upd H2 p (.lst [f])) (p::O)):=by rw[M];exact S3
  have ZD:az y (p::O) p2=Z (.tup [C,.ref p]):=by rw[cb λz=>(a7.mp z).elim Q Zw];exact J
  have ox:=OX.fresh (K:=X.K) (H':=upd H2 p (.lst [f])) (G:=az y (p::O)) (k:=dk) (n:=dn) Kb t2 (λz=>hm (JU z)) Zu t3 t4 t5 (by rw[<-M];exact J9 S4 keep) pA ZD (r2.mono S3) bA (r3.mono S3);have off:Off σ ρ (a::(A++[p])):=λj' κ' es b o1 o2 hb=>by
   refine cE (R.ow j' κ' es o1) λb' us w1 w2 w3 _=>?_;rw[o2]at w1;cases w1;rcases a7.mp hb with rfl|hb
   ·exact q5 j' κ' es _ o1 o2 (.head _)
   ·rcases bQ.mp hb with hb|hb
    ·exact q5 j' κ' es _ o1 o2 (.tail _ hb)
    ·exact np w3 (aZ.mp hb)
  obtain⟨R2,hh⟩:=R1.rX (κ':=.s (ks++[j])) (A:=A++[p]) h1 q1 sub (λz=>(bQ.mp z).elim q3 λz=>na (aZ.mp z)) off rE (λc L=>by
   by_cases z:c=p
   ·rw[z];exact⟨_,bA,.inl ⟨_,W⟩⟩
   ·by_cases z2:c=a
    ·rw[z2];exact⟨_,Kb,.inr (.inl ⟨_,W⟩)⟩
    ·rw[bf z,<-m,bf z2];exact L1 c (sub c L)) ox W;exact fin S4 R2 (ao hz).symm
def BA(i:Nat):ar->Option aK:=λa=>if a.all mE=be then Z (.aF (a.set i (Z (.xt (.s []) []))))else am
theorem ZE{pos:Pos}(i:Nat)(f:X.N.Nodup)(h:KD X e (λa=>pC a))(g:X.N[i]?=Z x)(j:Loc X.env.scope x)(m:eY e (Z (.Name x pos')) pos.line X.env=pure bi)(hf:X.fn x=be\/X.env.scope.names.lookup x=Z .local):KS X (.Assign [.Name x pos'] e pos) (BA i):=⟨cz (kE f g j h.h m hf)<|by
  rintro u σ H ⟨a,O,o,R,e,q⟩;unfold BA at e;split at e;case isFalse=>injection e
  rename_i hn
  (obtain rfl:=ao e);refine⟨a,O,([],[]),R,W,λvs v p S d w=>?_⟩;obtain⟨r,t⟩:=(R.mono S).newX (A:=[]) (κ:=.s []) (ds:=[]) i (cU d (.dK (([]:List Key).zip vs))) (λb c=>by rw[aZ.mp c];exact d) (λb c=>by rw[aZ.mp c];exact⟨_,bA,.inr (.inl ⟨_,W⟩)⟩) 'k' (λG y=>⟨[],bA,λks e=>by(obtain rfl:=ao e);exact⟨W,.nil,by simp⟩,.nil,W,W,by simp⟩) hn;exact q _ _ _ (S.same.trans t) r⟩
noncomputable def BB(i:Nat):ar->Option aK:=λa=>match a[i]? with|some (Z (.xt (.s ks) ds))=>Z (.ret (.aW ks ds))|_=>am
theorem ZF{x:Str}{p:Pos}{i:Nat}(G:X.N[i]?=Z x)(J:dv X.env.scope x)(L:'f'=bi)(m:'m'=bi):PE X (.Name x p) (λσ H Q=>∃r O ks ds,RO X.K H σ r O/\r[i]?=Z (Z (.xt (.s ks) ds))/\∀v H',aw (az H O) H'->Rep X.K H' v (.aW ks ds)->Q v H'):=by
 rintro zK s σ H Q I ⟨r,O,ks,ds,R,h,q⟩;refine bc (R.xt i _ ds h) λuq f=>fS f λa A M U Y q4 q5=>?_;clear f;obtain⟨T,t1,t2,t3,t4,t5,t6⟩:=q4;refine aT (hH G J L m zK s σ H (λv g=>v=.ref a/\g=H) I ⟨_,M,W,W⟩) ?_;rintro u s1 ⟨v,g,t,rv,rfl,rfl⟩;refine aM (Inv.nQ t t1 (.inr (.inl ⟨_,W⟩))) λw y _ hk=>?_;have aO:a∈O:=U _ (.head _);have I2:Inv X zK σ (upd g a (.da w (.dK (ks.zip (T.map .ref))))) s1:=Inv.swap t λb=>by
  by_cases z:b=a;·subst z;exact .inr ⟨_,_,t1,bA,⟨_,.inl W⟩,⟨y,hk _ _ y λ_ _ e=>e⟩,λo v z=>by have:=t.base.hD b o v z;rw[t1]at this;(injection this with this;injection this)⟩
  ·exact .inl (bf z)
 have S:aw (az g O) (upd g a (.da w (.dK (ks.zip (T.map .ref))))):=λb u e=>by obtain⟨hb,e'⟩:=gU e;rw[bf λz:b=a=>hb (z▸aO)];exact e'
 refine⟨.ref a,_,I2,rv,q _ _ S (.aW bA (AU (by rw[aE];exact t4) λj v d B C=>?_) (t2 ks W).1 (t2 ks W).2)⟩;rw[bW]at B;obtain⟨c,e3,rfl⟩:=bu.mp B;have E:j<A.length:=by rw[t5];exact(bF.mp C).1
 obtain⟨v,k,vs,es,f1,f2,rfl,f4,f5⟩:=t6 j _ c d (cy E) e3 C;exact .tup (.of (S _ _ f1)) (.cons (f2.mono S) (.cons (.lst (.inl (by rw[bf λz:A[j]=a=>Y (z▸NZ E)];exact f4)) (f5.mono S)) .nil))
theorem ZG(i:Nat)(b:X.N[i]?=Z x)(c:dv X.env.scope x)(d:'f'=bi)(a:'m'=bi):KS X (.Return (Z (.Name x p)) pos) (BB i):=⟨cz (tw (ZF b c d a))<|by
  rintro g σ H ⟨f,O,o,R,e,q⟩;unfold BB at e;split at e;case h_2=>injection e
  rename_i ks ds h
  (obtain rfl:=ao e);exact⟨f,O,ks,ds,R,h,q⟩⟩
end
section
variable {X:Cx}{ke:Expr}{pos pos' np p0:Pos}{x:Str}{fk:ar->Option D}
theorem SO.all(S:SO H H' O):aw H H':=λb o e=>by
 by_cases a:b∈O;·exact(S.own b a).trans e
 ·exact(gU (S.same b o (by rw[cb a];exact e))).2
def x4(i:Nat)(fk:ar->Option D)(z:Int):ar->Option aK:=λa=>(fk a).bind λk=>match k with|.tup kk=>if h_ 8 (.tup kk)=be/\a.all mE=be then Z (.aF (a.set i (Z (.xt (.t am [.tup kk]) [.int z]))))else am|_=>am
theorem ZH{k:Nat}(i:Nat)(y:bI k X.A)(B:X.N.Nodup)(C:eL X ke fk)(E:X.N[i]?=Z x)(I:Loc X.env.scope x)(J:eY (.Dict [Z ke] [.Constant (.int z) j p0] np) (Z (.Name x pos')) pos.line X.env=pure bi)(hf:X.fn x=be\/X.env.scope.names.lookup x=Z .local):KS X (.Assign [.Name x pos'] (.Dict [Z ke] [.Constant (.int z) j p0] np) pos) (x4 i fk z):=⟨cz (kE B E I (Jn (by have:=y.un;lia) C.h zz) J hf)<|by
  rintro Dn σ H ⟨L,O,o,R,a,q⟩;refine bS a λd M a=>?_;split at a;case h_2=>injection a
  rename_i kk;split at a;case isFalse=>injection a
  rename_i hn
  (obtain rfl:=ao a);intro p c;have m:=SO.of R.ls (cU c (dB X.K p [] []));refine⟨L,O,_,R.mono m,M,λv r u w=>?_⟩;have Q:=rV 8 (w.mono (hZ _ _)) hn.1;have S:=m.trans u;have f:r p=Z (dB X.K p [] []):=u.all _ _ bA;cases w with|@tup b _ _ _ _=>
  refine⟨b,.int z,_,W,f,Q,?_⟩;have T:aw H (upd r p (dB X.K p [.tup kk] [.int z])):=λb o e=>by rw[bf (jz e c)];exact S.all _ _ e
  obtain⟨U,Y⟩:=R.newX (A:=[]) (κ:=.t am [.tup kk]) (ds:=[.int z]) i T (λb g=>by rw[aZ.mp g];exact c) (λb g=>by rw[aZ.mp g];exact⟨_,bA,.inr (.inr ⟨_,_,_,W⟩)⟩) 'k' (λG hG=>⟨W,[.int z],bA,.cons (.int z) .nil,W,λ_ z=>by injection z⟩) hn.2;exact q _ _ _ Y U⟩
def Kc:ag->Option Out:=bY (ez (cB (cK be)) (ez (gR (cB (cK bi))) (cB (cK be)))) (cc 2 (cC .aC)) cR
end
end DL
namespace PT
open PySem L2 DL
inductive Fn where|fa|fb|fc|fd|fe|ff|fg|fh|fi|fj|fk|fm|fo|fp|fq|fr|ft|fu|fv|fw|fx|fy|fA|fB|fC|fD|fE|fF|fG|fH|fI|fJ|fK|fL|fM|fN|fO|fP|fQ|fR
noncomputable def Fn.nm:Fn->Str|.fa=>"first_value"|.fb=>"choices_at"|.fc=>"is_turn"|.fd=>"role_at"|.fe=>"kinds_at"|.ff=>"are_even"|.fg=>"ahead_of_turns"|.fh=>"reason"|.fi=>"fault_of"|.fj=>"steps_from"|.fk=>"common_steps"|.fm=>"way_back"|.fo=>"apart_from"|.fp=>"leads_of"|.fq=>"part_of"|.fr=>"state_of"|.ft=>"is_fair"|.fu=>"_law_cell"|.fv=>"_law_mix"|.fw=>"_law_word"|.fx=>"_law_kind"|.fy=>"_law_said"|.fA=>"_law_is_late"|.fB=>"_law_size"|.fC=>"_law_told_late"|.fD=>"_law_told_on"|.fE=>"_law_apart_two"|.fF=>"_law_grammar"|.fG=>"_law_made"|.fH=>"_law_spoilt"|.fI=>"_law_sly"|.fJ=>"_law_side"|.fK=>"_law_apart"|.fL=>"_law_near"|.fM=>"_law_unlike"|.fN=>"_law_is_even"|.fO=>"_law_state"|.fP=>"_law_part"|.fQ=>"_law_told_part"|.fR=>"law"
noncomputable def mJ:D:=.tup [(.str "end")]
def BC(a:Fn->List D->Option D):ag->Option Out:=a8 (cc 1 (ae ay (aa 0) 'g')) (a8 (bY (cB (ae (bK 64) (aa 1) (cC (.str "none")))) (bj (cC .aC)) (cR)) (a8 (bY (cB (ae (bK 64) (aa 1) (cC (.str "number")))) (bj (ae ay (aa 0) 'c')) (cR)) (a8 (bY (cB (ae (bK 64) (aa 1) (cC (.str "name")))) (bj (ae ay (ae ay (aa 0) 'c') 'g')) (cR)) (a8 (bY (cB (ae (bK 64) (aa 1) (cC (.str "pair")))) (bj (aH (ai [ax (a .fa) (ai [ae ay (aa 0) 'c']),ax (a .fa) (ai [ae ay (aa 0) (cC (.int 2))])]))) (cR)) (bj (aH (ai [])))))))
def BD(a:Fn->List D->Option D):ag->Option Out:=a8 (bY (cB (ae (bK 64) (aa 0) (cC mJ))) (bj (aH (ai []))) (cR)) (bj (ae ay (aa 0) (cC (.int 3))))
def Ke(a:Fn->List D->Option D):ag->Option Out:=bj (tU (ae (eB 64) (aa 0) (cC mJ)) (wG (ae (bK 64) (ae ay (aa 0) 'c') (aa 1)) (ae (bK 64) (ae ay (aa 0) (cC (.int 2))) (aa 1))))
def Kf(a:Fn->List D->Option D):ag->Option Out:=a8 (bY (cB (ae (bK 64) (ae ay (aa 0) 'c') (aa 1))) (bj (aH (ai [cC (.str "says"),ae ay (aa 0) (cC (.int 2))]))) (cR)) (bj (aH (ai [cC (.str "hears"),ae ay (aa 0) 'c'])))
def BE(a:Fn->List D->Option D):ar->Option aK:=aI (rS 1 pC) (aI (gv (bV (ae ay (aa 0) (cC (.int 3)))) (kc 3 (dR (goN 2) (dR (goN 3) (dR (goN 4) (kb))))) (n4 1 (vH (aa 2)) (vH (aa 3)))) (xH 1 (eD (aa 1))))
def x5(a:Fn->List D->Option D):ag->Option Out:=a8 (bY (cB (ae (eB 64) (ax (a .fd) (ai [aa 0,aa 2])) (ax (a .fd) (ai [aa 1,aa 2])))) (bj (cC (.bl bi))) (cR)) (a8 (cc 3 (ax (a .fe) (ai [aa 0]))) (a8 (cc 4 (ax (a .fe) (ai [aa 1]))) (a8 (bY (cB (ae (bK 64) (ae ay (aa 0) 'c') (aa 2))) (bj (ae (uL 64) (aa 3) (aa 4))) (cR)) (bj (ax o_ (ai [cf [am,Z 3,Z 4] (xF (aa 3)) (gN 0) (cB (ae iu (aa 0) (aa 2))) (ae (bK 64) (ae ir (aa 1) (aa 0)) (ae ir (aa 2) (aa 0)))]))))))
def BF(a:Fn->List D->Option D):ar->Option aK:=aI (rY 2 (eC [am] (bV (aa 0)) (gN 0) (λ_=>Z be) (cC (.lst [])))) (aI (gv (jG (aa 0)) (kc 2 (dR (goN 3) (dR (goN 4) (kb)))) (gv (bV (ax (a .fb) (ai [aa 4]))) (goN 5) (xM 2 (vH (ae ay (aa 5) (cC (.int 2)))) (vH (aa 3))))) (aI (rS 6 pC) (aI (cS 7 (lZ (eC [am,Z 1,Z 0] (dJ (ai [ax cA (ai [aa 0])])) (gN 0) (cB (ax (a .fc) (ai [ae ay (aa 2) (aa 0),aa 1]))) (aa 0)))) (aI (eE (cB (ae mq (ax cA (ai [aa 7])) 'g')) (aI (rT 7 3) (uJ (xG (cB (ae lR (aa 3) (aa 6)))) (aI (n4 6 (vH (aa 3)) (vH (cC (.bl be)))) (xN 7 (ae ay (aa 2) (aa 3)))) (dX))) 99999) (xH 6 (eD (aa 6)))))))
def BG(a:Fn->List D->Option D):ar->Option aK:=aI (cg 2 (vH (ae ay (aa 0) 'c'))) (aI (cg 3 (vH (ax (a .fg) (ai [aa 2,aa 1])))) (aI (xK 4 (aH (ai [cC (.int 0),cC (.int 0)])) (cC .aC)) (aI (cS 5 (lH (ai [aH (ai [cC (.int 0),cC (.int 0)])]))) (aI (cg 6 (vH 'g')) (aI (eE (cB (ae jX (aa 6) (ax cA (ai [aa 5])))) (aI (cg 7 (vZ (ae ay (aa 5) (aa 6)))) (aI (cg 8 (vH (ax (a .fi) (ai [aa 2,aa 1,aa 3,aa 7])))) (aI (d9 (cB (ae jY (aa 8) (cC .aC))) (eD (aH (ai [aa 8,ax (a .fm) (ai [aa 4,aa 7,cC (.int 0)]),ax (a .fm) (ai [aa 4,aa 7,cC (.int 1)])]))) (dX)) (aI (gv (bV (ax (a .fj) (ai [aa 2,aa 1,aa 3,aa 7]))) (kc 2 (dR (goN 9) (dR (goN 10) (kb)))) (d9 (cB (ae rW (aa 9) (aa 4))) (aI (uM 4 (vH (aa 9)) (vH (aH (ai [aa 7,aa 10])))) (eM 5 (vH (aa 9)))) (dX))) (xo 6 (vH 'c')))))) 99999) (eD (cC .aC)))))))
def x6(a:Fn->List D->Option D):ag->Option Out:=a8 (cc 4 (ae ay (aa 0) (ae ay (aa 3) 'g'))) (a8 (cc 5 (ae ay (aa 0) (ae ay (aa 3) 'c'))) (a8 (bY (gR (cB (ax (a .fc) (ai [aa 5,aa 1])))) (bj (cC .aC)) (cR)) (a8 (bY (cB (ae lR (ae ay (aa 3) 'g') (aa 2))) (bj (cC (.str "never"))) (cR)) (a8 (bY (ez (cB (ax (a .fc) (ai [aa 4,aa 1]))) (gR (cB (ax (a .ff) (ai [aa 4,aa 5,aa 1]))))) (bj (cC (.str "unlike"))) (cR)) (bj (cC .aC))))))
def x8(a:Fn->List D->Option D):ag->Option Out:=a8 (cc 4 (ae ay (aa 0) (ae ay (aa 3) 'g'))) (a8 (cc 5 (ae ay (aa 0) (ae ay (aa 3) 'c'))) (a8 (bY (cB (ae lR (ae ay (aa 3) 'c') (aa 2))) (bj (eT (ai []))) (cR)) (a8 (bY (ez (cB (ae iu (ae ay (aa 3) 'g') (aa 2))) (gR (cB (ax (a .fc) (ai [aa 4,aa 1]))))) (bj (cf [am,am,am,Z 3] (bV (ae ay (aa 4) (cC (.int 3)))) (j9 3 (cY (gN 0) (cY (gN 1) (cY (gN 2) (j8))))) (λ_=>Z be) (aH (ai [aH (ai [aa 2,ae ay (aa 3) 'c']),aH (ai [aH (ai [aa 0,aa 1]),cC .aC])])))) (cR)) (a8 (bY (gR (cB (ax (a .fc) (ai [aa 5,aa 1])))) (bj (cf [am,am,am,Z 3] (bV (ae ay (aa 5) (cC (.int 3)))) (j9 3 (cY (gN 0) (cY (gN 1) (cY (gN 2) (j8))))) (λ_=>Z be) (aH (ai [aH (ai [ae ay (aa 3) 'g',aa 2]),aH (ai [cC .aC,aH (ai [aa 0,aa 1])])])))) (cR)) (bj (ax (a .fk) (ai [aa 4,aa 5])))))))
def BH(a:Fn->List D->Option D):ar->Option aK:=aI (rS 2 pC) (aI (gv (bV (ae ay (aa 1) (cC (.int 3)))) (kc 3 (dR (goN 3) (dR (goN 4) (dR (goN 5) (kb))))) (n4 2 (vH (aa 3)) (vH (aa 5)))) (uK (vD (cf [am,am,am,Z 2] (bV (ae ay (aa 0) (cC (.int 3)))) (j9 3 (cY (gN 0) (cY (gN 1) (cY (gN 2) (j8))))) (cB (ae iu (aa 0) (aa 3))) (aH (ai [aH (ai [aa 2,ae ir (aa 3) (aa 0)]),aH (ai [aH (ai [aa 0,aa 1]),aH (ai [aa 0,aa 1])])]))))))
def BI(a:Fn->List D->Option D):ar->Option aK:=aI (cS 3 (lH (ai []))) (aI (eE (cB (ae jY (ae lS (aa 0) (aa 1)) (cC .aC))) (aI (cg 4 (vH (ae ay (ae ay (ae lS (aa 0) (aa 1)) 'c') (aa 2)))) (aI (d9 (cB (ae jY (aa 4) (cC .aC))) (eM 3 (vH (aH (ai [ae ay (aa 4) 'g',ax (a .fa) (ai [ae ay (aa 4) 'c'])])))) (dX)) (cg 1 (vH (ae ay (ae lS (aa 0) (aa 1)) 'g'))))) 99999) (eD (xP (aa 3))))
def BJ(a:Fn->List D->Option D):ar->Option aK:=aI (rS 3 pC) (aI (cS 4 (lH (w_ (aa 2)))) (aI (eE (cB (ae mq (ax cA (ai [aa 4])) 'g')) (aI (rT 4 5) (uJ (xG (cB (ae lR (aa 5) (aa 3)))) (aI (n4 3 (vH (aa 5)) (vH (cC (.bl be)))) (d9 (gR (cB (ax (a .fc) (ai [ae ay (aa 0) (aa 5),aa 1])))) (ui 4 (lH (eC [am] (bV (ax (a .fb) (ai [ae ay (aa 0) (aa 5)]))) (gN 0) (λ_=>Z be) (ae ay (aa 0) (cC (.int 2)))))) (dX))) (dX))) 99999) (uK (vD (ax je (ai [ax mI (ai [aa 3])]))))))
def BL(a:Fn->List D->Option D):ar->Option aK:=aI (BA 1) (aI (gv (bV (aa 0)) (goN 2) (gv (bV (ae ay (aa 2) (cC (.int 3)))) (kc 3 (dR (goN 3) (dR (goN 4) (dR (goN 5) (kb))))) (uR 1 6 3 4 5))) (BB 1))
def r6(a:Fn->List D->Option D):ar->Option fZ:=nY (xD (cB (ae jY (ax (a .fh) (ai [aa 0,aa 1])) (cC .aC))) (IW "NoPart" (ai [cC (.str "the hand can't tell two ways apart, though it would have to do unlike things")])) (pw dX)) (pw (aI (cg 2 (vH (ae ay (aa 0) 'c'))) (aI (cS 3 (lH (ai [ax (a .fo) (ai [aa 2,aa 1,eT (ai [cC (.int 0)])])]))) (aI (x4 4 (vZ (ae ay (aa 3) 'g')) 0) (aI (cS 5 (lH (ai []))) (aI (eE (cB (ae jX (ax cA (ai [aa 5])) (ax cA (ai [aa 3])))) (Bq 5 [3,4] (iR (a .fr)) [vH (aa 2),vH (aa 1),vZ (ae ay (aa 3) (ax cA (ai [aa 5])))]) 16777216) (eD (ax je (ai [aa 5])))))))))
def BM(a:Fn->List D->Option D):MU:=kZ (cS 5 (lZ (eC [am,Z 0,Z 1] (bV (aa 2)) (gN 0) (cB (ax (a .fc) (ai [ae ay (aa 1) (aa 0),aa 2]))) (ae ay (aa 1) (aa 0))))) (xQ 5 (uO (cB (ae (bK 64) (ax cA (ai [aa 5])) 'g')) (xS [3,4] (vH (cC mJ))) (kZ (cg 6 (vH (ax (a .fp) (ai [aa 5])))) (kZ (cS 7 (lH (ai []))) (kZ (gv (bV (ax mI (ai [aa 6]))) (goN 8) (aI (cg 9 (vH (ax (a .fo) (ai [aa 0,aa 1,ae ay (ae ir (aa 6) (aa 8)) 'c'])))) (aI (d9 (cB (ae rW (aa 9) (aa 4))) (aI (uM 4 (vH (aa 9)) (vZ (ax cA (ai [aa 3])))) (xT 3 (vH (aa 9)))) (dX)) (eM 7 (vZ (aH (ai [aa 8,ae ay (ae ir (aa 6) (aa 8)) 'g',ae lS (aa 4) (aa 9)]))))))) (xS [3,4] (vZ (ae aQ (ax (a .fd) (ai [ae ay (aa 5) 'g',aa 1])) (aH (ai [ax je (ai [aa 7])]))))))))))
def BN(a:Fn->List D->Option D):ag->Option Out:=bj (ax o_ (ai [cf [am,Z 0] (dJ (ai [ae ay (aa 0) 'g'])) (gN 0) (λ_=>Z be) (ae nK (ax (a .fh) (ai [aa 1,aa 0])) (cC .aC))]))
def BO(a:Fn->List D->Option D):ag->Option Out:=a8 (bY (cB (ae jX (aa 1) (ax cA (ai [aa 0])))) (bj (ae ay (aa 0) (aa 1))) (cR)) (bj 'g')
def Kg(a:Fn->List D->Option D):ag->Option Out:=bj (ae fW (ae fW (ae kK (aa 0) (cC (.int 48271))) (aa 1)) (aa 2))
def BP(a:Fn->List D->Option D):ag->Option Out:=a8 (cc 2 (cC (.str "abcdefghijklmnopqrstuvwxyz"))) (a8 (cc 3 (ae ay (aa 2) (ae fW (ae aQ (ax (a .fv) (ai [aa 0,cC (.int 9923),cC (.int 26)])) (ae kK (cC (.int 9)) (aa 1))) (cC (.int 26))))) (a8 (cc 4 (wZ (cC (.str "")) (cf [am,Z 2,Z 0] (dJ (ai [ax (a .fv) (ai [aa 0,cC (.int 9887),cC (.int 3)])])) (gN 0) (λ_=>Z be) (ae ay (aa 1) (ax (a .fv) (ai [ae aQ (aa 2) (ae kK (cC (.int 3)) (aa 0)),cC (.int 9941),cC (.int 26)])))))) (a8 (cc 5 (ax (a .fv) (ai [aa 0,cC (.int 9883),ae aQ (ax cA (ai [aa 4])) 'c']))) (bj (ae aQ (ae aQ (gu (aa 4) eU (c6 (aa 5))) (aa 3)) (gu (aa 4) (c6 (aa 5)) eU))))))
def pH(a:Fn->List D->Option D):ag->Option Out:=a8 (cc 2 (ax (a .fv) (ai [aa 0,cC (.int 9973),cC (.int 8)]))) (a8 (bY (lI (cB (ae jX (aa 2) (cC (.int 2)))) (ez (cB (ae (bK 64) (aa 1) 'g')) (cB (ae mq (aa 2) (cC (.int 5)))))) (bj (aH (ai [cC (.str "none")]))) (cR)) (a8 (bY (cB (ae jX (aa 2) (cC (.int 4)))) (a8 (cc 3 (ae il (ax (a .fv) (ai [aa 0,cC (.int 9967),cC (.int 21)])) (cC (.int 10)))) (bj (aH (ai [cC (.str "number"),aa 3,ae aQ (aa 3) (ax (a .fv) (ai [aa 0,cC (.int 9949),cC (.int 12)]))])))) (cR)) (a8 (bY (cB (ae jX (aa 2) (cC (.int 6)))) (bj (aH (ai [cC (.str "name"),ax je (ai [ax AG (ai [cf [am,Z 0] (dJ (ai [ae aQ 'c' (ax (a .fv) (ai [aa 0,cC (.int 9931),cC (.int 3)]))])) (gN 0) (λ_=>Z be) (ax (a .fw) (ai [aa 1,aa 0]))])])]))) (cR)) (a8 (cc 4 (ax (a .fx) (ai [ae aQ (ae kK (aa 0) (cC (.int 3))) 'c',ae il (aa 1) 'c']))) (a8 (bY (cB (ae (bK 64) (aa 2) (cC (.int 6)))) (bj (aH (ai [cC (.str "pair"),aa 4,ax (a .fx) (ai [ae aQ (ae kK (aa 0) (cC (.int 5))) (cC (.int 2)),ae il (aa 1) 'c'])]))) (cR)) (bj (aH (ai [cC (.str "row"),aa 4,ax (a .fv) (ai [aa 0,cC (.int 9929),cC (.int 5)])]))))))))
def Kh(a:Fn->List D->Option D):ag->Option Out:=bj (aH (ai [ax (a .fw) (ai [aa 0,aa 1]),ax (a .fx) (ai [ae aQ (ae kK (aa 0) (cC (.int 11))) (aa 1),cC (.int 2)])]))
def Ki(a:Fn->List D->Option D):ag->Option Out:=bj (tU (ae (bK 64) (ae fW (aa 0) (cC (.int 4))) (cC (.int 2))) (ae mq (aa 1) (cC (.int 2))))
def Kj(a:Fn->List D->Option D):ag->Option Out:=a8 (cc 2 (ae aQ (ae il (aa 1) (cC (.int 2))) (ax pk (ai [ax (a .fA) (ai [aa 0,aa 1])])))) (bj (ae aQ (ae aQ 'c' (ae rF (ae aQ 'c' (ax (a .fv) (ai [aa 0,cC (.int 9949),cC (.int 3)]))) (aa 2))) (ax pk (ai [ae mq (ax (a .fv) (ai [aa 0,cC (.int 9931),cC (.int 3)])) 'g']))))
def BQ(a:Fn->List D->Option D):ar->Option aK:=aI (cS 5 (lH (ai []))) (aI (cS 6 (lH (ai []))) (aI (cg 7 (vH (ax cA (ai [aa 3])))) (aI (gv (jG (aa 4)) (kc 2 (dR (goN 8) (dR (goN 9) (kb)))) (aI (cg 10 (vH (ae aQ (ae aQ (aa 0) 'c') (ae rF (aa 8) (aa 7))))) (aI (eM 6 (vH (ae aQ (aa 9) (aH (ai [aa 10]))))) (aI (eM 5 (vH (aH (ai [cC (.str "say"),aa 2,ae ay (aa 3) 'c',aH (ai [ae aQ (ae ay (aa 4) 'g') (aH (ai [ae aQ (aa 10) 'c']))])])))) (gv (dJ (ai [cC (.int 1),aa 7])) (goN 11) (aI (cg 12 (vH (ae ay (eT (ai [ae aQ (ae aQ (aa 10) (aa 11)) 'c',ae ay (aa 1) (aa 8)])) (ax pk (ai [ae (bK 64) (aa 11) (ae il (aa 7) 'c')]))))) (eM 5 (vH (aH (ai [cC (.str "say"),ae ay (aa 3) 'g',ae ay (aa 3) (aa 11),aH (ai [ae aQ (aa 9) (aH (ai [aa 12]))])])))))))))) (eD (ae aQ (eT (ai [aH (ai [cC (.str "say"),aa 2,ae ay (aa 3) 'g',ax je (ai [aa 6])])])) (aa 5))))))
def BR(a:Fn->List D->Option D):ar->Option aK:=aI (cg 4 (vH (ax (a .fv) (ai [aa 0,cC (.int 9929),aa 2])))) (aI (cS 5 (lZ (eC [am,Z 2,Z 4,Z 0] (dJ (ai [ae il (aa 2) 'c'])) (gN 0) (λ_=>Z be) (ae fW (ae aQ (ae aQ (aa 2) 'c') (ae fW (ae aQ (aa 0) (ax (a .fv) (ai [aa 3,cC (.int 9901),ae il (aa 1) 'c']))) (ae il (aa 1) 'c'))) (aa 1))))) (aI (cg 6 (vH (ax kQ (ai [cf [am,Z 0] (dJ (ai [ae aQ 'c' (ax (a .fv) (ai [aa 0,cC (.int 9949),cC (.int 3)]))])) (gN 0) (λ_=>Z be) (ax (a .fy) (ai [aa 1,aa 0]))])))) (aI (d9 (cB (ax (a .fA) (ai [aa 0,aa 2]))) (eD (ax (a .fC) (ai [aa 1,aa 3,aa 4,aa 5,aa 6]))) (dX)) (aI (cS 7 (lH (ai []))) (aI (cS 8 (lH (ai []))) (aI (gv (jG (aa 6)) (kc 2 (dR (goN 9) (dR (goN 10) (kb)))) (aI (cg 11 (vH (ae aQ (cf [am,Z 1,Z 9,Z 2] (dJ (ai [ae il (aa 2) (cC (.int 2))])) (gN 0) (λ_=>Z be) (ae aQ (ae aQ (ae aQ (aa 1) 'c') (ae rF (aa 2) (ae il (aa 3) (cC (.int 2))))) (aa 0))) (eT (ai [ae ay (aa 3) (aa 9)]))))) (aI (eM 8 (vH (ae aQ (aa 10) (aH (ai [ae ay (aa 11) 'g']))))) (gv (dJ (ai [ae il (aa 2) (cC (.int 2))])) (goN 12) (eM 7 (vZ (aH (ai [cC (.str "say"),aa 4,ae ay (aa 5) (ae aQ (aa 12) 'c'),aH (ai [ae aQ (aa 10) (aH (ai [ae ay (aa 11) (ae aQ (aa 12) 'c')]))])])))))))) (eD (ae aQ (eT (ai [aH (ai [cC (.str "say"),aa 4,ae ay (aa 5) 'g',ax je (ai [aa 8])])])) (aa 7)))))))))
def x9(a:Fn->List D->Option D):ag->Option Out:=a8 (cc 4 (ax (a .fv) (ai [aa 0,cC (.int 9871),aa 2]))) (a8 (cc 5 (ae fW (ae aQ (ae aQ (aa 4) 'c') (ax (a .fv) (ai [aa 0,cC (.int 9859),ae il (aa 2) 'c']))) (aa 2))) (a8 (cc 6 (ax kQ (ai [eT (ai [ax (a .fy) (ai [ae aQ (aa 0) 'c',cC (.int 0)]),ax (a .fy) (ai [ae aQ (aa 0) 'c',cC (.int 1)])])]))) (a8 (bY (cB (ae (bK 64) (ax (a .fv) (ai [aa 0,cC (.int 9931),cC (.int 3)])) 'c')) (bj (aH (ai [cC (.str "say"),aa 4,aa 5,aH (ai [ae aQ (ae ay (aa 6) 'g') (aH (ai [aa 3]))])]))) (cR)) (bj (aH (ai [cC (.str "say"),aa 4,aa 5,aH (ai [ae aQ (ae ay (aa 6) 'g') (aH (ai [ae ay (eT (ai [aa 1,aa 3])) (ae fW (aa 0) (cC (.int 2)))])),ae aQ (ae ay (aa 6) 'c') (aH (ai [ae ay (eT (ai [aa 3,aa 1])) (ae fW (aa 0) (cC (.int 2)))]))])]))))))
def x_(a:Fn->List D->Option D):ag->Option Out:=a8 (cc 2 (ae aQ (cC (.int 2)) (ax (a .fv) (ai [ax (a .fu) (ai [aa 0,cC (.int 0)]),cC (.int 9973),cC (.int 3)])))) (bj (ax (a .fG) (ai [aa 2,cf [am,Z 0] (dJ (ai [ae aQ 'c' (ax (a .fv) (ai [ax (a .fu) (ai [aa 0,cC (.int 0)]),cC (.int 9967),aa 1]))])) (gN 0) (λ_=>Z be) (ax (a .fu) (ai [aa 1,ae aQ 'c' (aa 0)]))])))
def BS(a:Fn->List D->Option D):ar->Option aK:=aI (cS 2 (lH (ai [cC (.int 0)]))) (aI (gv (bV (aa 1)) (goN 3) (eM 2 (vZ (ae aQ (ae ay (aa 2) (my 'c')) (ax (a .fB) (ai [aa 3,aa 0])))))) (aI (cS 4 (lH (ai []))) (aI (gv (jG (aa 1)) (kc 2 (dR (goN 5) (dR (goN 3) (kb)))) (aI (cS 6 (lZ (eC [am,Z 2,Z 3] (dJ (ai [cC (.int 3)])) (gN 0) (λ_=>Z be) (ae ay (aa 1) (ax (a .fv) (ai [ae aQ (aa 2) (ae kK (cC (.int 7)) (aa 0)),cC (.int 9907),ax cA (ai [aa 1])])))))) (aI (cg 7 (vZ (ae ay (aa 6) 'g'))) (aI (d9 (cB (ae mq (ax (a .fv) (ai [aa 3,cC (.int 9931),cC (.int 3)])) 'g')) (uj 6 (vH 'g') (vZ (ae il (ae ay (aa 2) (ae aQ (aa 5) 'c')) 'c'))) (dX)) (aI (cS 4 (lZ (nR (aa 4) (ax (a .fD) (ai [aa 3,ae ay (aa 2) (aa 5),aa 0,aa 6]))))) (d9 (cB (ae mq (ax (a .fv) (ai [aa 3,cC (.int 9931),cC (.int 3)])) 'g')) (eM 4 (vZ (ax (a .fE) (ai [aa 3,ae il (ae ay (aa 2) (ae aQ (aa 5) 'c')) 'c',aa 0,aa 7])))) (dX))))))) (eD (aH (ai [aa 0,ax je (ai [ae jh (aa 4) (eT (ai [aH (ai [cC (.str "end")])]))])]))))))
def BU(a:Fn->List D->Option D):ar->Option aK:=aI (um (vH (aa 0)) (kc 2 (dR (goN 2) (dR (goN 3) (kb))))) (aI (cg 4 (vH (ax (a .fv) (ai [aa 1,cC (.int 9857),ax cA (ai [aa 3])])))) (aI (cg 5 (vH (ae ay (aa 3) (aa 4)))) (aI (d9 (cB (ae (bK 64) (aa 5) (aH (ai [cC (.str "end")])))) (aI (cg 6 (vH (ax (a .fv) (ai [aa 1,cC (.int 9851),ax cA (ai [aa 3])])))) (cg 5 (vH (aH (ai [cC (.str "say"),ae fW (aa 1) (aa 2),ae fW (ae aQ (aa 1) 'c') (aa 2),aH (ai [aH (ai [cC (.str "z"),aH (ai [cC (.str "none")]),aa 6])])]))))) (dX)) (aI (cg 7 (vH (ax (a .fv) (ai [aa 1,cC (.int 9839),cC (.int 6)])))) (aI (um (vH (ae ay (ae ay (aa 5) (cC (.int 3))) (my 'c'))) (kc 3 (dR (goN 8) (dR (goN 9) (dR (goN 6) (kb)))))) (aI (d9 (cB (ae (bK 64) (aa 7) 'g')) (aI (cg 10 (vH (ax (a .fv) (ai [aa 1,cC (.int 9833),ax cA (ai [aa 3])])))) (cg 5 (vH (ae aQ (gu (aa 5) eU (c6 (cC (.int 3)))) (aH (ai [ae jh (jF (ae ay (aa 5) (cC (.int 3))) eU (c6 (my 'c'))) (aH (ai [aH (ai [aa 8,aa 9,aa 10])]))])))))) (dX)) (aI (d9 (cB (ae (bK 64) (aa 7) 'c')) (cg 5 (vH (aH (ai [cC (.str "say"),ae ay (aa 5) (cC (.int 2)),ae ay (aa 5) 'c',ae ay (aa 5) (cC (.int 3))])))) (dX)) (aI (d9 (cB (ae (bK 64) (aa 7) (cC (.int 2)))) (cg 5 (vH (ae aQ (gu (aa 5) eU (c6 (cC (.int 3)))) (aH (ai [ae jh (jF (ae ay (aa 5) (cC (.int 3))) eU (c6 (my 'c'))) (aH (ai [aH (ai [ae aQ (gu (aa 8) eU (c6 (cC (.int 2)))) (cC (.str "z")),aa 9,aa 6])]))]))))) (dX)) (aI (d9 (cB (ae (bK 64) (aa 7) (cC (.int 3)))) (cg 5 (vH (ae aQ (gu (aa 5) eU (c6 (cC (.int 3)))) (aH (ai [jF (ae ay (aa 5) (cC (.int 3))) (c6 (my 'c')) eU]))))) (dX)) (aI (d9 (cB (ae (bK 64) (aa 7) (cC (.int 4)))) (cg 5 (vH (aH (ai [cC (.str "end")])))) (dX)) (aI (d9 (cB (ae (bK 64) (aa 7) (cC (.int 5)))) (cg 5 (vH (ae aQ (gu (aa 5) eU (c6 (cC (.int 3)))) (aH (ai [ae jh (jF (ae ay (aa 5) (cC (.int 3))) eU (c6 (my 'c'))) (aH (ai [aH (ai [aa 8,aH (ai [cC (.str "number"),cC (.int 0),ae fW (aa 1) (cC (.int 9))]),aa 6])]))]))))) (dX)) (eD (aH (ai [aa 2,ae aQ (ae jh (jF (aa 3) eU (c6 (aa 4))) (aH (ai [aa 5]))) (jF (aa 3) (c6 (ae aQ (aa 4) 'c')) eU)]))))))))))))))
def BV(a:Fn->List D->Option D):ar->Option aK:=aI (cg 1 (vH (ax kQ (ai [eT (ai [ax (a .fy) (ai [aa 0,cC (.int 0)]),ax (a .fy) (ai [aa 0,cC (.int 1)])])])))) (aI (cS 2 (lH (ai [aH (ai [cC (.str "say"),cC (.int 0),cC (.int 1),aH (ai [ae aQ (ae ay (aa 1) 'g') (aH (ai [cC (.int 1)])),ae aQ (ae ay (aa 1) 'c') (aH (ai [cC (.int 2)]))])])]))) (aI (cg 3 (vH (ae ay (eT (ai [ae ay (aa 1) 'g',ae ay (aa 1) (ae fW (ae nJ (aa 0) (cC (.int 4))) (cC (.int 2))),aH (ai [ae ay (ae ay (aa 1) 'g') 'g',aH (ai [cC (.str "number"),cC (.int 0),cC (.int 1)])])])) (ae fW (ae nJ (aa 0) (cC (.int 8))) (cC (.int 3)))))) (aI (eM 2 (vH (aH (ai [cC (.str "say"),cC (.int 2),cC (.int 0),aH (ai [ae aQ (ae ay (aa 1) 'g') (aH (ai [cC (.int 3)]))])])))) (aI (eM 2 (vH (aH (ai [cC (.str "say"),cC (.int 2),ae fW (ae nJ (aa 0) (cC (.int 2))) (cC (.int 2)),aH (ai [ae aQ (aa 3) (aH (ai [cC (.int 3)]))])])))) (aI (d9 (cB (ae (bK 64) (ae fW (ae nJ (aa 0) (cC (.int 192))) (cC (.int 4))) 'g')) (uj 2 (vH (cC (.int 2))) (vH (ae ay (eT (ai [aH (ai [cC (.str "end")]),aH (ai [cC (.str "say"),cC (.int 0),cC (.int 1),aH (ai [ae aQ (ae ay (aa 1) 'g') (aH (ai [cC (.int 2)]))])])])) (ae fW (ae nJ (aa 0) (cC (.int 64))) (cC (.int 2)))))) (dX)) (eD (aH (ai [cC (.int 3),ax je (ai [ae jh (aa 2) (eT (ai [aH (ai [cC (.str "end")])]))])]))))))))
def ZI(a:Fn->List D->Option D):ag->Option Out:=a8 (cc 3 (ae ay (ae ay (aa 0) 'c') (aa 2))) (a8 (bY (lI (cB (ae (bK 64) (ae ay (aa 3) 'g') (cC (.str "end")))) (cB (ae xY (aa 1) (gu (aa 3) (c6 'c') (c6 (cC (.int 3))))))) (bj (cC .aC)) (cR)) (a8 (bY (cB (ae (bK 64) (ae ay (aa 3) 'c') (aa 1))) (bj (aH (ai [cC (.str "says"),ae ay (aa 3) (cC (.int 2))]))) (cR)) (bj (aH (ai [cC (.str "hears"),ae ay (aa 3) 'c'])))))
def BW(a:Fn->List D->Option D):ar->Option aK:=aI (cS 3 (lH (ai []))) (aI (cS 4 (lH (w_ (aa 2)))) (aI (eE (lN (aa 4)) (aI (rT 4 5) (d9 (cB (ae uN (aa 5) (aa 3))) (aI (eM 3 (vH (aa 5))) (d9 (ez (cB (ae (bK 64) (ae ay (ae ay (ae ay (aa 0) 'c') (aa 5)) 'g') (cC (.str "say")))) (cB (ae nK (ax (a .fJ) (ai [aa 0,aa 1,aa 5])) (cC .aC)))) (cS 4 (lZ (nR (aa 4) (cf [am] (bV (ae ay (ae ay (ae ay (aa 0) 'c') (aa 5)) (cC (.int 3)))) (gN 0) (λ_=>Z be) (ae ay (aa 0) (cC (.int 2))))))) (dX))) (dX))) 99999) (eD (ax je (ai [ax Bw (ai [aa 3])])))))
def BX(a:Fn->List D->Option D):ar->Option aK:=aI (cS 2 (lH (eC [am,Z 0,Z 1] (dJ (ai [ax cA (ai [ae ay (aa 0) 'c'])])) (gN 0) (cB (ae jY (ax (a .fJ) (ai [aa 1,aa 2,aa 0])) (cC .aC))) (aa 0)))) (aI (cg 3 (vH (my 'c'))) (aI (eE (cB (ae jX (aa 3) (ax cA (ai [aa 2])))) (aI (cg 3 (vZ (ax cA (ai [aa 2])))) (gv (jG (ae ay (aa 0) 'c')) (kc 2 (dR (goN 4) (dR (goN 5) (kb)))) (d9 (ez (cB (ae (bK 64) (ae ay (aa 5) 'g') (cC (.str "say")))) (ez (cB (ae uN (aa 4) (aa 2))) (lN (cf [am,Z 2] (bV (ae ay (aa 5) (cC (.int 3)))) (gN 0) (cB (ae tV (ae ay (aa 0) (cC (.int 2))) (aa 1))) (aa 0))))) (eM 2 (vH (aa 4))) (dX)))) 99) (eD (aa 2))))
def ZJ(a:Fn->List D->Option D):ag->Option Out:=a8 (cc 4 (ae ay (ae ay (ae ay (aa 0) 'c') (aa 2)) (cC (.int 3)))) (a8 (cc 5 (ae ay (ae ay (ae ay (aa 0) 'c') (aa 3)) (cC (.int 3)))) (a8 (bY (cB (ae (eB 64) (ax (a .fJ) (ai [aa 0,aa 1,aa 2])) (ax (a .fJ) (ai [aa 0,aa 1,aa 3])))) (bj (cC (.bl be))) (cR)) (a8 (bY (ez (cB (ae (bK 64) (ae ay (ax (a .fJ) (ai [aa 0,aa 1,aa 2])) 'g') (cC (.str "says")))) (cB (ae (uP 64) (cf [am] (bV (aa 4)) (gN 0) (λ_=>Z be) (gu (aa 0) eU (c6 (cC (.int 2))))) (cf [am] (bV (aa 5)) (gN 0) (λ_=>Z be) (gu (aa 0) eU (c6 (cC (.int 2)))))))) (bj (cC (.bl be))) (cR)) (a8 (hY (bV (aa 4)) (j9 3 (cY (gN 6) (cY (gN 7) (cY (gN 8) (j8))))) (bY (lN (cf [am,Z 6,Z 7] (bV (aa 5)) (gN 0) (ez (cB (ae (bK 64) (ae ay (aa 0) 'g') (aa 1))) (cB (ae (eB 64) (ae ay (aa 0) 'c') (aa 2)))) (aa 0))) (bj (cC (.bl be))) (cR))) (bj (cC (.bl bi)))))))
def ZK(a:Fn->List D->Option D):ag->Option Out:=a8 (hY (bV (aa 3)) (gN 5) (hY (bV (aa 3)) (gN 6) (bY (cB (ax (a .fM) (ai [aa 0,aa 1,aa 5,aa 6]))) (bj (cC (.bl bi))) (cR)))) (bj (wG (uz (aa 3)) (uz (cf [am,Z 4] (bV (aa 2)) (gN 0) (cB (ae uN (aa 0) (aa 1))) (aa 0)))))
def BY(a:Fn->List D->Option D):MU:=kZ (cS 5 (lH (ai []))) (kZ (gv (bV (aa 3)) (goN 6) (ui 5 (lH (w_ (ae ay (ae ay (ae ay (aa 0) 'c') (aa 6)) (cC (.int 3))))))) (xQ 5 (kZ (cS 7 (lH (ai []))) (kZ (gv (bV (A7 (cf [am] (bV (aa 5)) (gN 0) (λ_=>Z be) (ae ay (aa 0) 'g')))) (goN 8) (aI (cS 9 (lZ (eC [am,Z 8] (bV (aa 5)) (gN 0) (cB (ae (bK 64) (ae ay (aa 0) 'g') (aa 1))) (aa 0)))) (xj 9 (aI (cg 10 (vH (ax (a .fK) (ai [aa 0,aa 1,cf [am] (bV (aa 9)) (gN 0) (λ_=>Z be) (ae ay (aa 0) (cC (.int 2)))])))) (aI (d9 (cB (ae Bs (aa 10) (aa 4))) (xT 4 (vH (aa 10))) (dX)) (eM 7 (vZ (aH (ai [aa 8,ae ay (ae ay (aa 9) 'g') 'c',xV (aa 4) (aa 10)]))))))))) (xS [4] (vZ (ae aQ (ax (a .fJ) (ai [aa 0,aa 1,ae ay (aa 3) 'g'])) (aH (ai [ax je (ai [aa 7])])))))))))
def BZ(a:Fn->List D->Option D):ar->Option aK:=aI (cg 2 (vH (ax (a .fL) (ai [aa 0,aa 1])))) (aI (cS 3 (lH (ai [ax (a .fK) (ai [aa 0,aa 1,eT (ai [cC (.int 0)])])]))) (aI (cS 4 (lH (ai []))) (aI (eE (cB (ae jX (ax cA (ai [aa 4])) (ax cA (ai [aa 3])))) (aI (cg 5 (vZ (ae ay (aa 3) (ax cA (ai [aa 4]))))) (aI (cS 6 (lZ (eC [am,Z 0,Z 1] (bV (aa 5)) (gN 0) (cB (ae jY (ax (a .fJ) (ai [aa 1,aa 2,aa 0])) (cC .aC))) (aa 0)))) (xj 6 (aI (d9 (gR (cB (ax (a .fN) (ai [aa 0,aa 1,aa 5,aa 6,aa 2])))) (eD (cC .aC)) (dX)) (d9 (lN (aa 6)) (Bq 4 [3] (iR (a .fO)) [vH (aa 0),vH (aa 1),vH (aa 5),vH (aa 6)]) (eM 4 (vH (aH (ai [cC (.str "end")]))))))))) 16777216) (eD (ax je (ai [aa 4]))))))
def B0(a:Fn->List D->Option D):ag->Option Out:=a8 (cc 2 (cC (.str "none"))) (a8 (uE 3 ["NoPart"] (A_ 2 (pq (λds=>(a .fq ds).bind nZ) (ai [aa 0,aa 1]))) (λ_=>Kc)) (bj (aa 2)))
def ZL(a:Fn->List D->Option D):ag->Option Out:=a8 (cc 1 (ax (a .fF) (ai [aa 0,cC (.int 3)]))) (a8 (cc 2 (cf [am,Z 1] (bV (gu (aa 0) (c6 (cC (.int 4))) (c6 (cC (.int 7))))) (gN 0) (λ_=>Z be) (ax (a .fH) (ai [aa 1,aa 0])))) (a8 (cc 2 (ae aQ (ae aQ (aa 2) (cf [am] (bV (gu (aa 0) (c6 (cC (.int 8))) (c6 (cC (.int 12))))) (gN 0) (λ_=>Z be) (ax (a .fI) (ai [aa 0])))) (eT (ai [ax (a .fI) (ai [ax (a .fu) (ai [aa 0,cC (.int 7)])]),ax (a .fI) (ai [cC (.int 204)])])))) (a8 (hY (jG (ae aQ (eT (ai [aa 1])) (aa 2))) (j9 2 (cY (gN 3) (cY (gN 4) (j8)))) (a8 (cc 5 (cC (.bl be))) (a8 (hY (dJ (ai [ae ay (aa 4) 'g'])) (gN 6) (a8 (cc 7 (ax (a .fP) (ai [aa 4,aa 6]))) (a8 (cc 5 (tU (aa 5) (ae jY (aa 7) (cC .aC)))) (bY (cB (ae (eB 64) (ax (a .fQ) (ai [aa 4,aa 6])) (aa 7))) (bj (cC (.bl bi))) (cR))))) (a8 (cc 8 (ax (a .ft) (ai [aa 4]))) (bY (lI (gR (cB (wU .bool (aa 8)))) (lI (cB (ae (eB 64) (aa 8) (aa 5))) (ez (cB (ae (bK 64) (aa 3) 'g')) (gR (cB (aa 5)))))) (bj (cC (.bl bi))) (cR)))))) (bj (cC (.bl be))))))
def body(a:Fn->List D->Option D):Fn->List D->Option D|.fa=>c8 1 2 (BC a)|.fb=>c8 1 1 (BD a)|.fc=>c8 2 2 (Ke a)|.fd=>c8 2 2 (Kf a)|.fe=>fY 1 5 (BE a)|.ff=>c8 3 5 (x5 a)|.fg=>fY 2 8 (BF a)|.fh=>fY 2 11 (BG a)|.fi=>c8 4 6 (x6 a)|.fj=>c8 4 6 (x8 a)|.fk=>fY 2 6 (BH a)|.fm=>fY 3 5 (BI a)|.fo=>fY 3 6 (BJ a)|.fp=>fY 1 7 (BL a)|.fq=>λds=>(kU 2 6 (r6 a) ds).map rN|.fr=>encM (runM 10 (BM a) 3 2)|.ft=>c8 1 1 (BN a)|.fu=>c8 2 2 (BO a)|.fv=>c8 3 3 (Kg a)|.fw=>c8 2 6 (BP a)|.fx=>c8 2 5 (pH a)|.fy=>c8 2 2 (Kh a)|.fA=>c8 2 2 (Ki a)|.fB=>c8 2 3 (Kj a)|.fC=>fY 5 13 (BQ a)|.fD=>fY 4 13 (BR a)|.fE=>c8 4 7 (x9 a)|.fF=>c8 2 3 (x_ a)|.fG=>fY 2 8 (BS a)|.fH=>fY 2 11 (BU a)|.fI=>fY 1 4 (BV a)|.fJ=>c8 3 4 (ZI a)|.fK=>fY 3 6 (BW a)|.fL=>fY 2 6 (BX a)|.fM=>c8 4 9 (ZJ a)|.fN=>c8 5 7 (ZK a)|.fO=>encM (runM 11 (BY a) 4 1)|.fP=>fY 2 7 (BZ a)|.fQ=>c8 2 4 (B0 a)|.fR=>c8 1 9 (ZL a)
def Tab:Nat->Fn->List D->Option D|0=>λ_ _=>am|k+1=>body (Tab k)
end PT
namespace PM
section
theorem ya:∀(n:Nat){l:List Int},l.Nodup->(∀x∈l,0<=x/\x<n)->l.length<=n
 |0,[],_,_=>ba _|0,x::l,_,h=>by have:=h x bE;lia|n+1,l,hn,h=>by
  have d:=ya n (l:=l.erase (n:Int)) (hn.erase _) λx b=>by have c:=(hn.mem_erase_iff).mp b;have:=h x c.2;lia
  have:=List.length_erase (a:=(n:Int)) (l:=l);split at this<;>lia
end
end PM
namespace PM
open PySem L2 DL PT
theorem tab{k:Nat}:Tab (k+1) f ds=body (Tab k) f ds:=rfl
theorem cD{n:Nat}(h:c+1<=n):∃m,n=m+1/\c<=m:=⟨n-1,by lia,by lia⟩
theorem cT{b:Type}{a:b}{l:List b}:bN (a::l) 0=Z a:=by simp[bN,iK]
theorem c_{c:Type}{a b:c}{l:List c}:bN (a::b::l) 1=Z b:=by simp[bN,iK];rw[if_pos (by grind)];rfl
theorem at2{d:Type}{a b c:d}{l:List d}:bN (a::b::c::l) 2=Z c:=by simp[bN,iK];rw[if_pos 'd'];rfl
theorem r8{a:Type}{xs:List a}(h:i<xs.length):bN xs (i:Int)=Z xs[i]:=wo (cy h)
theorem ZM:RF (.int i) (.int j)=Z (.bl (decide (i<=j))):=rfl
theorem Kk:jX (.int i) (.int j)=Z (.bl (decide (i<j))):=rfl
theorem Kl:mq (.int i) (.int j)=Z (.bl (decide (j<i))):=rfl
theorem ZN:RG (.int i) (.int j)=Z (.bl (decide (j<=i))):=rfl
theorem ZO:aQ (.int i) (.int j)=Z (.int (i+j)):=rfl
theorem ZP:il (.int i) (.int j)=Z (.int (i-j)):=rfl
theorem n5(h:lC i j):kK (.int i) (.int j)=Z (.int (i*j)):=by show(if lC i j then Z (D.int (i*j))else am)=_;rw[if_pos h]
theorem ia(h:0<j):fW (.int i) (.int j)=Z (.int (i%j)):=by show(if 0<j then Z (D.int (i%j))else am)=_;rw[if_pos h]
theorem ZQ(h:q0 i j):nJ (.int i) (.int j)=Z (.int (i / j)):=by show(if q0 i j then Z (D.int (i / j))else am)=_;rw[if_pos h]
theorem ZR:ay (.tup xs) (.int i)=bN xs i:=rfl
theorem ZS:ay (.lst xs) (.int i)=bN xs i:=rfl
theorem ZT:ay (.bJ ns) (.int i)=(bN ns i).map .int:=rfl
theorem Km{x:Str}:ay (.str x) (.int i)=(bN x.cps.toList i).map λc=>.str ⟨#[c]⟩:=rfl
theorem ZU{xs:List D}:cA [.tup xs]=Z (.int xs.length):=rfl
theorem Kn{xs:List D}:cA [.lst xs]=Z (.int xs.length):=rfl
theorem ZV{xs:List Int}:cA [.bJ xs]=Z (.int xs.length):=rfl
theorem ZW{x:Str}:cA [.str x]=Z (.int x.length):=rfl
theorem B1:nK d .aC=Z (.bl (kN d .aC)):=rfl
theorem r9:(2:Int)^62=4611686018427387904:=by simp
theorem yb{j:Int}(a: -1000000<=j)(h:j<=1000000):AM (Z [.int j])=Z (cq 0 j.toNat):=by show(if-(2^62)<=j/\j<2^62 then Z (cq 0 j.toNat)else am)=_;rw[if_pos ⟨by rw[r9];lia,by rw[r9];lia⟩]
theorem ZX(a: -1000000<=i)(h:i<=1000000)(b: -1000000<=j)(c:j<=1000000):AM (Z [.int i,.int j])=Z (cq i (j-i).toNat):=by show(if-(2^62)<=i/\i<2^62/\ -(2^62)<=j/\j<2^62 then Z (cq i (j-i).toNat)else am)=_;rw[if_pos ⟨by rw[r9];lia,by rw[r9];lia,by rw[r9];lia,by rw[r9];lia⟩]
theorem small{n:Nat}(h:n<=1000):n<aD:=FE h
theorem gz{ds:List D}(b:fi a=Z ds)(c:ds.length<aD)(d:bT e f g (nL cap a) ds=Z out):cf cap fi e f g a=Z (.lst out):=by unfold cf;rw[b,bx,if_pos c,d];rfl
theorem eq_str:bK 64 (.str a) (.str b)=Z (.bl (a==b)):=rfl
theorem eq_int:bK 64 (.int a) (.int b)=Z (.bl (a==b)):=rfl
end PM
set_option bootstrap.genMatcherCode true in
set_option hygiene false in
local macro_rules
 | `(tactic| simp! $[only%$o]? [$xs,*] $[$l]?) => `(tactic| simp $[only%$o]? [PT.body, DL.c8, DL.kJ, DL.a8, DL.bY, DL.bj, DL.cc, DL.cR, DL.aa, DL.cC, DL.ae, DL.Ha, DL.rz, DL.dJ, DL.aH, DL.eT, DL.ax, DL.cB, DL.ez, DL.lI, DL.gR, DL.tU, DL.wG, DL.Ry, DL.Rz, DL.RA, DL.wU, DL.ub, DL.my, DL.gu, DL.c6, DL.eU, PM.ZM, PM.Kk, PM.Kl, PM.ZN, PM.ZO, PM.ZP, PM.ZR, PM.ZS, PM.ZT, PM.Km, PM.ZU, PM.Kn, PM.ZV, PM.ZW, PM.B1, PM.cT, PM.c_, PM.at2, $xs,*] $[$l]?)
 | `(tactic| dsimp! [$xs,*]) => `(tactic| first | rfl | simp! [$xs,*])
namespace PM
open PySem L2 DL PT
noncomputable def inR(lo a:Int):D->Bool|.int i=>decide (lo<=i)&&decide (i<=a)|_=>bi
theorem B2:∀{ds:List D}(o:Option D),(∀d∈ds,a (Z d::tl)=Z (h d))->bT (gN 0) (λ_=>Z be) a (o::tl) ds=Z (ds.map h)|[],_,_=>rfl|d::ds,o,hf=>by have b:=B2 (ds:=ds) (Z d) λx c=>hf x (cx _ c);simp only[bT,gN,qI,bx,if_true,hf d bE,b,zi,br]
theorem Ko{a:Type}(p:a->Bool):∀xs:List a,ro (xs.map λx=>D.bl (p x))=Z (xs.map p)|[]=>rfl|x::xs=>by simp[ro,GS,Ko p xs]
theorem all_map{a:Type}(p:a->Bool)(xs:List a):o_ [.lst (xs.map λx=>D.bl (p x))]=Z (.bl (xs.all p)):=by simp[o_,k1,Ko]
noncomputable def n6(c:Nat):Bool:=decide (97<=c)&&decide (c<=122)
def iw:D->Bool|.str x=>decide (1<=x.length)&&decide (x.length<=3)&&x.cps.toList.all n6|_=>bi
def dY:List Str->Bool|x::y::r=>bC x y&&dY (y::r)|_=>be
def pI:D->Bool|.tup xs=>decide (1<=xs.length)&&decide (xs.length<=6)&&xs.all iw&&(match strsOf xs with|some a=>dY a|none=>bi)|_=>bi
inductive Kd where|none|num (lo hi:Int)|name (ns:List Str)|pair (a b:Kd)|row (a:Kd) (m:Int)
noncomputable def Kd.toD:Kd->D|.none=>.tup [.str "none"]|.num lo c=>.tup [.str "number",.int lo,.int c]|.name ns=>.tup [.str "name",.tup (ns.map .str)]|.pair a b=>.tup [.str "pair",a.toD,b.toD]|.row a m=>.tup [.str "row",a.toD,.int m]
noncomputable def Kd.dp:Kd->Nat|.pair a b=>max a.dp b.dp+1|.row a _=>a.dp+1|_=>0
def Kd.WF:Kd->Prop|.none=>True|.num lo c=>lo<=c/\ -1000000<=lo/\c<=1000000|.name ns=>pI (.tup (ns.map .str))=be|.pair a b=>a.WF/\b.WF|.row a m=>0<=m/\m<=9/\a.WF
noncomputable def Kd.Ne:Kd->Prop|.none=>True|.num lo c=>lo<=c|.name ns=>ns≠[]|.pair a b=>a.Ne/\b.Ne|.row a m=>0<=m/\m<=9/\a.Ne
mutual
noncomputable def fits:Kd->D->Bool|.none,d=>kN d .aC|.num lo c,d=>inR lo c d|.name ns,.str x=>ns.any λy=>y==x|.name _,_=>bi|.pair a b,.tup [x,y]=>fits a x&&fits b y|.pair _ _,_=>bi|.row a m,.tup xs=>decide ((xs.length:Int)<=m)&&Kp a xs|.row _ _,_=>bi
noncomputable def Kp:Kd->List D->Bool|_,[]=>be|a,x::xs=>fits a x&&Kp a xs
end
theorem h_an:(("name":Str)=="none")=bi:=by exact W
theorem h_au:(("name":Str)=="number")=bi:=by exact W
theorem h_aa:(("name":Str)=="name")=be:=by exact W
theorem h_pn:(("pair":Str)=="none")=bi:=by exact W
theorem h_pu:(("pair":Str)=="number")=bi:=by exact W
theorem h_pa:(("pair":Str)=="name")=bi:=by exact W
theorem h_pp:(("pair":Str)=="pair")=be:=by exact W
noncomputable def Kd.first:Kd->D|.none=>.aC|.num lo _=>.int lo|.name ns=>.str (ns.headD "")|.pair a b=>.tup [a.first,b.first]|.row _ _=>.tup []
theorem ZY(h:(Kd.name ns).WF):∃x r,ns=x::r:=by cases ns with|nil=>simp[Kd.WF,pI]at h|cons x r=>simp
theorem yc:∀{K:Kd},K.WF->K.Ne|.none,_=>trivial|.num _ _,h=>h.1|.name ns,h=>by obtain⟨x,r,rfl⟩:=ZY h;exact zj _ _|.pair a b,h=>⟨yc h.1,yc h.2⟩|.row a m,h=>⟨h.1,h.2.1,yc h.2.2⟩
theorem ZZ:∀(K:Kd){n:Nat},K.Ne->K.dp+1<=n->Tab n .fa [K.toD]=Z K.first:=by intro K;induction K with|none=>intro n hw hn;obtain⟨k,rfl,e⟩:=cD (c:=0) (by simpa [Kd.dp]using hn);rfl|num lo h=>intro n hw hn;obtain⟨k,rfl,e⟩:=cD (c:=0) (by simpa [Kd.dp]using hn);rfl|name ns=>intro n hw hn;obtain⟨x,r,rfl⟩:=Ej hw;obtain⟨k,rfl,e⟩:=cD (c:=0) (by simpa [Kd.dp]using hn);rw[tab];dsimp! [BC,Kd.toD,eq_str,h_an,h_au,h_aa,Kd.first]|pair a b d f=>
  intro n hw hn;have g:max a.dp b.dp+2<=n:=by simp only[Kd.dp]at hn;omega
  obtain⟨k,rfl,e⟩:=cD (c:=max a.dp b.dp+1) (by omega);rw[tab];dsimp! [BC,Kd.toD,eq_str,h_pn,h_pu,h_pa,h_pp,Kd.first,d (n:=k) hw.1 (by omega),f (n:=k) hw.2 (by omega)]|row a m d=>intro n hw hn;obtain⟨k,rfl,e⟩:=cD (n:=n) (c:=a.dp) (by simp only[Kd.dp]at hn;lia);rfl
noncomputable def mix(c p m:Int):Int:=c*48271%p%m
theorem gA(a:0<m):0<=mix c p m:=qJ _ (by grind)
theorem gB(a:0<m):mix c p m<m:=qK _ a
theorem uS(h: -1000000<=j)(a:j<=1000000):lC i j:=.inr ⟨by lia,by lia⟩
theorem B3(h: -1000000<=i)(a:i<=1000000):lC i j:=.inl ⟨by grind,by grind⟩
theorem eN{n:Nat}(hn:1<=n)(a:0<p)(b:0<m):Tab n .fv [.int c,.int p,.int m]=Z (.int (mix c p m)):=by obtain⟨k,rfl,_⟩:=cD hn;rw[tab];dsimp! [Kg,n5 (uS (i:=c) (j:=48271) 'k' 'a'),ia a,ia b,mix]
theorem B4{n:Nat}(hn:1<=n)(a:0<=i):∃c,Tab n .fu [.bJ ns,.int i]=Z (.int c):=by
 obtain⟨k,rfl,_⟩:=cD hn;rw[tab];by_cases h:i<(ns.length:Int)
 ·have b:bN ns i=Z ns[i.toNat]:=by have:=r8 (xs:=ns) (i:=i.toNat) (by omega);rwa [ni a]at this
  exact⟨ns[i.toNat],by dsimp! [BO,h,b]⟩
 ·exact⟨0,by dsimp! [BO,h]⟩
noncomputable def r_:Str:="abcdefghijklmnopqrstuvwxyz"
theorem Z0:r_.cps.toList=(eG 26).map (97+ ·):=by exact W
theorem Kq{i:Int}(a:0<=i)(h:i<26):bN r_.cps.toList i=Z (97+i.toNat):=by grind[r8,Z0,ni,Zvp,List.getElem_range]
def c3(c:Int):List Nat:=(eG (mix c 9887 3).toNat).map λ(k:Nat)=>97+(mix (c+3*(k:Int)) 9941 26).toNat
def atC(c:Int):Int:=mix c 9883 ((c3 c).length+1)
def n7(c j:Int):Nat:=97+((mix c 9923 26+9*j)%26).toNat
def k6(c j:Int):List Nat:=(c3 c).take (atC c).toNat++n7 c j::(c3 c).drop (atC c).toNat
def dM(c j:Int):Str:=⟨(k6 c j).toArray⟩
theorem Kr(c:Int):(c3 c).length<=2:=by have a:=gA (c:=c) (p:=9887) (m:=3) 'a';have b:=gB (c:=c) (p:=9887) (m:=3) 'a';simp[c3];lia
theorem Kt(c:Int):0<=atC c/\(atC c).toNat<=(c3 c).length:=by have a:=gA (c:=c) (p:=9883) (m:=(c3 c).length+1) 'k';have b:=gB (c:=c) (p:=9883) (m:=(c3 c).length+1) (by grind);unfold atC;lia
theorem Ku{i:Int}(a:0<=i)(h:i<26):n6 (97+i.toNat)=be:=by simp[n6];lia
theorem Kv(c:Int):∀x∈c3 c,n6 x=be:=by intro x a;obtain⟨k,_,rfl⟩:=aL.mp a;simp[Ku,gA,gB]
theorem Z1(c j:Int):n6 (n7 c j)=be:=Ku (qJ _ 'a') (qK _ 'a')
theorem Z2(c j:Int):(k6 c j).length=(c3 c).length+1:=by grind[Kt,k6]
theorem Z3(c j:Int):(k6 c j).all n6=be:=by
 rw[g7];intro x a;unfold k6 at a;rcases bQ.mp a with h|h;·exact Kv c x (Zvq h)
 ·rcases a7.mp h with rfl|h;·exact Z1 c j
  grind[Kv,Zvr]
theorem Kw(c j:Int):iw (.str (dM c j))=be:=by
 have a:=Z2 c j;have b:=Kr c;have d:=Z3 c j;have e:(dM c j).length=(k6 c j).length:=by show(k6 c j).toArray.size=_;exact W
 simp_all[iw,dM,k6]
theorem B5(a:0<=i/\i<3)(b:0<=j/\j<3)(h:dM c i=dM c j):i=j:=by
 have d:k6 c i=k6 c j:=by have:=congrArg (λs:Str=>s.cps.toList) h;simpa [dM]using this
 grind[k6,Zvs,n7,oO]
theorem yd(x y:Str):(x++y).cps.toList=x.cps.toList++y.cps.toList:=by show(x.cps++y.cps).toList=_;simp
theorem Z4:("":Str).cps.toList=[]:=by exact W
theorem Kx:∀(cs:List Nat),(vF "" (cs.map λc=>(⟨#[c]⟩:Str))).cps.toList=cs|[]=>rfl|[c]=>rfl|c::d::r=>by have a:=Kx (d::r);show((⟨#[c]⟩:Str)++""++vF "" ((d::r).map λc=>(⟨#[c]⟩:Str))).cps.toList=_;rw[yd,yd,a,Z4];rfl
theorem Z5(x:Str)(l:List Nat)(h:x.cps.toList=l):x=⟨l.toArray⟩:=wW (by simpa using h)
theorem Z6(cs:List Nat):strsOf (cs.map λc=>D.str ⟨#[c]⟩)=Z (cs.map λc=>(⟨#[c]⟩:Str)):=by induction cs with|nil=>rfl|cons c r a=>simp[strsOf,strOf,a]
theorem Ky:∀(cs:List Nat),((cs.map λc=>(⟨#[c]⟩:Str)).map (·.length)).sum=cs.length|[]=>rfl|c::r=>by rw[br,br,List.sum_cons,Ky r,bh];show 1+r.length=_;exact zk ..
theorem Z7{cs:List Nat}(h:cs.length<=1000):AH (.str "") (.lst (cs.map λc=>D.str ⟨#[c]⟩))=Z (.str ⟨cs.toArray⟩):=by
 show(strsOf (cs.map λc=>D.str ⟨#[c]⟩)).bind (λbs=>if(bs.map (·.length)).sum+bs.length*("":Str).length<=1000000 then Z (D.str (vF "" bs))else am)=_;rw[Z6,bx,Ky,if_pos];·rw[Z5 _ cs (Kx cs)]
 ·have:("":Str).length=0:=by exact W
  grind
theorem B6{x y:Str}(h:x.length+y.length<=1000):aQ (.str x) (.str y)=Z (.str (x++y)):=by show(if x.length+y.length<=aD then Z (D.str (x++y))else am)=_;rw[if_pos (du (small h))]
theorem Z8{l:List Nat}{i:Int}(h:0<=i)(a:i.toNat<=l.length):bU l am (Z i)=l.take i.toNat:=by
 unfold bU;have e:HT.a5 l.length l.length (Z i)=i.toNat:=by show(if i<0 then(i+(l.length:Int)).toNat else min i.toNat l.length)=_;rw[if_neg 'd'];lia
 rw[e];simp[HT.a5]
theorem Z9{l:List Nat}{i:Int}(h:0<=i)(a:i.toNat<=l.length):bU l (Z i) am=l.drop i.toNat:=by
 unfold bU;have e:HT.a5 l.length 0 (Z i)=i.toNat:=by show(if i<0 then(i+(l.length:Int)).toNat else min i.toNat l.length)=_;rw[if_neg (by grind)];grind
 rw[e];simp[HT.a5];simp[zl]
theorem Kz{n:Nat}(hn:2<=n)(c j:Int)(N:0<=j/\j<=1000000):Tab n .fw [.int c,.int j]=Z (.str (dM c j)):=by
 obtain⟨k,rfl,f⟩:=cD hn;rw[tab];have z:(D.str "abcdefghijklmnopqrstuvwxyz")=.str r_:=rfl;have A:=eN (n:=k) f (c:=c) (p:=9923) (m:=26) 'a' 'a';have B:=eN (n:=k) f (c:=c) (p:=9887) (m:=3) 'a' 'a';have g:ay (.str r_) (.int ((mix c 9923 26+9*j)%26))=Z (.str ⟨#[n7 c j]⟩):=by rw[Km,Kq (qJ _ 'a') (qK _ 'a')];rfl
 have C:∀u o2 v,cf [am,Z 2,Z 0] (dJ (ai [ax (Tab k .fv) (ai [aa 0,cC (.int 9887),cC (.int 3)])])) (gN 0) (λ_=>Z be) (ae ay (aa 1) (ax (Tab k .fv) (ai [ae aQ (aa 2) (ae kK (cC (.int 3)) (aa 0)),cC (.int 9941),cC (.int 26)]))) [Z (.int c),Z (.int j),Z (.str r_),u,o2,v] =Z (.lst ((c3 c).map λx=>.str ⟨#[x]⟩)):=by
  intro u o2 v;have E:=gA (c:=c) (p:=9887) (m:=3) 'a';have G:=gB (c:=c) (p:=9887) (m:=3) 'a';refine gz (ds:=cq 0 (mix c 9887 3).toNat) ?_ ?_ ?_;·simp! only[qL,bx,B];exact yb 'd' 'd'
  ·simp only[cq,aE,oH];exact small 'd'
  ·have e:(c3 c).map (λx=>D.str ⟨#[x]⟩)=(cq 0 (mix c 9887 3).toNat).map (λd=>match d with|.int i=>.str ⟨#[97+(mix (c+3*i) 9941 26).toNat]⟩|_=>.aC):=by unfold cq c3;rw[ej,ej];apply qF;intro i H;simp
   rw[e];refine B2 am λd w=>?_;unfold cq at w;obtain⟨i,H,rfl⟩:=aL.mp w;have I:=eN (n:=k) f (c:=c+3*(0+(i:Int))) (p:=9941) (m:=26) 'a' 'a';show ae ay (aa 1) (ax (Tab k .fv) (ai [ae aQ (aa 2) (ae kK (cC (.int 3)) (aa 0)),cC (.int 9941),cC (.int 26)])) [Z (.int (0+(i:Int))),Z (.str r_),Z (.int c)]=_;simp! only[qL,qG,bx,n5 (B3 (i:=3) (j:=0+(i:Int)) 'k' 'a'),I,Kq (gA (c:=c+3*(0+(i:Int))) (p:=9941) (m:=26) 'a') (gB 'a'),zi]
 have h:=Kr c;have a:=Kt c;have y:=eN (n:=k) f (c:=c) (p:=9883) (m:=(((c3 c).length:Nat):Int)+1) 'a' 'd';have q:=Z7 (cs:=c3 c) (fo h);have hlen:((⟨(c3 c).toArray⟩:Str).length)=(c3 c).length:=by show(c3 c).toArray.size=_;exact W
 have r:pa (.str ⟨(c3 c).toArray⟩) am (Z (atC c))=Z (.str ⟨((c3 c).take (atC c).toNat).toArray⟩):=by show Z (D.str ⟨(bU (c3 c) am (Z (atC c))).toArray⟩)=_;rw[Z8 a.1 a.2]
 have t:pa (.str ⟨(c3 c).toArray⟩) (Z (atC c)) am=Z (.str ⟨((c3 c).drop (atC c).toNat).toArray⟩):=by show Z (D.str ⟨(bU (c3 c) (Z (atC c)) am).toArray⟩)=_;rw[Z9 a.1 a.2]
 have l1:((⟨((c3 c).take (atC c).toNat).toArray⟩:Str).length)<=2:=by show((c3 c).take (atC c).toNat).toArray.size<=2;simp;lia
 have l2:((⟨((c3 c).drop (atC c).toNat).toArray⟩:Str).length)<=2:=by show((c3 c).drop (atC c).toNat).toArray.size<=2;simp;lia
 have O:((⟨#[n7 c j]⟩:Str).length)=1:=rfl;have J:aQ (.str ⟨((c3 c).take (atC c).toNat).toArray⟩) (.str ⟨#[n7 c j]⟩)=Z (.str (⟨((c3 c).take (atC c).toNat).toArray⟩++⟨#[n7 c j]⟩)):=B6 'd';have L:aQ (.str (⟨((c3 c).take (atC c).toNat).toArray⟩++⟨#[n7 c j]⟩)) (.str ⟨((c3 c).drop (atC c).toNat).toArray⟩)=Z (.str (dM c j)):=by rw[B6 (by rw[F8];lia)];congr 2;apply wW;rw[yd,yd];exact ju ..
 have b:mix c 9883 (((c3 c).length:Nat)+1)=atC c:=rfl;rw[b]at y;have M:BP (Tab k) [Z (.int c),Z (.int j),am,am,am,am]=Z (.ret (.str (dM c j))):=by unfold BP;simp only[z];dsimp! [A,n5 (B3 (i:=9) (j:=j) 'k' 'a'),ia (show(0:Int)<26 by decide),g,C,wZ,wY,q,hlen,y,r,t,J,L]
 simp[body,c8,kJ,M]
theorem KA:∀{l:List Str},nO l->l.Nodup->dY l=be
 |[],_,_=>rfl|[x],_,_=>rfl|x::y::r,h,hn=>by
  have c:=g_.mp h;have n1:=gf.mp hn;have a:bC y x=bi:=c.1 y bE;have b:x≠y:=λz=>n1.1 (by rw[z];exact bE);have:bC x y=be:=by
   rcases rq x y with t|t|t;·exact t
   ·exact absurd t b
   ·rw[t]at a;injection a
  show(bC x y&&dY (y::r))=be;rw[this,KA c.2 n1.2];rfl
theorem uT:∀a:List Str,strsOf (a.map D.str)=Z a|[]=>rfl|s::a=>by simp[strsOf,strOf,uT a]
def drawn(c:Int)(m:Nat):List Str:=(eG m).map λ(j:Nat)=>dM c (j:Int)
theorem KC(h:m<=3):(drawn c m).Nodup:=by
 unfold drawn;rw[Ed]at*;refine Ek.mpr ?_;refine ZwL ?_ (Ed.mp Zvt);intro a b d e f z;have g:a<m:=by simpa using d
 have p:b<m:=by simpa using e
 have:=B5 (c:=c) (i:=(a:Int)) (j:=(b:Int)) ⟨by simp,by lia⟩ ⟨by lia,by lia⟩ z;lia
theorem Z_(f:1<=m)(h:m<=3):pI (.tup ((d8 (drawn c m)).map .str))=be:=by
 have a:=iM (drawn c m);have g:(d8 (drawn c m)).length=m:=by rw[a.length_eq];simp[drawn]
 have hw:((d8 (drawn c m)).map D.str).all iw=be:=by rw[g7];intro d b;obtain⟨s,e,rfl⟩:=aL.mp b;obtain⟨j,_,rfl⟩:=aL.mp (a.mem_iff.mp e);exact Kw c j
 have i:dY (d8 (drawn c m))=be:=(by grind[KA,ue,KC]);grind[pI,aE,uT]
theorem ZoC{k:Nat}(f:2<=k):∀g o2 h j,cf [am,Z 0] (dJ (ai [ae aQ 'c' (ax (Tab k .fv) (ai [aa 0,cC (.int 9931),cC (.int 3)]))])) (gN 0) (λ_=>Z be) (ax (Tab k .fw) (ai [aa 1,aa 0])) [Z (.int c),g,o2,h,j] =Z (.lst ((drawn c (1+mix c 9931 3).toNat).map .str)):=by
 intro g o2 h j;have a:=gA (c:=c) (p:=9931) (m:=3) 'a';have b:=gB (c:=c) (p:=9931) (m:=3) 'a';have t:=eN (n:=k) (fu f) (c:=c) (p:=9931) (m:=3) 'a' (by exact Zvu a b);refine gz (ds:=cq 0 (1+mix c 9931 3).toNat) ?_ ?_ ?_;·simp! only[qL,bx,t];exact yb 'd' 'd'
 ·simp only[cq,aE,oH];exact small 'd'
 ·have e:(drawn c (1+mix c 9931 3).toNat).map D.str=(cq 0 (1+mix c 9931 3).toNat).map (λd=>match d with|.int i=>.str (dM c i)|_=>.aC):=by unfold cq drawn;rw[ej,ej];apply qF;intro i q;simp[Function.comp]
  rw[e];refine B2 am λd r=>?_;unfold cq at r;obtain⟨i,q,rfl⟩:=aL.mp r;have u:i<(1+mix c 9931 3).toNat:=by simpa using q
  show ax (Tab k .fw) (ai [aa 1,aa 0]) [Z (.int (0+(i:Int))),Z (.int c)]=_;simp! only[qL,qG,bx,Kz f c (0+(i:Int)) ⟨by simp,by grind⟩]
theorem ZoD(c:Int):AG [.lst ((drawn c (1+mix c 9931 3).toNat).map .str)]=Z (.lst ((d8 (drawn c (1+mix c 9931 3).toNat)).map .str)):=by have a:=gA (c:=c) (p:=9931) (m:=3) 'a';have b:=gB (c:=c) (p:=9931) (m:=3) 'a';show(if((drawn c (1+mix c 9931 3).toNat).map D.str).length<64 then(strsOf ((drawn c (1+mix c 9931 3).toNat).map D.str)).map (λbs=>D.lst ((d8 bs).map .str))else am)=_;rw[if_pos (by simp[drawn];lia),uT];rfl
noncomputable def Kd.n8:Kd->Prop|.none=>True|.num lo c=> -100<=lo/\c<=100|.name ns=>ns.length<=3|.pair a b=>a.n8/\b.n8|.row a _=>a.n8
theorem KH{k:Nat}(e:3<=k)(c a:Int)(h:mix c 9973 8<6\/a=0):∃K:Kd,Tab (k+1) .fx [.int c,.int a]=Z K.toD/\K.WF/\K.dp=0/\K.n8:=by
 have b:=eN (n:=k) (fu e) (c:=c) (p:=9973) (m:=8) 'a' 'a';rw[tab];generalize mix c 9973 8=t at b h;by_cases f:t<2;·refine⟨.none,?_,trivial,W,trivial⟩;dsimp! [pH,b,f,Kd.toD]
 ·by_cases j:t<6
  ·by_cases g:t<4
   ·have i:=eN (n:=k) (fu e) (c:=c) (p:=9967) (m:=21) 'a' 'a';have q:=eN (n:=k) (fu e) (c:=c) (p:=9949) (m:=12) 'a' 'a';have b1:=gA (c:=c) (p:=9967) (m:=21) 'a';have b2:=gB (c:=c) (p:=9967) (m:=21) 'a';have b3:=gA (c:=c) (p:=9949) (m:=12) 'a';have b4:=gB (c:=c) (p:=9949) (m:=12) 'a';refine⟨.num (mix c 9967 21-10) (mix c 9967 21-10+mix c 9949 12),?_,⟨by lia,by lia,by lia⟩,W,⟨by lia,by lia⟩⟩;have d:¬(5<t):=by lia
    dsimp! [pH,b,f,d,g,i,q,Kd.toD,eq_int]
   ·have u:=gA (c:=c) (p:=9931) (m:=3) 'a';have i:=gB (c:=c) (p:=9931) (m:=3) 'a';refine⟨.name (d8 (drawn c (1+mix c 9931 3).toNat)),?_,Z_ 'd' 'd',W,by show(d8 (drawn c (1+mix c 9931 3).toNat)).length<=3;rw[(iM _).length_eq];simp[drawn];lia⟩;have d:¬(5<t):=by lia
    dsimp! [pH,b,f,d,g,j,Kd.toD,eq_int,ZoC (k:=k) (fu e) (c:=c),ZoD c,je,Gj,k1]
  ·have r:a=0:=by rcases h with h|h<;>omega
   subst r;refine⟨.none,?_,trivial,W,trivial⟩;have d:5<t:=by lia
   dsimp! [pH,b,f,d,Kd.toD,eq_int]
theorem ZoE{k:Nat}(g:3<=k)(c a:Int)(h:¬mix c 9973 8<6)(q:a≠0){b e:Kd}(r:Tab k .fx [.int (c*3+1),.int (a-1)]=Z b.toD)(z:Tab k .fx [.int (c*5+2),.int (a-1)]=Z e.toD) (u:b.WF) (A:e.WF) (v:b.n8) (B:e.n8) (d1:b.dp<=d) (E:e.dp<=d):∃K:Kd,Tab (k+1) .fx [.int c,.int a]=Z K.toD/\K.WF/\K.dp<=d+1/\K.n8:=by
 have f:=eN (n:=k) (fu g) (c:=c) (p:=9973) (m:=8) 'a' 'a';have C:=eN (n:=k) (fu g) (c:=c) (p:=9929) (m:=5) 'a' 'a';have b1:=gA (c:=c) (p:=9929) (m:=5) 'a';have b2:=gB (c:=c) (p:=9929) (m:=5) 'a';rw[tab];generalize mix c 9973 8=t at f h;have w:¬t<2:=by lia
 have x:¬t<4:=by lia
 by_cases y:t=6;·refine⟨.pair b e,?_,⟨u,A⟩,by simp only[Kd.dp];lia,⟨v,B⟩⟩;dsimp! [pH,f,w,x,h,y,q,Kd.toD,eq_int,n5 (uS (i:=c) (j:=3) 'a' 'a'),n5 (uS (i:=c) (j:=5) 'a' 'a'),r,z]
 ·refine⟨.row b (mix c 9929 5),?_,⟨b1,by lia,u⟩,by simp only[Kd.dp];lia,v⟩;dsimp! [pH,f,w,x,h,y,q,Kd.toD,eq_int,n5 (uS (i:=c) (j:=3) 'a' 'a'),r,C]
theorem ZlD:∀(a:Nat){n:Nat}(c:Int),a+4<=n->∃K:Kd,Tab n .fx [.int c,.int (a:Int)]=Z K.toD/\K.WF/\K.dp<=a/\K.n8:=by intro a;induction a with|zero=>intro n c hn;obtain⟨k,rfl,b⟩:=cD (c:=3) hn;refine d6 (KH b c 0 (.inr W)) λK d f g h=>?_;exact⟨K,d,f,by exact vv g,h⟩|succ a i=>
  intro n c hn;obtain⟨k,rfl,b⟩:=cD (c:=a+4) (by omega);by_cases j:mix c 9973 8<6;·refine d6 (KH (k:=k) (fu b) c ((a+1:Nat):Int) (.inl j)) λK d f g h=>?_;grind
  ·refine d6 (i (n:=k) (c*3+1) b) λt m p q r=>?_;refine d6 (i (n:=k) (c*5+2) b) λu b1 b2 b3 b4=>?_;have e:(((a+1:Nat):Int)-1)=(a:Int):=by simp
   rw[<-e]at m b1;exact ZoE (fu b) c _ j (by exact nofun) m b1 p b2 r b4 q b3
theorem ZoF(a:Nat){n:Nat}(c:Int)(hn:a+4<=n):∃K:Kd,Tab n .fx [.int c,.int (a:Int)]=Z K.toD/\K.WF/\K.dp<=a:=by obtain⟨K,b,d,e,_⟩:=ZlD a c hn;exact⟨K,b,d,e⟩
def F7:D:=.tup (("abcdefg":Str).cps.toList.map λc=>.str (sgn c))
theorem n1:pI (.tup [])=bi:=by exact W
theorem n2:pI (.tup [.str "b",.str "a"])=bi:=by exact W
theorem n3:pI (.tup [.str "a",.str "a"])=bi:=by exact W
theorem iy(h:g a=Z (.aF ρ')):a8 g u a=u ρ':=by simp[a8,h]
theorem pJ{a:ag}(h:f a=Z d):cc i f a=Z (.aF (a.set i (Z d))):=by simp[cc,h]
theorem mK(h:t a=Z bi):bY t g u a=u a:=by simp[bY,h]
theorem KI:jY d .aC=Z (.bl (!kN d .aC)):=rfl
theorem Aa:kN .aC .aC=be:=rfl
noncomputable def pT:Nat->D->Bool|n+1,.tup xs=>xs.all (pT n)|_+1,.int _=>be|_+1,.str _=>be|_+1,.aC=>be|_,_=>bi
def B7(x:Option Bool)(p:Prop):Prop:=∃b,x=Z b/\(b=be↔p)
theorem se:∀(k:Nat)(x y:D),pT k x=be->pT k y=be->B7 (cX k x y) (x=y):=by intro k;induction k with|zero=>intro x y a d;injection a|succ k i=>
  have lst:∀xs ys:List D,(∀x∈xs,pT k x=be)->(∀y∈ys,pT k y=be)->∃c,eA k xs ys=Z c/\((c&&xs.length==ys.length)=be↔xs=ys):=by intro xs;induction xs with|nil=>intro ys _ _;cases ys<;>exact⟨be,W,by simp⟩|cons x xs e=>intro ys a d;cases ys with|nil=>exact⟨be,W,by simp⟩|cons y ys=>obtain⟨b,b1,b2⟩:=i x y (a x (.head _)) (d y (.head _));obtain⟨c,f,g⟩:=e ys (λz hz=>a z (.tail _ hz)) λz hz=>d z (.tail _ hz);refine⟨b&&c,by rw[eA,b1,f];rfl,?_⟩;rw[bh,bh,Ov,show(xs.length+1==ys.length+1)=(xs.length==ys.length) by simp,cJ,b2,g,List.cons.injEq]
  intro x y a d;by_cases h:(ja x&&ja y)=be;·rw[cJ]at h;obtain⟨xs,rfl⟩:=rj h.1;obtain⟨ys,rfl⟩:=rj h.2;obtain⟨c,f,g⟩:=lst xs ys (g7.mp a) (g7.mp d);exact⟨_,by show(eA k xs ys).map _=_;rw[f];rfl,by rw[g,D.tup.injEq]⟩
  ·refine⟨eH x y,?_,?_⟩;·rw[z7 (k+1) _ _ (jR.mpr h)];cases x<;>first|exact absurd a ei|(cases y<;>first|rfl|exact absurd d ei)
   ·cases x<;>first|exact absurd a ei|(cases y<;>first|exact absurd d ei|exact absurd W h|exact⟨λh=>absurd h ei,λh=>D.noConfusion h⟩|exact⟨λh=>congrArg _ (eq_of_beq h),λh=>by injection h with h;rw[h];exact beq_self_eq_true _⟩|exact⟨λ_=>rfl,λ_=>rfl⟩)
theorem ZoG(h:pT 64 d=be):eB 64 d d=Z (.bl bi):=by obtain⟨b,e,q⟩:=se 64 d d h h;show(cX 64 d d).map _=_;rw[e,q.mpr W];rfl
theorem pK:∀(a:Kd){n:Nat},a.dp+3<=n->pT n a.toD=be:=by intro a;induction a with|none=>intro n h;obtain⟨n,rfl⟩:∃k,n=k+3:=⟨n-3,by lia⟩;exact W|num lo e=>intro n h;obtain⟨n,rfl⟩:∃k,n=k+3:=⟨n-3,by grind⟩;exact W|name ns=>intro n h;obtain⟨n,rfl⟩:∃k,n=k+3:=⟨n-3,by lia⟩;simp[Kd.toD,pT]|pair a b c d=>intro n h;obtain⟨n,rfl⟩:∃k,n=k+3:=⟨n-3,by lia⟩;have h':max a.dp b.dp+1+3<=n+3:=h;have:=c (n:=n+2) 'd';have:=d (n:=n+2) 'd';simp_all[Kd.toD,pT]|row a m c=>intro n h;obtain⟨n,rfl⟩:∃k,n=k+3:=⟨n-3,by lia⟩;have h':a.dp+1+3<=n+3:=h;have:=c (n:=n+2) 'd';simp_all[Kd.toD,pT]
theorem mod2(c:Int):c%2=0\/c%2=1:=by grind
theorem ye{xs ys:List D}(h:xs≠[])(a:xs.length+ys.length<=1000):aQ (.tup xs) (.tup ys)=Z (.tup (xs++ys)):=by show(if(!xs.isEmpty)=be/\xs.length+ys.length<=aD then Z (D.tup (xs++ys))else am)=_;rw[if_pos ⟨by cases xs<;>first|rfl|exact absurd W h,du (small a)⟩]
def both(a b:Kd)(v:D):Bool:=fits a v&&fits b v
theorem sf:∀{l:List Str},dY l=be->l.Pairwise λa b=>bC a b=be
 |[],_=>NM|[x],_=>DB _ _|x::y::r,h=>by
  have h':(bC x y&&dY (y::r))=be:=h;rw[cJ]at h';have c:=sf h'.2;refine g_.mpr ⟨λz hz=>?_,c⟩;rcases a7.mp hz with rfl|hz;·exact h'.1
  ·exact nN h'.1 ((g_.mp c).1 z hz)
theorem KL:∀{l:List Str},(l.Pairwise λa b=>bC a b=be)->dY l=be|[],_=>rfl|[x],_=>rfl|x::y::r,h=>by have h':=g_.mp h;show(bC x y&&dY (y::r))=be;rw[h'.1 y bE,KL h'.2];rfl
theorem B8(h:bC x y=be):x≠y:=λe=>by subst e;rw[GX]at h;injection h
theorem yf{l:List Str}(h:dY l=be):l.Nodup:=by rw[Ed];exact(sf h).imp λh=>B8 h
open PySem.Builtin.Int (intBits)
theorem KN(a:0<=i)(h:i<=2000001):intBits i<=21:=intBits_le_iff.mpr (by
 have:(2:Nat)^21=2097152:=by simp
 lia)
theorem ZlE{n:Nat}(a:intBits i<=m)(b:intBits j<=n)(h:m+n<=134217728):rF (.int i) (.int j)=Z (.int (i*j)):=by have c:sM i j:=ZwM a b h;show(if sM i j then Z (D.int (i*j))else am)=_;rw[if_pos c]
theorem B9{xs ys:List D}(a:xs.length+ys.length<=1000):jh (.tup xs) (.tup ys)=Z (.tup (xs++ys)):=by cases xs with|nil=>rfl|cons x r=>show aQ (.tup (x::r)) (.tup ys)=_;exact ye (zj _ _) a
theorem uU(h:t a=Z be):bY t g u a=g a:=by simp[bY,h]
theorem n9(h:f a=Z d):bj f a=Z (.ret d):=by simp[bj,h]
noncomputable abbrev Ch:=Str×Kd×Int
noncomputable def aY(c:Ch):D:=.tup [.str c.1,c.2.1.toD,.int c.2.2]
inductive Pl where|fin|say (a b:Int) (cs:List Ch)
def Pl.toD:Pl->D|.fin=>.tup [.str "end"]|.say a b cs=>.tup [.str "say",.int a,.int b,.tup (cs.map aY)]
def sh(N:Int)(c:Ch):Prop:=iw (.str c.1)=be/\c.2.1.WF/\c.2.1.dp<=2/\0<=c.2.2/\c.2.2<N
def Pl.OK(m N:Int):Pl->Prop|.fin=>True|.say a b cs=>0<=a/\a<m/\0<=b/\b<m/\a≠b/\1<=cs.length/\cs.length<=5/\(∀c∈cs,sh N c)/\dY (cs.map (·.1))=be
noncomputable def Pl.O2(m N:Int):Pl->Prop|.fin=>True|.say a b cs=>0<=a/\a<m/\0<=b/\b<m/\a≠b/\1<=cs.length/\cs.length<=5/\(∀c∈cs,sh N c)/\(cs.map (·.1)).Nodup
theorem Pl.OK.o2:∀{p:Pl},p.OK m N->p.O2 m N|.fin,_=>trivial|.say _ _ _,⟨a,b,c,d,e,f,g,h,i⟩=>⟨a,b,c,d,e,f,g,h,yf i⟩
def aJ(m:Int)(ps:List Pl):D:=.tup [.int m,.tup (ps.map Pl.toD)]
noncomputable def Pl.bo:Pl->List Ch|.fin=>[]|.say _ _ cs=>cs
theorem KO(p:Pl):bK 64 p.toD mJ=Z (.bl (match p with|.fin=>be|.say _ _ _=>bi)):=by cases p<;>rfl
theorem iz{e:Type}{a b c d:e}{l:List e}:bN (a::b::c::d::l) 3=Z d:=by simp[bN,iK];rw[if_pos (by grind)];rfl
theorem KP{n:Nat}(hn:1<=n)(p:Pl):Tab n .fb [p.toD]=Z (.tup (p.bo.map aY)):=by obtain⟨k,rfl,e⟩:=cD (c:=0) hn;have d:=KO p;rw[tab];cases p with|fin=>simp only[Pl.toD]at d;dsimp! [BD,Pl.toD,d,Pl.bo]|say a b cs=>simp only[Pl.toD]at d;dsimp! [BD,Pl.toD,d,Pl.bo,iz]
theorem ZsF{ps:List Pl}{i:Int}{p:Pl}(b:0<=i)(h:ps[i.toNat]?=Z p):bN (ps.map Pl.toD) i=Z p.toD:=by
 have a:i.toNat<ps.length:=(bF.mp h).1;have:=r8 (xs:=ps.map Pl.toD) (i:=i.toNat) (by rw[aE];exact a);rw[ni b]at this;rw[this];rw[cy a]at h
 (obtain rfl:=ao h);simp
def gK(m:Int)(ps:List Pl):Prop:=2<=m/\m<=4/\1<=ps.length/\ps.length<=60/\∀p∈ps,p.OK m ps.length
def G2(m:Int)(ps:List Pl):Prop:=2<=m/\m<=4/\1<=ps.length/\ps.length<=130/\∀p∈ps,p.O2 m ps.length
theorem uV(h:gK m ps):G2 m ps:=⟨h.1,h.2.1,h.2.2.1,cv h.2.2.2.1 (by exact kB ..),λp a=>(h.2.2.2.2 p a).o2⟩
noncomputable def aB(ps:List Pl)(i:Int):Pl:=(ps[i.toNat]?).getD .fin
theorem mL{ps:List Pl}(h:G2 m ps)(i:Int):(aB ps i).O2 m ps.length:=by unfold aB;cases e:ps[i.toNat]? with|none=>trivial|some p=>exact h.2.2.2.2 p (cj e)
theorem B_{ps:List Pl}{i:Int}(a:0<=i)(h:i<ps.length):ps[i.toNat]?=Z (aB ps i):=by unfold aB;rw[cy 'd'];rfl
theorem jk{m i:Int}{ps:List Pl}(a:0<=i)(h:i<ps.length):bN (ps.map Pl.toD) i=Z (aB ps i).toD:=ZsF a (B_ a h)
noncomputable abbrev Sd:=Str×Kd
noncomputable def bM(x:Sd):D:=.tup [.str x.1,x.2.toD]
def kg(x:Sd):Prop:=iw (.str x.1)=be/\x.2.WF/\x.2.dp<=2
theorem uW{n:Nat}(hn:7<=n)(c j:Int)(b:0<=j/\j<=1000000):∃K:Kd,Tab n .fy [.int c,.int j]=Z (bM (dM c j,K))/\kg (dM c j,K):=by obtain⟨k,rfl,d⟩:=cD (c:=6) hn;refine aM (ZoF 2 (n:=k) (c*11+j) (by omega)) λK e f g=>?_;have a:Tab k .fx [.int (c*11+j),.int 2]=Z K.toD:=e;have hw:=Kz (n:=k) (fu d) c j b;refine⟨K,?_,Kw c j,f,by omega⟩;rw[tab];dsimp! [Kh,hw,n5 (uS (i:=c) (j:=11) 'a' 'a'),a,bM]
theorem KQ:∀ws:List Sd,ph (ws.map bM)=Z (ws.map (·.1))|[]=>rfl|x::ws=>by simp[ph,KQ ws,bM,Ih]
theorem yg{c:Type}{n:Nat}(h:∀i j,i<n->j<n->i≠j->lt i j=lt' i j):∀(t:qH c),mC n t=be->ji lt t=ji lt' t
 |.ret a,_=>rfl|.ask i j k,b=>by
  simp only[mC,cJ,decide_eq_true_eq]at b;obtain⟨⟨⟨⟨d,e⟩,f⟩,g⟩,m⟩:=b;simp only[ji,h i j d e f];cases lt' i j;·exact yg h _ m
  ·exact yg h _ g
noncomputable def yh(a b c:Bool):Nat->Nat->Bool|0,1=>a|1,0=>!a|0,2=>b|2,0=>!b|1,2=>c|2,1=>!c|_,_=>bi
theorem Za_:∀a:Bool,(ji (yh a bi bi) (jU 2)).toList=bif a then [0,1]else [1,0]:=by decide+kernel
theorem Zb_:∀a b c:Bool,(a&&c&&!b)=bi->(!a&&!c&&b)=bi->(ji (yh a b c) (jU 3)).toList=bif a then bif b then bif c then [0,1,2]else [0,2,1]else [2,0,1]else bif b then [1,0,2]else bif c then [1,2,0]else [2,1,0]:=by decide+kernel
theorem pL(h:x≠y):bC y x=!bC x y:=by grind[rq,AD,absurd]
theorem Ca{ws:List Sd}(A:ws.length<=3)(hn:(ws.map (·.1)).Nodup):∃f:List Sd,kQ [.lst (ws.map bM)]=Z (.lst (f.map bM))/\f.length=ws.length/\(∀x∈f,x∈ws)/\dY (f.map (·.1))=be:=by
 have e0:kQ [.lst (ws.map bM)]=Z (.lst (iq .aC (jI (ws.map (·.1))) (ws.map bM))):=by show(ph (ws.map bM)).bind (λks=>if(ws.map bM).length<=3/\ks.Nodup then Z (D.lst (iq .aC (jI ks) (ws.map bM)))else am)=_;rw[KQ,bx,if_pos ⟨by rw[aE];exact A,hn⟩]
 rcases ws with _|⟨x,_|⟨y,_|⟨z,_|⟨u,r⟩⟩⟩⟩;·exact⟨[],e0,W,λx m=>m,W⟩
 ·exact⟨[x],e0,W,λx m=>m,W⟩
 ·have e:x.1≠y.1:=by simpa using hn
  have d:kQ [.lst [bM x,bM y]]=Z (.lst ((ji (jI [x.1,y.1]) (jU 2)).toList.map λi=>[bM x,bM y].getD i .aC)):=e0;rw[yg (n:=2) (lt':=yh (bC x.1 y.1) bi bi) (λi j B C p=>by
   rcases(show i=0/\j=1\/i=1/\j=0 by lia)with⟨rfl,rfl⟩|⟨rfl,rfl⟩;·rfl
   ·exact pL e) _ Ic,Za_]at d;have g:=pL e;cases a:bC x.1 y.1<;>rw[a]at d g;·exact⟨[y,x],d,W,by simp,by simp[dY,g]⟩
  ·exact⟨[x,y],d,W,by simp,by simp[dY,a]⟩
 ·simp at hn;obtain⟨⟨e,q⟩,h⟩:=hn;have t:(bC x.1 y.1&&bC y.1 z.1&&!bC x.1 z.1)=bi:=by cases a:bC x.1 y.1<;>cases b:bC y.1 z.1<;>first|rfl|grind[nN]
  have v:(!bC x.1 y.1&&!bC y.1 z.1&&bC x.1 z.1)=bi:=by rw[<-pL e,<-pL h];cases a:bC y.1 x.1<;>cases b:bC z.1 y.1<;>first|rfl|grind[AD,nN]
  have g:=pL e;have o2:=pL q;have w:=pL h;have d:kQ [.lst [bM x,bM y,bM z]]=Z (.lst ((ji (jI [x.1,y.1,z.1]) (jU 3)).toList.map λi=>[bM x,bM y,bM z].getD i .aC)):=e0;rw[yg (n:=3) (lt':=yh (bC x.1 y.1) (bC x.1 z.1) (bC y.1 z.1)) (λi j B C p=>by rcases(show i=0/\(j=1\/j=2)\/i=1/\(j=0\/j=2)\/i=2/\(j=0\/j=1) by lia)with⟨rfl,rfl|rfl⟩|⟨rfl,rfl|rfl⟩|⟨rfl,rfl|rfl⟩<;>first|rfl|assumption) _ Ie,Zb_ _ _ _ t v]at d;cases a:bC x.1 y.1<;>cases b:bC x.1 z.1<;>cases c:bC y.1 z.1<;>rw[a,b,c]at d t v<;>rw[a]at g<;>rw[b]at o2<;>rw[c]at w
  ·exact⟨[z,y,x],d,W,by simp[or_comm,or_assoc],by simp[dY,g,w]⟩
  ·exact⟨[y,z,x],d,W,by simp[or_comm,or_left_comm],by simp[dY,c,o2]⟩
  ·injection v
  ·exact⟨[y,x,z],d,W,by simp[or_left_comm],by simp[dY,g,b]⟩
  ·exact⟨[z,x,y],d,W,by simp[or_comm,or_left_comm],by simp[dY,o2,a]⟩
  ·injection t
  ·exact⟨[x,z,y],d,W,by simp[or_comm,or_left_comm],by simp[dY,b,w]⟩
  ·exact⟨[x,y,z],d,W,by simp,by simp[dY,a,c]⟩
 ·simp at A
theorem KR{k:Nat}(b:7<=k):∀(m:Nat)(a:Nat)(o:Option D),a+m<=3->∃ws:List Sd,bT (gN 0) (λ_=>Z be) (ax (Tab k .fy) (ai [aa 1,aa 0])) [o,Z (.int c)] ((nj a m).map λ(i:Nat)=>D.int (i:Int))=Z (ws.map bM)/\ws.map (·.1)=(nj a m).map (λ(i:Nat)=>dM c (i:Int))/\∀x∈ws,kg x
 |0,a,o,_=>⟨[],W,W,λx d=>by cases d⟩|m+1,a,o,h=>by
  obtain⟨K,e,g⟩:=uW (n:=k) b c (a:Int) ⟨by lia,by lia⟩;refine aM (KR b (c:=c) m (a+1) (Z (.int (a:Int))) 'd') λws f j p=>?_;refine⟨(dM c (a:Int),K)::ws,?_,?_,λx d=>?_⟩;·rw[vS,br,br];simp! only[bT,gN,qI,bx,if_true,qL,qG,e,f,zi]
  ·simp_all[vS,br]
  grind
theorem Zgs(h:m<=3):((nj 0 m).map (λ(i:Nat)=>dM c (i:Int))).Nodup:=by have:=KC (c:=c) h;simp_all[drawn,vT]
section
variable {i:Nat}{g:D->D->Option D}{fa fb:ag->Option D}{fs:List (ag->Option D)}{gs:ag->Option (List D)}{F:List D->Option D}{ρ:ag}{r:ar}{x y z:D}{ds:List D}{b c:Bool}{t u:ag->Option Bool}{fo:ar->Option D}{lo:ar->Option (List D)}{sp sq:ag->Option Out}{so:Out}{ρ':ag}
theorem au(a:fa ρ=Z x)(d:fb ρ=Z y)(e:g x y=Z z):ae g fa fb ρ=Z z:=by simp[ae,a,d,e]
theorem bg(h:gs ρ=Z ds):aH gs ρ=Z (.tup ds):=by simp[aH,h]
theorem lY(h:gs ρ=Z ds):eT gs ρ=Z (.lst ds):=by simp[eT,h]
theorem aj(h:fa ρ=Z x)(a:ai fs ρ=Z ds):ai (fa::fs) ρ=Z (x::ds):=by rw[rz,h,a];rfl
theorem aP(h:gs ρ=Z ds)(a:F ds=Z z):ax F gs ρ=Z z:=by simp[ax,h,a]
theorem aU(h:fa ρ=Z (.bl b)):cB fa ρ=Z b:=by simp[cB,h]
theorem mM(h:t ρ=Z b):gR t ρ=Z (!b):=by simp[gR,h]
theorem yi(h:t ρ=Z be)(a:u ρ=Z b):ez t u ρ=Z b:=by simp[ez,h,a]
theorem Cb(h:t ρ=Z bi):ez t u ρ=Z bi:=by simp[ez,h]
theorem yj(h:t ρ=Z bi)(a:u ρ=Z b):lI t u ρ=Z b:=by simp[lI,h,a]
theorem Zc_(h:t ρ=Z be):lI t u ρ=Z be:=by simp[lI,h]
theorem pM(h:t ρ=Z b)(a:u ρ=Z c):ez t u ρ=Z (b&&c):=by cases b<;>simp[ez,h,a]
theorem pP(h:fa ρ=Z x)(a:uw x=Z b):lN fa ρ=Z b:=by simp[lN,h,a]
theorem cP(h:fa (pv r)=Z x):vH fa r=Z x:=h
theorem kh(h:fa (fz r)=Z x)(a:cG x=be):vZ fa r=Z x:=by simp[vZ,h,a]
theorem mO(h:gs (pv r)=Z ds):lH gs r=Z ds:=h
theorem pQ(h:gs (fz r)=Z ds)(a:cO ds=be):lZ gs r=Z ds:=by simp[lZ,h,a]
theorem ZsG(h:fo r=Z x):cg i fo r=Z (.aF (r.set i (Z (.ak x)))):=by simp[cg,h]
theorem ZsH(h:lo r=Z ds):cS i lo r=Z (.aF (r.set i (Z (.own ds)))):=by simp[cS,h]
theorem ZsI(a:h7 i r=Z ds)(d:fo r=Z x)(e:ds.length<aD):eM i fo r=Z (.aF (r.set i (Z (.own (ds++[x]))))):=by simp[eM,a,d,e]
theorem ZsJ(h:fa (fz r)=Z x):eD fa r=Z (.ret x):=by simp[eD,h]
theorem eX(h:sp ρ=Z (.aF ρ'))(a:sq ρ'=Z so):a8 sp sq ρ=Z so:=by simp[a8,h,a]
theorem n_(h:fa ρ=Z x):cc i fa ρ=Z (.aF (ρ.set i (Z x))):=by simp[cc,h]
theorem KU(h:t ρ=Z be)(a:sp ρ=Z so):bY t sp sq ρ=Z so:=by simp[bY,h,a]
theorem k7(h:t ρ=Z bi)(a:sq ρ=Z so):bY t sp sq ρ=Z so:=by simp[bY,h,a]
theorem ZqI(h:fa ρ=Z x):bj fa ρ=Z (.ret x):=by simp[bj,h]
end
def Ev{b:Type}(x:Option b)(Q:b->Prop):Prop:=∃a,x=Z a/\Q a
section
variable {i n:Nat}{fa:ag->Option D}{t:ag->Option Bool}{p q:ar->Option aK}{r r':ar}{x:D}{ds:List D}{b:Bool}{Q:aK->Prop}{fo fi:ar->Option D}{lo:ar->Option (List D)}{gi:ag->Option (List D)}{gt:D->ar->Option ar}{gb:ar->Option aK}
noncomputable def kS(q:ar->Option aK)(Q:aK->Prop):aK->Prop|.aF r=>Ev (q r) Q|o=>Q o
theorem aV(h:Ev (p r) (kS q Q)):Ev (aI p q r) Q:=by obtain⟨o,h,k⟩:=h;cases o<;>simp only[Ev,aI,h,bx]<;>first|exact k|exact⟨_,W,k⟩
theorem aN(h:Ev (q r) Q):kS q Q (.aF r):=h
theorem uX(h:Q (.ret x)):kS q Q (.ret x):=h
theorem df(h:fo r=Z x)(k:Q (.aF (r.set i (Z (.ak x))))):Ev (cg i fo r) Q:=⟨_,ZsG h,k⟩
theorem f9(h:lo r=Z ds)(k:Q (.aF (r.set i (Z (.own ds))))):Ev (cS i lo r) Q:=⟨_,ZsH h,k⟩
theorem k8(a:h7 i r=Z ds)(c:fo r=Z x)(d:ds.length<aD)(k:Q (.aF (r.set i (Z (.own (ds++[x])))))):Ev (eM i fo r) Q:=⟨_,ZsI a c d,k⟩
theorem jJ(h:fa (fz r)=Z x)(k:Q (.ret x)):Ev (eD fa r) Q:=⟨_,ZsJ h,k⟩
theorem dN(k:Q (.aF r)):Ev (dX r) Q:=⟨_,W,k⟩
theorem c4(h:t (fz r)=Z b)(k:Ev (bif b then p r else q r) Q):Ev (d9 t p q r) Q:=by cases b<;>simpa [Ev,d9,h]using k
theorem eO(h:b=be)(k:Ev (p r) Q):Ev (bif b then p r else q r) Q:=by subst h;exact k
theorem dO(h:b=bi)(k:Ev (q r) Q):Ev (bif b then p r else q r) Q:=by subst h;exact k
noncomputable def kL(I:ar->Prop)(Q:aK->Prop):aK->Prop|.aF r=>I r|.cnt r=>I r|.brk r=>Q (.aF r)|.ret d=>Q (.ret d)
theorem dS(h:I r):kL I Q (.aF r):=h
theorem Cc(h:Q (.ret x)):kL I Q (.ret x):=h
theorem Cd(k:Q (.aF r)):Ev (dq gt gb [] r) Q:=⟨_,W,k⟩
theorem KY(h:gt x r=Z r')(k:Ev (gb r') (kL (λr=>Ev (dq gt gb ds r) Q) Q)):Ev (dq gt gb (x::ds) r) Q:=by obtain⟨o,a,k⟩:=k;cases o<;>simp only[Ev,dq,h,a,bx]<;>first|exact k|exact⟨_,W,k⟩
theorem KZ(I:Nat->ar->Prop):∀(ds:List D)(a:Nat)(r:ar),I a r->(∀i d r,ds[i]?=Z d->I (a+i) r->∃g,gt d r=Z g/\Ev (gb g) (kL (I (a+i+1)) Q))->(∀r,I (a+ds.length) r->Q (.aF r))->Ev (dq gt gb ds r) Q|[],_,_,h,_,f=>Cd (f _ h)|d::ds,a,r,h,s,f=>by refine a9 (s 0 d r W h) λg e c=>a9 c λo j k=>?_;clear c;refine KY e ⟨o,j,?_⟩;have:=λr (h:I (a+1) r)=>KZ I ds (a+1) r h (λi d r e h=>by have:=s (i+1) d r e (by rwa [El,vB]at h);rwa [<-vB,El a i 1]at this) (λr h=>f r (by rwa [El]at h));cases o<;>first|exact this _ k|exact k
theorem jl(I:ar->Nat->ar->Prop)(h:I r 0 r)(s:∀i d a,ds[i]?=Z d->I r i a->∃c,gt d a=Z c/\Ev (gb c) (kL (I r (i+1)) Q))(f:∀a,I r ds.length a->Q (.aF a)):Ev (dq gt gb ds r) Q:=KZ (I r) ds 0 r h (λi d a e k=>by rw[md]at k⊢;exact s i d a e k) (λa k=>f a (by rwa [md]at k))
theorem ki(h:gi (pv r)=Z ds)(k:Ev (dq gt gb ds r) Q):Ev (gv gi gt gb r) Q:=by simpa [Ev,gv,h]using k
theorem Ev.imp{c:Type}{x:Option c}{P R:c->Prop}(h:Ev x P)(k:∀a,P a->R a):Ev x R:=by obtain⟨a,e,p⟩:=h;exact⟨a,e,k a p⟩
theorem Ev.eq{a:Type}{x:Option a}{v:a}(h:Ev x (· =v)):x=Z v:=by obtain⟨_,e,k⟩:=h;exact k▸e
theorem Ce(h:Ev (gb (lO i r)) Q):Ev (xj i gb r) Q:=h
theorem Cf(h:fo r=Z x)(a:g x r=Z r')(k:Q (.aF r')):Ev (um fo g r) Q:=⟨_,by simp[um,h,a],k⟩
theorem K0(h:Ev (lo r) λds=>Q (.aF (r.set i (Z (.own ds))))):Ev (cS i lo r) Q:=by obtain⟨_,e,k⟩:=h;exact f9 e k
theorem ZqK(a:h7 i r=Z ds)(c:ds.length<aD)(h:Ev (fo r) λx=>Q (.aF (r.set i (Z (.own (ds++[x])))))):Ev (eM i fo r) Q:=by obtain⟨_,e,k⟩:=h;exact k8 a e c k
theorem Zd_(h:Ev (fa (fz r)) λx=>cG x=be/\P x):Ev (vZ fa r) P:=by obtain⟨_,e,n,k⟩:=h;exact⟨_,kh e n,k⟩
theorem K1(h:Ev (gs (fz r)) λx=>cO x=be/\P x):Ev (lZ gs r) P:=by obtain⟨_,e,n,k⟩:=h;exact⟨_,pQ e n,k⟩
theorem K2(g:fa f=Z (.lst ds))(h:Ev (j f) λd=>∃ys,d=.lst ys/\ds.length+ys.length<=1000/\P (ds++ys)):Ev (nR fa j f) P:=by refine a9 h λ_ e a=>aM a λys c l k=>?_;clear h a;subst c;refine⟨_,?_,k⟩;simp only[nR,g,e,bx,w9];rw[if_pos (du (small l))]
theorem Cg(h:gs a=Z ds)(k:Ev (F ds) P):Ev (ax F gs a) P:=by obtain⟨_,e,k⟩:=k;exact⟨_,aP h e,k⟩
theorem Ci(a:fo r=Z x)(c:fi r=Z (.int j))(d:h7 i r=Z ds)(e:iK ds.length j=Z m)(k:Q (.aF (r.set i (Z (.own (ds.set m x)))))):Ev (uj i fi fo r) Q:=⟨_,by simp[uj,a,c,d,e],k⟩
noncomputable def kR(P:D->Prop):aK->Prop|.ret d=>P d|.aF _=>P .aC|_=>False
theorem iS(h:P x):kR P (.ret x):=h
theorem iT(h:Ev (gb (jH n ds)) (kR P))(a:ds.length=np:=by rfl):Ev (fY np n gb ds) P:=by obtain⟨o,h,k⟩:=h;unfold fY;rw[if_pos a,h];cases o<;>first|exact⟨_,W,k⟩|exact k.elim
end
theorem si{j:Int}(h:a b=Z (.int j))(c: -1000000<=j)(d:j<=1000000):dJ (ai [a]) b=Z (cq 0 j.toNat):=by unfold dJ;rw[aj h W,yb c d]
theorem Ze_(h:b a=Z (.int i))(h':c a=Z (.int j))(d: -1000000<=i)(e:i<=1000000)(f: -1000000<=j)(g:j<=1000000):dJ (ai [b,c]) a=Z (cq i (j-i).toNat):=by unfold dJ;rw[aj h (aj h' W),ZX d e f g]
theorem oa{ds:List D}(b:fi a=Z ds)(c:ds.length<aD)(d:bT e f g (nL cap a) ds=Z out):eC cap fi e f g a=Z out:=by unfold eC;rw[b,bx,if_pos c,d]
theorem jK(e:a d f=Z ρ')(g:b ρ'=Z be)(h:c ρ'=Z y)(i:bT a b c ρ' ds=Z out):bT a b c f (d::ds)=Z (y::out):=by simp[bT,e,g,h,i]
theorem K3(lo:Int)(k:Nat):cq lo (k+1)=.int lo::cq (lo+1) k:=by unfold cq;rw[Zul,br,ej,show lo+((0:Nat):Int)=lo by simp];congr 1;apply qF;intro i _;show D.int (lo+((i+1:Nat):Int))=.int (lo+1+(i:Int));congr 1;lia
section
variable {gt:D->ag->Option ag}{fc:ag->Option Bool}{fe:ag->Option D}{ρ:ag}{out:List D}{lo:Int}{n k:Nat}{go:D->ar->Option ar}{gb:ar->Option aK}{r:ar}{Q:aK->Prop}
theorem Zf_(h:n=k+1)(a:bT gt fc fe ρ (.int lo::cq (lo+1) k)=Z out):bT gt fc fe ρ (cq lo n)=Z out:=by rw[h,K3];exact a
theorem Zg_(h:n=0)(k:Q (.aF r)):Ev (dq go gb (cq lo n) r) Q:=by subst h;exact Cd k
theorem Zh_(h:n=k+1)(a:Ev (dq go gb (.int lo::cq (lo+1) k) r) Q):Ev (dq go gb (cq lo n) r) Q:=by rw[h,K3];exact a
end
theorem uY{xs ys:List D}(h:xs.length+ys.length<=1000):aQ (.lst xs) (.lst ys)=Z (.lst (xs++ys)):=by show(if xs.length+ys.length<=aD then Z (D.lst (xs++ys))else am)=_;rw[if_pos (du (small (ig (Nat.ble_eq_true_of_le h))))]
theorem pR(n:Nat):cq 0 n=(eG n).map λ(i:Nat)=>D.int (i:Int):=qF λi _=>by rw[Ow]
theorem K4{xs ys:List D}(h:xs.length+ys.length<=1000):jh (.lst xs) (.lst ys)=Z (.lst (xs++ys)):=uY h
theorem gC(h:a b=Z x)(c:G5 x=Z ds):bV a b=Z ds:=by simp[bV,h,c]
theorem uG:∀(xs ys:List D)(i:Nat)(d:D),(rH xs ys)[i]?=Z d->∃x y,xs[i]?=Z x/\ys[i]?=Z y/\d=.tup [x,y]|x::xs,y::ys,0,d,h=>by(obtain rfl:=ao h);exact⟨x,y,W,W,W⟩|x::xs,y::ys,i+1,d,h=>uG xs ys i d h|[],_,_,_,h=>by simp[rH]at h|_::_,[],_,_,h=>by simp[rH]at h
theorem pz:∀(xs ys:List D),(rH xs ys).length=min xs.length ys.length|x::xs,y::ys=>by simp[rH,pz xs ys]|[],_=>by exact W|_::_,[]=>by exact W
theorem iU(h:a b=Z (.int i)):c6 a b=Z (Z i):=by simp[c6,h]
theorem og(h:b a=Z x)(c:fl a=Z l)(d:e a=Z u)(f:pa x l u=Z z):gu b fl e a=Z z:=by simp[gu,h,c,d,f]
theorem pS(h:b a=Z x)(c:fl a=Z l)(d:e a=Z u)(f:nP x l u=Z z):jF b fl e a=Z z:=by simp[jF,h,c,d,f]
section
variable {fa:ag->Option D}{x:D}{i:Nat}{z:D}{j:Key}{ks:List Key}{ds:List D}{r:ar}{fo fi:ar->Option D}{p:ar->Option aK}{u:ar->Option fZ}{Q:aK->Prop}{X:fZ->Prop}{b:Bool}{t:ag->Option Bool}{q:ar->Option aK}
theorem Cj(h:fa (dz r)=Z x)(a:gx x=be):vD fa r=Z x:=by simp[vD,h,a]
theorem oh(a:lF z=Z j)(h:atK ks ds j=Z x):ir (.aW ks ds) z=Z x:=by simp[ir,a,h]
theorem uZ(a:fo r=Z x)(c:fi r=Z z)(d:lF z=Z j)(e:rR i r=Z (ks,ds))(g:ks.length<=1000)(k:Q (.aF (r.set i (Z (.ow (Z (gy ks j)) (DL.gJ ks ds j x)))))):Ev (n4 i fi fo r) Q:=⟨_,by unfold n4;rw[a,bx,c,bx,e,bx,d,bx];exact if_pos (small g),k⟩
theorem Ck(h:t (dz r)=Z b):xG t r=Z b:=h
theorem Cm(h:a r=Z b)(k:Ev (bif b then p r else q r) Q):Ev (uJ a p q r) Q:=by cases b<;>simpa [Ev,uJ,h]using k
theorem mP(I:Nat->ar->Prop)(a:∀r,¬I 0 r)(c:∀n r,I (n+1) r->(t (fz r)=Z bi/\Q (.aF r))\/(t (fz r)=Z be/\Ev (p r) (kL (I n) Q))):∀(n:Nat)(r:ar),I n r->Ev (eE t p n r) Q
 |0,r,h=>(a r h).elim|n+1,r,h=>by
  rcases c n r h with⟨e,k⟩|⟨e,o,d,k⟩;·exact⟨_,by simp[eE,e],k⟩
  ·cases o<;>simp only[Ev,eE,e,d,bx,if_true]<;>first|exact mP I a c n _ k|exact⟨_,W,k⟩
theorem yk{n:Nat}(h:h7 i r=Z (xs++[x]))(k:Q (.aF ((r.set i (Z (.own xs))).set n (Z (.ak x))))):Ev (rT i n r) Q:=⟨_,by simp[rT,h],k⟩
theorem K5{u:Int}(h:xm i r=Z (.int u))(a:fo r=Z (.int v))(k:Q (.aF (r.set i (Z (.ak (.int (u+v))))))):Ev (xo i fo r) Q:=⟨_,by simp[xo,h,a],k⟩
theorem Cn(h:fo r=Z x)(k:Q (.ret x)):Ev (uK fo r) Q:=⟨_,by simp[uK,h],k⟩
noncomputable def kX(u:ar->Option fZ)(X:fZ->Prop):aK->Prop|.aF r=>Ev (u r) X|o=>X (.inl o)
theorem wx(h:Ev (p r) (kX u X)):Ev (nY (pw p) u r) X:=by obtain⟨o,h,k⟩:=h;cases o<;>simp only[Ev,nY,pw,h,bx]<;>first|exact k|exact⟨_,W,k⟩
theorem K6(h:Ev (u r) X):kX u X (.aF r):=h
theorem K7(h:t (fz r)=Z b)(k:Ev (bif b then nY g u r else nY g' u r) X):Ev (nY (xD t g g') u r) X:=by cases b<;>simpa [Ev,nY,xD,h]using k
theorem K8(h:Ev (p r) λo=>X (.inl o)):Ev (pw p r) X:=by obtain⟨_,e,k⟩:=h;exact⟨_,by simp[pw,e],k⟩
end
theorem iA(h:bN xs i=Z x):ay (.lst xs) (.int i)=Z x:=h
theorem aX(h:bN xs i=Z x):ay (.tup xs) (.int i)=Z x:=h
theorem K9(a:0<=i)(b:i<=1000)(c:0<=j)(d:j<=1000):rF (.int i) (.int j)=Z (.int (i*j)):=ZlE (KN a 'd') (KN c 'd') (by exact kB ..)
theorem l3(x:Sd)(i:Int):aQ (bM x) (.tup [.int i])=Z (aY (x.1,x.2,i)):=by unfold bM;rw[ye (zj _ _) (by exact kB ..)];rfl
theorem pU:∀K:Kd,cG K.toD=be
 |.none=>rfl|.num _ _=>rfl|.name ns=>by
  have:∀l:List Str,cO (l.map D.str)=be:=λl=>by induction l with|nil=>rfl|cons x l c=>simp[cO,cG,c]
  simp[Kd.toD,cG,cO,this]|.pair a b=>by simp[Kd.toD,cG,cO,pU a,pU b]|.row a m=>by simp[Kd.toD,cG,cO,pU a]
theorem Co(c:Ch):cG (aY c)=be:=by simp[aY,cG,cO,pU]
theorem jL{b:Type}{f:b->D}(h:∀a,cG (f a)=be):∀l:List b,cO (l.map f)=be|[]=>rfl|a::l=>by simp[cO,h a,jL h l]
theorem yl(p:Pl):cG p.toD=be:=by cases p with|fin=>rfl|say a b cs=>simp[Pl.toD,cG,cO,jL Co]
theorem Zi_:cG (.tup [.str w,.int a,.int b,.tup [aY c]])=be:=by simp[cG,cO,Co]
end PM
set_option bootstrap.genMatcherCode true in
local macro_rules
 | `(tactic| ac_nf) => `(tactic| repeat' first | (with_reducible (show _ = _); first | assumption | apply PM.au | apply PM.aj | apply PM.cP | apply PM.bg | apply PM.aP | apply PM.aU | apply PM.pM | apply PM.pP | apply PM.lY | apply PM.mM | apply PM.kh | apply PM.Cj | apply PM.oh | apply PM.Ck | apply PM.mO | apply PM.pQ | apply PM.iA | apply PM.aX | apply PM.uY | apply PM.B9 | apply PM.K4 | apply PM.ia | apply PM.K9 | apply PM.si | apply PM.Ze_ | apply PM.gz | apply PM.oa | apply PM.jK | apply PM.gC | apply PM.iU | apply PM.og | apply PM.pS | exact PM.eq_int | exact PM.eq_str | exact PM.Kl | exact PM.Kk | exact PM.eN (by omega) 'a' (by first | omega | (simp <;> omega)) | exact PM.n5 (PM.B3 'a' 'a') | exact PM.l3 _ _ | exact PM.Zi_) | ((with_reducible first | show L2.bN _ _ = _ | show DL.ay _ _ = _); first | exact PM.cT | exact PM.c_ | exact PM.at2 | exact PM.iz) | ((with_reducible show _ = _); exact rfl) | ((with_reducible first | apply PM.Zg_); focus exact rfl) | ((with_reducible first | apply PM.Zf_ | apply PM.Zh_); focus exact rfl) | (with_reducible (show (_ : Prop)); first | apply PM.wx | apply PM.K6 | apply PM.K8 | apply PM.Ce | apply PM.aV | apply PM.aN | apply PM.dS | apply PM.dN | apply PM.uX | apply PM.Cc | apply PM.iS | apply PM.Cd) | ((with_reducible first | apply PM.df | apply PM.f9 | apply PM.yk | apply PM.c4 | apply PM.Cm | apply PM.ki | apply PM.Cn | apply PM.jJ | apply PM.KY); focus (ac_nf; done)) | ((with_reducible apply PM.eO); focus (ac_nf; done)) | ((with_reducible apply PM.dO); focus (ac_nf; done)) | ((with_reducible apply PM.K5); iterate 2 focus (ac_nf; done)) | ((with_reducible apply PM.Cf); iterate 2 focus (ac_nf; done)) | ((with_reducible apply PM.k8); iterate 3 focus (ac_nf; done)) | ((with_reducible apply PM.uZ); iterate 5 focus (ac_nf; done)) | ((with_reducible apply PM.Ci); iterate 4 focus (ac_nf; done)) | ((with_reducible show _ < PySem.sizeLine); exact PM.small (by first | omega | (simp [DL.cq] <;> omega))) | ((first | (with_reducible show _ <= _) | (with_reducible show _ < _)); first | omega | (simp <;> omega)) | ((with_reducible show (_ : Bool) = _); (simp <;> omega)))
namespace PM
open PySem L2 DL PT
theorem ym(xs:List D):∀(a i:Nat)(d:D),(iO a xs)[i]?=Z d->∃x,xs[i]?=Z x/\d=.tup [.int ((a+i:Nat):Int),x]:=by induction xs with|nil=>intro a i d h;injection h|cons x xs b=>intro a i d h;cases i with|zero=>(obtain rfl:=ao h);exact⟨x,W,W⟩|succ i=>obtain⟨y,c,e⟩:=b (a+1) i d h;exact⟨y,c,by rw[e,El,vB]⟩
def mQ(m a b:Int):Prop:=0<=a/\a<m/\0<=b/\b<m/\a≠b
theorem ck{y:Sd}(h:kg y)(a:0<=z/\z<N):sh N (y.1,y.2,z):=⟨h.1,h.2.1,h.2.2,a⟩
noncomputable def sy(u v:Int):Pl->Bool|.say a b _=>a==u&&b==v|.fin=>bi
def BK(k w:Nat)(l:List Pl):Prop:=(∀u v,l.countP (sy u v)<=k)/\(l.flatMap Pl.bo).length<=w
theorem BK.app{k:Nat}(h:BK k w l)(h':BK k' a b):BK (k+k') (w+a) (l++b):=⟨λu v=>by rw[Ox];exact Oy (h.1 u v) (h'.1 u v),by rw[vU,bB];exact Oy h.2 h'.2⟩
noncomputable def sj(c m:Int):Bool:=c%4==2&&decide (2<m)
theorem K_{n:Nat}(hn:1<=n)(c m:Int):Tab n .fA [.int c,.int m]=Z (.bl (sj c m)):=by obtain⟨k,rfl,a⟩:=cD (c:=0) hn;rw[tab];cases e:(c%4==2)<;>dsimp! [Ki,ia,eq_int,e,sj,-beq_iff_eq,-beq_eq_false_iff_ne]
def iV(c m:Int):Int:=if sj c m then 1 else 0
def iW(c:Int):Int:=1+mix c 9949 3
def mR(c:Int):Int:=if 0<mix c 9931 3 then 1 else 0
def cV(c m:Int):Int:=1+iW c*(m-2+iV c m)+mR c
theorem yn(c:Int):1<=iW c/\iW c<=3:=by have a:=gA (c:=c) (p:=9949) (m:=3) 'a';have b:=gB (c:=c) (p:=9949) (m:=3) 'a';unfold iW;lia
theorem Cp(c m:Int):0<=iV c m/\iV c m<=1:=by unfold iV;split<;>decide
theorem ZqO(c:Int):0<=mR c/\mR c<=1:=by unfold mR;split<;>lia
theorem ZqP{n:Nat}(hn:2<=n)(t:2<=m)(u:m<=4):Tab n .fB [.int c,.int m]=Z (.int (cV c m)):=by
 obtain⟨k,rfl,d⟩:=cD (c:=1) hn;have e:=K_ (n:=k) d c m;have f:=eN (n:=k) (by omega) (c:=c) (p:=9949) (m:=3) 'a' 'a';have g:=eN (n:=k) (by omega) (c:=c) (p:=9931) (m:=3) 'a' 'a';have v:=Cp c m;have hw:=yn c;have a:=K9 (i:=iW c) (j:=m-2+iV c m) 'd' 'd' 'd' 'd';have q:pk [.bl (sj c m)]=Z (.int (iV c m)):=rfl;have r:pk [.bl (decide (0<mix c 9931 3))]=Z (.int (mR c)):=by unfold mR;by_cases h:0<mix c 9931 3<;>simp[pk,k1,h]
 rw[tab];have b:iW c=1+mix c 9949 3:=rfl;rw[b]at a;dsimp! [Kj,e,f,g,q,r,a,cV,b]
theorem La{one:Int}(a:m=2\/m=3\/m=4)(b:0<=one)(c:one<m){k:Int}:mQ m one ((one+1+(k+q)%(m-1))%m):=by unfold mQ;rcases a with rfl|rfl|rfl<;>grind
theorem yo{s:Int}(b:m=3\/m=4)(c:0<=r/\r<m-1)(d:0<=s/\s<m-1)(h:r≠s):mQ m ((x+r)%m) ((x+s)%m):=by
 have a:0<m:=by lia
 refine⟨qJ _ 'd',qK _ a,qJ _ 'd',qK _ a,?_⟩;rcases b with rfl|rfl<;>lia
def cu(m:Int):Int->List Int->List Int|a,[]=>[a]|a,c::cs=>a::cu m (a+cV c m) cs
theorem Cq(a:m=2\/m=3\/m=4):1<=cV c m/\cV c m<=11:=by have b:=Cp c m;have hw:=yn c;have d:=ZqO c;unfold cV;have e:0<=iW c*(m-2+iV c m):=Zvv 'd' 'd';have f:iW c*(m-2+iV c m)<=3*3:=Int.mul_le_mul 'd' 'd' 'd' 'd';lia
theorem Lc{b:Type}(xs:List b)(a:b):bN (xs++[a]) (-1)=Z a:=by
 unfold bN iK;rw[if_neg 'a'];have e:(-1+(((xs++[a]).length:Nat):Int)).toNat=xs.length:=by rw[bB];simp;lia
 rw[if_pos (by rw[bB];simp;omega),bx,e];simp
theorem pV(m:Int):∀(cs:List Int)(a:Int),(cu m a cs).length=cs.length+1|[],_=>rfl|c::cs,a=>by simp only[cu,bh,pV m cs]
theorem Cr(d:m=2\/m=3\/m=4):∀(cs:List Int)(a:Int)(i:Nat)(x:Int),(cu m a cs)[i]?=Z x->a<=x/\x<=(cu m a cs).getLastD 0
 |[],a,i,x,h=>by cases i with
  |zero=>(obtain rfl:=ao h);simp[cu]|succ i=>simp[cu]at h
 |c::cs,a,i,x,h=>by
  have g:=Cq (c:=c) d;have b:(cu m a (c::cs)).getLastD 0=(cu m (a+cV c m) cs).getLastD 0:=by show(a::cu m (a+cV c m) cs).getLastD 0=_;cases e:cu m (a+cV c m) cs with|nil=>have:=pV m cs (a+cV c m);rw[e]at this;simp at this|cons y r=>simp
  rw[b];cases i with
  |zero=>
   (obtain rfl:=ao h);have f:(cu m (a+cV c m) cs)[0]?=Z (a+cV c m):=by cases cs<;>rfl
   have:=Cr d cs (a+cV c m) 0 _ f;lia
  |succ i=>have:=Cr d cs (a+cV c m) i x h;lia
theorem Ld:∀(cs:List Int)(a:Int)(i:Nat)(c:Int),cs[i]?=Z c->∃x,(cu m a cs)[i]?=Z x/\(cu m a cs)[i+1]?=Z (x+cV c m)|d::cs,a,0,c,h=>by (obtain rfl:=ao h);refine⟨a,W,?_⟩;show(cu m (a+cV d m) cs)[0]?=_;cases cs<;>rfl|d::cs,a,i+1,c,h=>Ld cs (a+cV d m) i c h
theorem Le:∀(cs:List Int)(a:Int),(cu m a cs)[cs.length]?=Z ((cu m a cs).getLastD 0)
 |[],a=>rfl|c::cs,a=>by
  have h:=Le (m:=m) cs (a+cV c m);have b:(cu m a (c::cs)).getLastD 0=(cu m (a+cV c m) cs).getLastD 0:=by show(a::cu m (a+cV c m) cs).getLastD 0=_;cases e:cu m (a+cV c m) cs with
   |nil=>have:=pV m cs (a+cV c m);rw[e]at this;simp at this|cons y r=>simp
  rw[b];exact h
theorem Lf(d:m=2\/m=3\/m=4):∀(cs:List Int)(a:Int),(cu m a cs).getLastD 0<=a+11*cs.length/\a<=(cu m a cs).getLastD 0
 |[],a=>by simp[cu]|c::cs,a=>by
  have f:=Cq (c:=c) d;have g:=Lf d cs (a+cV c m);have b:(cu m a (c::cs)).getLastD 0=(cu m (a+cV c m) cs).getLastD 0:=by show(a::cu m (a+cV c m) cs).getLastD 0=_;cases e:cu m (a+cV c m) cs with
   |nil=>have:=pV m cs (a+cV c m);rw[e]at this;simp at this|cons y r=>simp
  rw[b];simp only[bh];lia
theorem u0{xs:List Int}{i:Nat}{x:Int}(h:xs[i]?=Z x):bN (xs.map D.int) (i:Int)=Z (.int x):=by
 have a:i<xs.length:=(bF.mp h).1;rw[r8 (by rw[aE];exact a)];rw[cy a]at h
 (obtain rfl:=ao h);simp
theorem Lg:∀(cs:List Int)(a:Int),cu m a (cs++[c])=cu m a cs++[(cu m a cs).getLastD 0+cV c m]|[],a=>rfl|d::cs,a=>by show a::cu m (a+cV d m) (cs++[c])=_;rw[Lg cs];show _=a::(_++[(a::cu m (a+cV d m) cs).getLastD 0+cV c m]);cases e:cu m (a+cV d m) cs with|nil=>have:=pV m cs (a+cV d m);rw[e]at this;simp at this|cons y r=>simp
theorem ZoH{xs:List Int}(h:0<xs.length):bN (xs.map D.int) (-1)=Z (.int (xs.getLastD 0)):=by obtain⟨ys,y,rfl⟩:∃ys y,xs=ys++[y]:=⟨xs.dropLast,xs.getLast (by intro e;subst e;simp at h),(Zvw _).symm⟩;rw[bX];simpa using Lc (ys.map D.int) (D.int y)
theorem ZqQ{xs:List Int}{v:Int}(a:0<=v)(b:v<xs.length):bN (xs.map D.int) v=Z (.int (xs.getD v.toNat 0))/\xs[v.toNat]?=Z (xs.getD v.toNat 0):=by
 have h:xs[v.toNat]?=Z (xs.getD v.toNat 0):=by rw[ma,cy 'd'];rfl
 have:=u0 h;rw[ni a]at this;exact⟨this,h⟩
theorem BK.mono{k:Nat}(h:BK k w l)(a:k<=k')(b:w<=c):BK k' c l:=⟨λu v=>cv (h.1 u v) a,cv h.2 b⟩
end PM
namespace PM
open PySem L2 DL PT
def iX(ps:List Pl)(i:Int):List Int:=(aB ps i).bo.map (·.2.2)
noncomputable def Pl.iB:Pl->Bool|.fin=>bi|.say _ _ _=>be
def CW(N:Int)(c:Ch):Prop:=sh N c
structure GW(ps:List Pl):Prop where
 n1:1<=ps.length
 n2:ps.length<=130
 ok:∀p∈ps,p.bo.length<=5/\∀c∈p.bo,CW ps.length c
theorem mS(h:G2 m ps):GW ps:=⟨h.2.2.1,h.2.2.2.1,λp d=>by have:=h.2.2.2.2 p d;cases p with|fin=>exact⟨dQ _,λc e=>by cases e⟩|say a b cs=>exact⟨this.2.2.2.2.2.2.1,this.2.2.2.2.2.2.2.1⟩⟩
theorem oi{ps:List Pl}(h:GW ps)(i:Int):(aB ps i).bo.length<=5/\∀c∈(aB ps i).bo,CW ps.length c:=by cases e:ps[i.toNat]? with|none=>rw[show aB ps i=.fin by simp[aB,e]];exact⟨dQ _,λc a=>by cases a⟩|some p=>rw[show aB ps i=p by simp[aB,e]];exact h.ok p (cj e)
theorem Lh{ps:List Pl}(h:GW ps)(i:Int):∀y∈iX ps i,0<=y/\y<ps.length:=λy a=>by obtain⟨c,b,rfl⟩:=aL.mp a;exact((oi h i).2 c b).2.2.2
theorem yp{r:ar}(k:Q (.aF (r.set i (Z (.ow (Z []) []))))):Ev (rS i pC r) Q:=⟨_,by exact W,k⟩
theorem Li(p:Pl):bK 64 p.toD (.tup [.str "end"])=Z (.bl (match p with|.fin=>be|.say _ _ _=>bi)):=KO p
theorem ZqS(p:Pl):eB 64 p.toD (.tup [.str "end"])=Z (.bl p.iB):=by have h:=Li p;unfold bK at h;unfold eB;rw[bu]at h⊢;obtain⟨b,a,c⟩:=h;refine⟨b,a,?_⟩;cases p<;>cases c<;>rfl
theorem yq:∀{ks:List Key}{ds:List D},ks.length=ds.length->((atK ks ds j).isSome=be↔j∈ks)
 |[],[],_=>by simp[atK]|k::ks,d::ds,h=>by
  show((if k=j then Z d else atK ks ds j).isSome=be)↔_;by_cases e:k=j;·rw[if_pos e];simp[e]
  ·rw[if_neg e,yq (by simpa using h),a7];exact⟨.inr,λz=>z.resolve_left λq=>e q.symm⟩
theorem yr:∀{ks:List Key}{ds:List D},j∉ks->ks.length=ds.length->gy ks j=ks++[j]/\DL.gJ ks ds j d=ds++[d]|[],[],_,_=>⟨W,W⟩|k::ks,x::ds,a,h=>by have e:¬k=j:=λq=>a (by rw[q];exact bE);obtain⟨b,c⟩:=yr (d:=d) (ks:=ks) (ds:=ds) (λq=>a (cx _ q)) (by simpa using h);exact⟨by rw[gy,if_neg e,b];rfl,by rw[DL.gJ,if_neg e,c];rfl⟩
noncomputable def kx(a:Int×Nat):Key:=.inl a.1
noncomputable def kI(x:Int):Key:=.inl x
theorem Lj:∀l:List Int,h8 (l.map D.int)=be|[]=>rfl|_::l=>Lj l
theorem yt:∀K:Kd,gx K.toD=be
 |.none=>rfl|.num _ _=>rfl|.name ns=>by
  have:∀l:List Str,h8 (l.map D.str)=be:=λl=>by induction l with|nil=>rfl|cons x l c=>simp[h8,gx,c]
  simp[Kd.toD,gx,h8,this]|.pair a b=>by simp[Kd.toD,gx,h8,yt a,yt b]|.row a m=>by simp[Kd.toD,gx,h8,yt a]
theorem Lk{b:Type}{f:b->D}(h:∀a,gx (f a)=be):∀l:List b,h8 (l.map f)=be|[]=>rfl|a::l=>by simp[h8,h a,Lk h l]
theorem yu:nP (.tup xs) lo a=Z (.tup (bU xs lo a)):=by show(if HT.a5 xs.length 0 lo=0/\HT.a5 xs.length xs.length a=xs.length then Z (D.tup xs)else Z (D.tup (bU xs lo a)))=_;simp_all[bU]
theorem ZqT{a:Type}{xs:List a}{i:Int}(b:0<=i)(h:i<xs.length):bU xs am (Z i)=xs.take i.toNat:=by unfold bU;show(xs.drop 0).take ((if i<0 then _ else min i.toNat xs.length)-0)=_;grind
theorem ZqU{a:Type}{xs:List a}{i:Int}(b:0<=i)(h:i<=xs.length):bU xs (Z i) am=xs.drop i.toNat:=by unfold bU;show(xs.drop (if i<0 then _ else min i.toNat xs.length)).take (xs.length-(if i<0 then _ else min i.toNat xs.length))=_;simp_all[if_neg,min,zl,Dj,ba]
theorem ZlG{a:Type}{ys:List a}{y:a}:bU (ys++[y]) am (Z (-1))=ys:=by unfold bU;show((ys++[y]).drop 0).take (((-1:Int)+((ys++[y]).length:Int)).toNat-0)=_;rw[show((-1:Int)+((ys++[y]).length:Int)).toNat-0=ys.length by simp;grind];simp
theorem ZlH{a:Type}{ys:List a}{y:a}:bU (ys++[y]) (Z (-1)) am=[y]:=by unfold bU;show((ys++[y]).drop ((-1:Int)+((ys++[y]).length:Int)).toNat).take ((ys++[y]).length-((-1:Int)+((ys++[y]).length:Int)).toNat)=_;rw[show((-1:Int)+((ys++[y]).length:Int)).toNat=ys.length by simp;lia];simp
theorem Ll:∀{w:List Nat},1<=w.length->w.length<=3->(∀c∈w,c<=122)->¬w.take 2++[122]<w|[a],_,_,_=>by simp|[a,b],_,_,_=>by simp|[a,b,c],_,_,h=>by simp_all[List.cons_lt_cons_iff]
theorem ZsK:("z":Str).cps.toList=[122]:=by exact W
def k9(w:Str):Str:=⟨(bU w.cps.toList am (Z 2)).toArray⟩++"z"
theorem yv{w:Str}:(k9 w).cps.toList=w.cps.toList.take 2++[122]:=by
 have:bU w.cps.toList am (Z 2)=w.cps.toList.take 2:=by unfold bU;show(w.cps.toList.drop 0).take (min 2 w.cps.toList.length-0)=_;rw[Zux,Nat.sub_zero,List.take_eq_take_iff];simp
 show(((bU w.cps.toList am (Z 2)).toArray)++("z":Str).cps).toList=_;rw[Array.toList_append,this,ZsK]
theorem ZsL(h:iw (.str w)=be):iw (.str (k9 w))=be:=by
 simp only[iw,cJ,decide_eq_true_eq,g7]at h⊢;have b:(k9 w).length=(w.cps.toList.take 2++[122]).length:=by rw[<-yv];rfl
 refine⟨(by grind),λc a=>?_⟩;rw[yv]at a;rcases bQ.mp a with q|q;·grind
 ·rw[aZ.mp q];exact W
theorem ZqV(h:iw (.str w)=be)(a:bC v w=be):v≠k9 w:=λe=>by subst e;simp only[iw,cJ,decide_eq_true_eq,g7]at h;have a:(k9 w).cps.toList<w.cps.toList:=of_decide_eq_true a;rw[yv]at a;exact Ll (by rw[m5];exact h.1.1) (by rw[m5];exact h.1.2) (λc b=>by have:=h.2 c b;simp[n6]at this;exact this.2) a
theorem ZsM(h:iw (.str w)=be)(a:bC v w=be):bC v (k9 w)=be:=by
 rcases rq v (k9 w)with q|q|q;·exact q
 ·exact(ZqV h a q).elim
 ·have a:(k9 w).cps.toList<w.cps.toList:=of_decide_eq_true (nN q a);rw[yv]at a;simp only[iw,cJ,decide_eq_true_eq,g7]at h;exact(Ll (by rw[m5];exact h.1.1) (by rw[m5];exact h.1.2) (λc b=>by have:=h.2 c b;simp[n6]at this;exact this.2) a).elim
theorem ZqW{ps:List Pl}{k:Nat}{p c:Pl}(f:BK k w ps)(g:ps[i]?=Z p)(j:c.bo.length<=p.bo.length+1):BK (k+1) (w+1) (ps.take i++[c]++ps.drop (i+1)):=by
 obtain⟨h,e⟩:=bF.mp g;have a:ps=ps.take i++([p]++ps.drop (i+1)):=by
  conv=>lhs;rw[<-Em i ps,Dz h,e]
  rfl
 obtain⟨b,d⟩:=f;rw[a]at d;refine⟨λu v=>?_,?_⟩;·have b:=b u v;rw[a]at b;simp only[Ox]at b⊢;have:=Oz (p:=sy u v) (l:=[c]);simp only[vC]at this;grind
 ·simp only[vU,bB,qM,Zvx,eZ]at d⊢;lia
theorem ZlI{n:Nat}(hn:2<=n){ps:List Pl}(A:gK m ps){bk:Nat}(hB:BK bk bw ps)(c:Int):∃q,Tab n .fH [aJ m ps,.int c]=Z (aJ m q)/\gK m q/\BK (bk+1) (bw+1) q/\q.length=ps.length:=by
 obtain⟨k,rfl,hk⟩:=cD (c:=1) hn;have hW:=mS (uV A);have h60:=A.2.2.2.1;have hN:=hW.n1;suffices h:Ev (Tab (k+1) .fH [aJ m ps,.int c]) λd=>∃q,d=aJ m q/\gK m q/\BK (bk+1) (bw+1) q/\q.length=ps.length from by obtain⟨_,e,q,h,k⟩:=h;exact⟨q,h▸e,k⟩
 rw[tab];refine iT (np:=2) (n:=11) (gb:=BU (Tab k)) ?_;unfold BU;have L:0<m:=by have:=A.1;lia
 have hL:cA [.tup (ps.map Pl.toD)]=Z (.int (ps.length:Nat)):=by show Z (D.int ((ps.map Pl.toD).length:Nat))=_;rw[aE]
 have mx:∀p:Int,0<p->Tab k .fv [.int c,.int p,.int (ps.length:Nat)]=Z (.int (mix c p (ps.length:Nat)))/\0<=mix c p (ps.length:Nat)/\mix c p (ps.length:Nat)<ps.length:=λp hp=>⟨eN hk hp 'd',gA 'd',gB 'd'⟩;obtain⟨e1,M,N⟩:=mx 9857 'a';obtain⟨e2,b0,b1⟩:=mx 9851 'a';obtain⟨e3,d0,d1⟩:=mx 9833 'a';have e4:=eN hk (c:=c) (p:=9839) (m:=6) 'a' 'a';have f0:=gA (c:=c) (p:=9839) (m:=6) 'a';have f1:=gB (c:=c) (p:=9839) (m:=6) 'a';generalize mix c 9857 (ps.length:Nat)=i at e1 M N;generalize mix c 9851 (ps.length:Nat)=af at e2 b0 b1;generalize mix c 9833 (ps.length:Nat)=fr at e3 d0 d1;generalize mix c 9839 6=I at e4 f0 f1;have u2:=jk (m:=m) M N;have O:aB ps i∈ps:=cj (B_ M N);refine aV (Cf W W (aN (aV (df (cP (aP (aj W (aj W (aj (aP 'l' hL) W))) e1)) (aN (aV (df (cP (au W W (aX u2))) (aN (aV ?_)))))))));refine Ev.imp (P:=λo=>∃(a b:Int)(cs:List Ch)(G:Option SD),o=.aF [Z (.ak (aJ m ps)),Z (.ak (.int c)),Z (.ak (.int m)),Z (.ak 'e'),Z (.ak (.int i)),Z (.ak (Pl.say a b cs).toD),G,am,am,am,am]/\(Pl.say a b cs).OK m ps.length/\cs.length<=(aB ps i).bo.length+1) ?_ ?_
 ·refine c4 (aU (au W (bg 'l') (Li _))) ?_;cases hp:aB ps i with|fin=>
   refine eO W (aV (df (cP (aP (aj W (aj W (aj (aP 'l' hL) W))) e2)) (aN (df (cP (bg (aj W (aj (au W W (ia L)) (aj (au (au W W W) W (ia L)) (aj (bg (aj (bg (aj W (aj (bg 'l') 'l'))) W)) W)))))) ?_))));refine⟨c%m,(c+1)%m,[("z",.none,af)],_,W,?_,by simp[hp,Pl.bo]⟩;have hmm:=A.1;have hm4:=A.2.1;have J:m=2\/m=3\/m=4:=by lia
   refine⟨by rcases J with rfl|rfl|rfl<;>lia,by rcases J with rfl|rfl|rfl<;>lia,by rcases J with rfl|rfl|rfl<;>lia,by rcases J with rfl|rfl|rfl<;>lia,by rcases J with rfl|rfl|rfl<;>lia,by simp,by simp,λx H=>?_,W⟩;rw[aZ.mp H];exact⟨show iw (.str "z")=be by decide,trivial,dQ _,b0,b1⟩|say a b cs=>have:=A.2.2.2.2 _ O;rw[hp]at this;exact dO W (dN ⟨a,b,cs,_,W,this,by simp[hp,Pl.bo]⟩)
 rintro _ ⟨a,b,cs,G,rfl,⟨q1,q2,q3,q4,q5,l1,h5,Q,u⟩,T⟩;obtain⟨cs',j,rfl⟩:∃cs' j,cs=cs'++[j]:=⟨cs.dropLast,cs.getLast (λe=>by rw[e]at l1;cases l1),(Zvw _).symm⟩;rw[bB]at h5;simp only[bh,jP]at h5;have r:=Q j 'k';have U:∀x∈cs',sh ps.length x:=λx H=>Q x (by simp[H]);have hnd:=yf u;have Y:∀v∈cs'.map (·.1),bC v j.1=be:=λv hv=>by have:=sf u;rw[bX,OA]at this;exact this.2.2 v hv j.1 'k'
 have fin:∀(t:Pl)(G o7 o8 o9 B:Option SD),t.OK m ps.length->t.bo.length<=(aB ps i).bo.length+1->Ev (eD (aH (ai [aa 2,ae aQ (ae jh (jF (aa 3) eU (c6 (aa 4))) (aH (ai [aa 5]))) (jF (aa 3) (c6 (ae aQ (aa 4) 'c')) eU)])) [Z (.ak (aJ m ps)),Z (.ak (.int c)),Z (.ak (.int m)),Z (.ak 'e'),Z (.ak (.int i)),Z (.ak t.toD),G,o7,o8,o9,B]) (kR λd=>∃q,d=aJ m q/\gK m q/\BK (bk+1) (bw+1) q/\q.length=ps.length):=λt G o7 o8 o9 B g1 gc=>by
  have s1:nP 'e' am (Z i)=Z (.tup ((ps.take i.toNat).map Pl.toD)):=by rw[yu,ZqT M (by simpa using N),NV]
  have s2:nP 'e' (Z (i+1)) am=Z (.tup ((ps.drop (i+1).toNat).map Pl.toD)):=by rw[yu,ZqU 'd' (by simp;assumption),Zuv]
  have s3:jh (.tup ((ps.take i.toNat).map Pl.toD)) (.tup [t.toD])=Z (.tup ((ps.take i.toNat++[t]).map Pl.toD)):=by rw[B9 (by simp;omega),bX];rfl
  have s4:aQ (.tup ((ps.take i.toNat++[t]).map Pl.toD)) (.tup ((ps.drop (i+1).toNat).map Pl.toD))=Z (.tup ((ps.take i.toNat++[t]++ps.drop (i+1).toNat).map Pl.toD)):=by rw[ye 'k' (by simp;omega),<-bX]
  have hl:(ps.take i.toNat++[t]++ps.drop (i+1).toNat).length=ps.length:=by simp;lia
  refine jJ (bg (aj W (aj (au (au (pS W W (iU W) s1) (bg 'l') s3) (pS W (iU (au W W W)) W s2) s4) W))) (iS ⟨_,W,⟨A.1,A.2.1,by rw[hl];exact hN,by rw[hl];exact h60,λp hp=>?_⟩,?_,hl⟩)
  ·rw[hl];rcases bQ.mp hp with hp|hp
   ·rcases bQ.mp hp with hp|hp
    ·exact A.2.2.2.2 p (Zvq hp)
    ·rw[aZ.mp hp];exact g1
   ·exact A.2.2.2.2 p (Zvr hp)
  ·rw[show(i+1).toNat=i.toNat+1 by lia];exact ZqW hB (B_ M N) gc
 have fin2:=λt G o7 o8 o9 B (g:Pl.OK m ps.length t/\t.bo.length<=(aB ps i).bo.length+1)=>fin t G o7 o8 o9 B g.1 g.2;have F1:pa (.tup [.str "say",.int a,.int b,.tup ((cs'++[j]).map aY)]) am (Z 3)=Z (.tup [.str "say",.int a,.int b]):=rfl;have F3:bN ((cs'++[j]).map aY) (-1)=Z (aY j):=by rw[bX];exact Lc (cs'.map aY) (aY j)
 have F4:nP (.tup ((cs'++[j]).map aY)) am (Z (-1))=Z (.tup (cs'.map aY)):=by rw[yu,bX];exact congrArg (λl=>Z (D.tup l)) ZlG
 have F5:∀x:Ch,jh (.tup (cs'.map aY)) (.tup [aY x])=Z (.tup ((cs'++[x]).map aY)):=λx=>by rw[B9 (by simp;lia),bX];rfl
 have F6:∀l:List Ch,aQ (.tup [.str "say",.int a,.int b]) (.tup [.tup (l.map aY)])=Z (Pl.say a b l).toD:=λl=>ye (zj _ _) 'k';have F7:nP (.tup ((cs'++[j]).map aY)) (Z (-1)) am=Z (.tup [aY j]):=by rw[yu,bX];exact congrArg (λl=>Z (D.tup l)) ZlH
 have Zj_:cs'.length+1<=(aB ps i).bo.length+1:=by simpa using T
 have g5:∀x:Ch,sh ps.length x->x.1=j.1\/x.1=k9 j.1->(Pl.say a b (cs'++[x])).OK m ps.length/\(Pl.say a b (cs'++[x])).bo.length<=(aB ps i).bo.length+1:=λx H hw=>by
  refine⟨⟨q1,q2,q3,q4,q5,by simp,by simp;lia,λy hy=>?_,?_⟩,by simpa [Pl.bo]using Zj_⟩
  ·rcases bQ.mp hy with h|h
   ·exact U y h
   ·rw[aZ.mp h];exact H
  ·have hp:=sf u;rw[bX,OA]at hp;refine KL ?_;rw[bX,OA];refine⟨hp.1,by simp,λv hv w hw'=>?_⟩;have ew:w=x.1:=by simpa using hw'
   rw[ew];rcases hw with h|h
   ·rw[h];exact Y v hv
   ·rw[h];exact ZsM r.1 (Y v hv)
 refine aN (aV (df (cP (aP (aj W (aj W 'l')) e4)) (aN (aV (Cf (cP (au (au W W (aX iz)) W (aX F3))) W (aN ?_))))));have ht:I=0\/I=1\/I=2\/I=3\/I=4\/I=5:=by lia
 rcases ht with rfl|rfl|rfl|rfl|rfl|rfl
 ·refine aV (c4 (aU (au W W eq_int)) (eO W (aV (df (cP (aP (aj W (aj W (aj (aP 'l' hL) W))) e3)) (aN (df (cP (au (og W W (iU W) F1) (bg (aj (au (pS (au W W (aX iz)) W (iU W) F4) (bg (aj (bg (aj W (aj W 'l'))) W)) (F5 (j.1,j.2.1,fr))) W)) (F6 _))) (aN ?_)))))))
  iterate 5 refine aV (c4 (aU (au W W eq_int)) (dO W (dN (aN ?_))))
  exact fin2 _ _ _ _ _ _ (g5 (j.1,j.2.1,fr) ⟨r.1,r.2.1,r.2.2.1,d0,d1⟩ (.inl W))
 ·refine aV (c4 (aU (au W W eq_int)) (dO W (dN (aN ?_))));refine aV (c4 (aU (au W W eq_int)) (eO W (df (cP (bg (aj W (aj (au W W (aX at2)) (aj (au W W (aX c_)) (aj (au W W (aX iz)) W)))))) (aN ?_))))
  iterate 4 refine aV (c4 (aU (au W W eq_int)) (dO W (dN (aN ?_))))
  exact fin2 (.say b a (cs'++[j])) _ _ _ _ _ (by obtain⟨⟨a,b,c,d,e,f⟩,g⟩:=g5 j r (.inl W);exact⟨⟨c,d,a,b,b6 e,f⟩,g⟩)
 ·iterate 2 refine aV (c4 (aU (au W W eq_int)) (dO W (dN (aN ?_))))
  have Lm:(⟨(bU j.1.cps.toList am (Z 2)).toArray⟩:Str).length<=3:=by
   show(bU j.1.cps.toList am (Z 2)).toArray.size<=3;have:=AJ j.1.cps.toList am (Z 2);have J:j.1.cps.size<=3:=by have:=r.1;simp only[iw,cJ,decide_eq_true_eq]at this;exact this.1.2
   simp at this⊢;lia
  have hz:("z":Str).length=1:=by decide
  have Zk_:=B6 (x:=⟨(bU j.1.cps.toList am (Z 2)).toArray⟩) (y:="z") 'd';refine aV (c4 (aU (au W W eq_int)) (eO W (df (cP (au (og W W (iU W) F1) (bg (aj (au (pS (au W W (aX iz)) W (iU W) F4) (bg (aj (bg (aj (au (og W W (iU W) W) W Zk_) (aj W 'l'))) W)) (F5 ((⟨(bU j.1.cps.toList am (Z 2)).toArray⟩:Str)++"z",j.2.1,j.2.2))) W)) (F6 _))) (aN ?_))))
  iterate 3 refine aV (c4 (aU (au W W eq_int)) (dO W (dN (aN ?_))))
  exact fin2 (.say a b (cs'++[(k9 j.1,j.2.1,j.2.2)])) _ _ _ _ _ (g5 (k9 j.1,j.2.1,j.2.2) ⟨ZsL r.1,r.2⟩ (.inr W))
 ·iterate 3 refine aV (c4 (aU (au W W eq_int)) (dO W (dN (aN ?_))))
  refine aV (c4 (aU (au W W eq_int)) (eO W (df (cP (au (og W W (iU W) F1) (bg (aj (pS (au W W (aX iz)) (iU W) W F7) W)) (F6 [j]))) (aN ?_))))
  iterate 2 refine aV (c4 (aU (au W W eq_int)) (dO W (dN (aN ?_))))
  exact fin (.say a b [j]) _ _ _ _ _ ⟨q1,q2,q3,q4,q5,by simp,by simp,λx H=>by rw[aZ.mp H];exact r,W⟩ (by simp[Pl.bo])
 ·iterate 4 refine aV (c4 (aU (au W W eq_int)) (dO W (dN (aN ?_))))
  refine aV (c4 (aU (au W W eq_int)) (eO W (df (cP (bg 'l')) (aN ?_))));refine aV (c4 (aU (au W W eq_int)) (dO W (dN (aN ?_))));exact fin .fin _ _ _ _ _ trivial (by simp[Pl.bo])
 ·have C:fW (.int c) (.int 9)=Z (.int (c%9)):=ia 'a';have Ln:=F5 (j.1,.num 0 (c%9),j.2.2)
  iterate 5 refine aV (c4 (aU (au W W eq_int)) (dO W (dN (aN ?_))))
  have hw:(0:Int)<=c%9/\(-1000000:Int)<=0/\c%9<=1000000:=by lia
  have E:=fin2 (.say a b (cs'++[(j.1,.num 0 (c%9),j.2.2)])) (Z (.ak (.int j.2.2))) (Z (.ak (.int 5))) (Z (.ak (.str j.1))) (Z (.ak j.2.1.toD)) am (g5 (j.1,.num 0 (c%9),j.2.2) ⟨r.1,hw,dQ _,r.2.2.2⟩ (.inl W));have Lo:=F6 (cs'++[(j.1,.num 0 (c%9),j.2.2)]);generalize c%9=z at C Ln Lo E;refine aV (c4 (aU (au W W eq_int)) (eO W (df (cP (au (og W W (iU W) F1) (bg (aj (au (pS (au W W (aX iz)) W (iU W) F4) (bg (aj (bg (aj W (aj (bg (aj W (aj W (aj (au W W C) W)))) 'l'))) W)) Ln) W)) Lo)) (aN E))))
end PM
namespace PM
section
variable {α:Type}{nx:Int->List (α × Int)}{tu:Int->Bool}{ev:Int->Int->Bool}
def Sc(nx:Int->List (α×Int))(x y:Int):Prop:=∃w,(w,y)∈nx x
inductive Ah(nx:Int->List (α×Int))(tu:Int->Bool):Int->Prop|t {x:Int} (h:tu x=be):Ah nx tu x|s {x y:Int} (h:Sc nx x y) (k:Ah nx tu y):Ah nx tu x
inductive Cs(nx:Int->List (α×Int))(tu:Int->Bool)(p:Int):Int->Int->Prop|z:Cs nx tu p p p|l {x y x':Int} (h:Cs nx tu p x y) (a:Ah nx tu y) (b:Ah nx tu x) (n:tu x=bi) (s:Sc nx x x'):Cs nx tu p x' y|r {x y y':Int} (h:Cs nx tu p x y) (a:Ah nx tu y) (n:tu x=be\/¬Ah nx tu x) (m:tu y=bi) (s:Sc nx y y'):Cs nx tu p x y'|b {x y x' y':Int} {w:α} (h:Cs nx tu p x y) (n:tu x=be) (m:tu y=be) (s:(w,x')∈nx x) (t:(w,y')∈nx y):Cs nx tu p x' y'
inductive Sy(nx:Int->List (α×Int))(tu:Int->Bool)(p:Int):Int->Int->Prop|z:Sy nx tu p p p|l {x y x':Int} (h:Sy nx tu p x y) (n:tu x=bi) (s:Sc nx x x'):Sy nx tu p x' y|r {x y y':Int} (h:Sy nx tu p x y) (m:tu y=bi) (s:Sc nx y y'):Sy nx tu p x y'|b {x y x' y':Int} {w:α} (h:Sy nx tu p x y) (n:tu x=be) (m:tu y=be) (s:(w,x')∈nx x) (t:(w,y')∈nx y):Sy nx tu p x' y'
inductive Ep(nx:Int->List (α×Int))(tu:Int->Bool)(x:Int):Int->Prop|z:Ep nx tu x x|s {y z:Int} (h:Ep nx tu x y) (n:tu y=bi) (s:Sc nx y z):Ep nx tu x z
def Ft(nx:Int->List (α×Int))(tu:Int->Bool)(ev:Int->Int->Bool)(x y:Int):Prop:=tu y=be/\(¬Ah nx tu x\/tu x=be/\ev x y=bi)
theorem Ct(h:Ep nx tu x y)(a:Ah nx tu y):Ah nx tu x:=by induction h with|z=>exact a|s _ _ s b=>exact b (.s s a)
theorem Cu(c:Cs nx tu p x y)(a:Ah nx tu y)(e:Ep nx tu x z)(b:Ah nx tu z):Cs nx tu p z y:=by induction e with|z=>exact c|s e n s d=>exact .l (d (.s s b)) a (.s s b) n s
theorem Cw(c:Cs nx tu p x y)(n:tu x=be\/¬Ah nx tu x)(e:Ep nx tu y z)(b:Ah nx tu z):Cs nx tu p x z:=by induction e with|z=>exact c|s e m s a=>exact .r (a (.s s b)) (.s s b) n m s
theorem Zl_(c:Cs nx tu p x y)(a:Ah nx tu y)(e:Ep nx tu x z)(b:¬Ah nx tu z):∃d,Cs nx tu p d y/\¬Ah nx tu d:=by induction e with|z=>exact⟨_,c,b⟩|@s u v e n s f=>
  by_cases h:Ah nx tu u;·exact⟨v,.l (Cu c a e h) a h n s,b⟩
  ·exact f h
theorem ZoJ(hn:∀x y,Cs nx tu p x y->¬Ft nx tu ev x y)(h:Sy nx tu p x y):∃x0 e,Cs nx tu p x0 e/\Ep nx tu x0 x/\Ep nx tu e y:=by induction h with|z=>exact⟨p,p,.z,.z,.z⟩|l _ n s d=>refine cM d λx0 e c a b=>?_;clear d;exact⟨x0,e,c,.s a n s,b⟩|r _ m s d=>refine cM d λx0 e c a b=>?_;clear d;exact⟨x0,e,c,a,.s b m s⟩|b _ n m s t d=>refine cM d λx0 e c a b=>?_;clear d;have f:=Cu c (Ct b (.t m)) a (.t n);exact⟨_,_,.b (Cw f (.inl n) b (.t m)) n m s t,.z,.z⟩
theorem ZsN(hn:∀x y,Cs nx tu p x y->¬Ft nx tu ev x y)(h:Sy nx tu p x y):¬Ft nx tu ev x y:=by
 rintro⟨m,f⟩;refine cM (ZoJ hn h) λx0 e c a b=>?_;rcases f with f|⟨n,f⟩;·obtain⟨z,d,k⟩:=Zl_ c (Ct b (.t m)) a f;exact hn z y (Cw d (.inr k) b (.t m)) ⟨m,.inl k⟩
 ·exact hn x y (Cw (Cu c (Ct b (.t m)) a (.t n)) (.inl n) b (.t m)) ⟨m,.inr ⟨n,f⟩⟩
theorem Lp(h:Sy nx tu p q q)(c:Cs nx tu q x y):Sy nx tu p x y:=by induction c with|z=>exact h|l _ _ _ n s a=>exact .l a n s|r _ _ _ m s a=>exact .r a m s|b _ n m s t a=>exact .b a n m s t
end
end PM
namespace PM
open PySem L2 DL PT
def aS(ps:List Pl)(i:Int):List (Str×Int):=(aB ps i).bo.map λc=>(c.1,c.2.2)
def aA(ps:List Pl)(h:Int)(i:Int):Bool:=match aB ps i with|.say a b _=>a==h||b==h|.fin=>bi
noncomputable def iY(w:Str):List (Str×Int)->Option Int|[]=>am|c::cs=>match iY w cs with|some y=>Z y|none=>if c.1=w then Z c.2 else am
theorem u3:∀{cs:List (Str×Int)},iY w cs=Z y->(w,y)∈cs
 |c::cs,h=>by unfold iY at h;cases e:iY w cs with
  |some z=>rw[e]at h;(obtain rfl:=ao h);exact cx _ (u3 e)|none=>
   rw[e]at h;simp only at h;split at h;·rename_i q;(obtain rfl:=ao h);rw[<-q];exact bE
   ·injection h
theorem Lq:∀{cs:List (Str×Int)},(cs.map (·.1)).Nodup->(w,y)∈cs->iY w cs=Z y
 |c::cs,hn,h=>by
  rw[br,gf]at hn;unfold iY;rcases a7.mp h with e|e;·subst e;cases q:iY w cs with
   |some z=>exact(hn.1 (aL.mpr ⟨_,u3 q,W⟩)).elim|none=>simp
  ·rw[Lq hn.2 e]
def jM(ps:List Pl)(h:Int)(ah:Int->Bool)(x y:Int):List (Int×Int):=if ah y=bi then [] else if ah x=be/\aA ps h x=bi then(aS ps x).map λc=>(c.2,y) else if aA ps h y=bi then(aS ps y).map λc=>(x,c.2) else(aS ps x).filterMap λc=>(iY c.1 (aS ps y)).map λz=>(c.2,z)
section
variable {ps:List Pl}{h:Int}{ah:Int->Bool}{ev:Int->Int->Bool}{p:Int}
structure PL(ps:List Pl)(h:Int)(ah:Int->Bool)(p:Int)(L:List (Int×Int)):Prop where
 hd:(p,p)∈L
 rc:∀a∈L,Cs (aS ps) 'i' p a.1 a.2
 cl:∀a∈L,∀b∈jM ps h ah a.1 a.2,b∈L
theorem ZoK(j:∀x,ah x=be↔Ah (aS ps) 'i' x)(c:Cs (aS ps) 'i' p x y)(u:¬Ft (aS ps) 'i' ev x y):∀b∈jM ps h ah x y,Cs (aS ps) 'i' p b.1 b.2:=λb a=>by
 unfold jM at a;split at a;·cases a
 rename_i v;have m:Ah (aS ps) 'i' y:=(j y).mp (by simpa using v);split at a;·rename_i i;obtain⟨f,g,rfl⟩:=aL.mp a;exact .l c m ((j x).mp i.1) i.2 ⟨f.1,g⟩
 rename_i i;have t:aA ps h x=be\/¬Ah (aS ps) 'i' x:=by cases q:aA ps h x with|true=>exact .inl W|false=>exact .inr λz=>i ⟨(j x).mpr z,q⟩
 split at a;·rename_i d;obtain⟨f,g,rfl⟩:=aL.mp a;exact .r c m t d ⟨f.1,g⟩
 ·rename_i d;have d:aA ps h y=be:=by simpa using d
  obtain⟨f,g,e⟩:=qk.mp a;obtain⟨z,hz,rfl⟩:=bu.mp e;have A:aA ps h x=be:=t.resolve_right λz=>u ⟨d,.inl z⟩;exact .b (w:=f.1) c A d g (u3 hz)
theorem ZoL(d:∀x,ah x=be↔Ah (aS ps) 'i' x)(hw:∀i,((aS ps i).map (·.1)).Nodup)(P:PL ps h ah p L)(c:Cs (aS ps) 'i' p x y):(x,y)∈L:=by induction c with|z=>exact P.hd|@l x y g _ a b n s e=>obtain⟨w,s⟩:=s;refine P.cl _ e _ ?_;unfold jM;rw[if_neg (by simp[(d y).mpr a]),if_pos ⟨(d x).mpr b,n⟩];exact aL.mpr ⟨_,s,W⟩|@r x y f _ a n m s e=>obtain⟨w,s⟩:=s;refine P.cl _ e _ ?_;unfold jM;rw[if_neg (by simp[(d y).mpr a]),if_neg (λz=>n.elim (λq=>by rw[q]at z;cases z.2) λq=>q ((d x).mp z.1)),if_pos m];exact aL.mpr ⟨_,s,W⟩|@b x y g f w _ n m s t e=>refine P.cl _ e _ ?_;unfold jM;rw[if_neg (by simp[(d y).mpr (.t m)]),if_neg (λz=>by rw[n]at z;cases z.2),if_neg (by simp[m])];exact qk.mpr ⟨_,s,by rw[show iY w (aS ps y)=Z f from Lq (hw y) t];rfl⟩
theorem ZoM(b:∀x,ah x=be↔Ah (aS ps) 'i' x)(hw:∀i,((aS ps i).map (·.1)).Nodup)(P:PL ps h ah p L)(d:∀a∈L,¬Ft (aS ps) 'i' ev a.1 a.2):∀x y,Cs (aS ps) 'i' p x y->¬Ft (aS ps) 'i' ev x y:=λx y c=>d (x,y) (ZoL b hw P c)
end
section
variable {ps:List Pl}{os:List Int}
variable (cl:∀q∈os,∀y∈iX ps q,y∈os)
include cl
end
theorem Cy(ks:List Int)(j:Int):uN (.int j) (.lst (ks.map .int))=Z (.bl (!decide (j∈ks))):=by
 have b:((ks.map D.int).all jZ&&!hV (.int j))=be:=by rw[cJ,g7];exact⟨λd a=>by obtain⟨_,_,rfl⟩:=aL.mp a;rfl,W⟩
 show(if((ks.map D.int).all jZ&&!hV (.int j))=be then Z (D.bl (!((ks.map D.int).any λy=>eH y (.int j))))else am)=_;rw[if_pos b];congr 3;rw[jQ,vR,decide_eq_true_iff];constructor;·rintro⟨d,a,e⟩;obtain⟨i,c,rfl⟩:=aL.mp a;simp_all[eH]
 ·intro h;exact⟨.int j,aL.mpr ⟨j,h,W⟩,by simp[eH]⟩
theorem u4(ks:List Int):intsOf (ks.map D.int)=Z ks:=by induction ks with|nil=>rfl|cons k r a=>simp_all[intsOf]
theorem iZ(h:g a=Z (.ret d)):a8 g u a=Z (.ret d):=by simp[a8,h]
theorem oj(h:t a=Z be):bY t g u a=g a:=by simp[bY,h]
noncomputable def Cz(h:Int):Pl->Bool|.say a b _=>a==h||b==h|.fin=>bi
theorem u5:aA ps h i=Cz h (aB ps i):=by rfl
theorem pW{n:Nat}(hn:1<=n)(p:Pl)(h:Int):Tab n .fc [p.toD,.int h]=Z (.bl (Cz h p)):=by obtain⟨k,rfl,f⟩:=cD (c:=0) hn;have d:eB 64 p.toD mJ=Z (.bl p.iB):=ZqS p;rw[tab];cases p with|fin=>rfl|say a b cs=>simp only[Pl.toD]at d⊢;cases e:(a==h)<;>dsimp! [Ke,d,Pl.iB,Cz,eq_int,e,-beq_iff_eq,-beq_eq_false_iff_ne]
noncomputable def bZ(h a b:Int):D:=if(a==h)=be then .tup [.str "says",.int b]else .tup [.str "hears",.int a]
theorem CA{n:Nat}(hn:1<=n)(a b h:Int)(cs:List Ch):Tab n .fd [(Pl.say a b cs).toD,.int h]=Z (bZ h a b):=by obtain⟨k,rfl,e⟩:=cD (c:=0) hn;rw[tab];cases d:(a==h)<;>dsimp! [Kf,Pl.toD,eq_int,d,bZ,-beq_iff_eq,-beq_eq_false_iff_ne]
structure mT(cs:List Ch):Prop where
 le:cs.length<=5
 nd:(cs.map (·.1)).Nodup
 ok:∀c∈cs,iw (.str c.1)=be/\c.2.1.dp<=2
theorem om(h:(Pl.say a b cs).O2 m N):mT cs:=⟨h.2.2.2.2.2.2.1,h.2.2.2.2.2.2.2.2,λc d=>let q:=h.2.2.2.2.2.2.2.1 c d;⟨q.1,q.2.2.1⟩⟩
noncomputable def kW(c:Ch):Key:=.inr c.1
noncomputable def vW(c:Ch):D:=c.2.1.toD
noncomputable def nW(c:Ch):D:=.int c.2.2
theorem ZqY{cs:List Ch}:(.inr w:Key)∈cs.map kW↔w∈cs.map (·.1):=by simp[kW]
theorem Lr{g:Ch->D}{fv:ar->Option D}{cs:List Ch}(t:mT cs){pre:List (Option SD)}(u:pre.length=i){i1 i2 i3:Nat}{gb:ar->Option aK}{v:D->ar->Option ar}{post:Option SD->Option SD->Option SD->List (Option SD)}{Q:aK->Prop} (x:∀(c:Ch)(ks:List Key)(ds:List D)(h o2 m:Option SD),c∈cs->ks.length<=5->∃p,v (aY c) (pre++Z (.ow (Z ks) ds)::post h o2 m)=Z p/\Ev (gb p) (λo=>∃a b e,o=.aF (pre++Z (.ow (Z (gy ks (kW c))) (DL.gJ ks ds (kW c) (g c)))::post a b e))) (y:∀h o2 m,Q (.aF (pre++Z (.ow (Z (cs.map kW)) (cs.map g))::post h o2 m))) (h o2 m:Option SD):Ev (dq v gb (cs.map aY) (pre++Z (.ow (Z []) [])::post h o2 m)) Q:=by
 refine jl (λR (j:Nat) r=>∃a b e,r=pre++Z (.ow (Z ((cs.take j).map kW)) ((cs.take j).map g))::post a b e) ⟨_,_,_,W⟩ ?_ ?_
 ·rintro j d r w ⟨a,b,e,rfl⟩;rw[bW,bu]at w;obtain⟨c,f,rfl⟩:=w;have A:=cj f;obtain⟨p,B,C⟩:=x c ((cs.take j).map kW) ((cs.take j).map g) a b e A (by rw[aE,kv];have:=t.le;lia);refine⟨p,B,C.imp ?_⟩;rintro o ⟨E,G,H,rfl⟩;have q:kW c∉(cs.take j).map kW:=λz=>by have z:c.1∈(cs.take j).map (·.1):=ZqY.mp z;obtain⟨M,N⟩:=bF.mp f;rw[NV]at z;obtain⟨i,u,I⟩:=List.getElem_of_mem z;rw[kv,aE]at u;rw[List.getElem_take]at I;have:=(Ef (i:=i) (j:=j) (by grind) t.nd).mp (by grind);lia
  obtain⟨J,L⟩:=yr (d:=g c) q (show((cs.take j).map kW).length=((cs.take j).map g).length by simp);rw[J,L];refine dS ⟨E,G,H,?_⟩;rw[jv,f,bX,bX];rfl
 ·rintro r ⟨a,b,e,rfl⟩;rw[aE,jS];exact y a b e
theorem Ls{n:Nat}(hn:1<=n){cs:List Ch}(f:mT cs):Tab n .fe [(Pl.say a b cs).toD]=Z (.aW (cs.map kW) (cs.map vW)):=by
 obtain⟨k,rfl,j⟩:=cD (c:=0) hn;refine Ev.eq ?_;rw[tab];refine iT (np:=1) (n:=5) (gb:=BE (Tab k)) ?_;unfold BE;refine aV (yp (aN (aV (ki (by rfl) ?_))));refine Lr (g:=vW) f (pre:=[Z (.ak (Pl.say a b cs).toD)]) (i:=1) W (i1:=0) (i2:=0) (i3:=0) (fv:=λ_=>am) (post:=λd o2 e=>[d,o2,e]) (λc ks ds d o2 e m h=>?_) (λd o2 e=>?_) am am am;·exact⟨_,W,uZ W W W W (fo h) ⟨Z (.ak (.str c.1)),Z (.ak c.2.1.toD),Z (.ak (.int c.2.2)),W⟩⟩
 ·exact aN ⟨_,W,iS W⟩
def u6(c e a b:D)(s:Bool):Option D:=(eB 64 c e).bind λd=>match d with|.bl be=>Z (.bl bi)|.bl bi=>if s=be then uL 64 a b else(cf [am,Z 3,Z 4] (xF (aa 3)) (gN 0) (cB (ae iu (aa 0) (aa 2))) (ae (bK 64) (ae ir (aa 1) (aa 0)) (ae ir (aa 2) (aa 0))) [am,am,am,Z a,Z b]).bind λl=>o_ [l]|_=>am
theorem Lu{n:Nat}(hn:2<=n){cs cs':List Ch}(t:mT cs)(j:mT cs')(e:u6 (bZ h a b) (bZ h f g) (.aW (cs.map kW) (cs.map vW)) (.aW (cs'.map kW) (cs'.map vW)) (a==h)=Z (.bl r)):Tab n .ff [(Pl.say a b cs).toD,(Pl.say f g cs').toD,.int h]=Z (.bl r):=by
 obtain⟨k,rfl,i⟩:=cD (c:=1) hn;have u:=CA i a b h cs;have v:=CA i f g h cs';have k1:=Ls i (a:=a) (b:=b) t;have k2:=Ls i (a:=f) (b:=g) j;generalize D.aW (cs.map kW) (cs.map vW)=m at*;generalize D.aW (cs'.map kW) (cs'.map vW)=p at*;generalize bZ h a b=C at*;generalize bZ h f g=R2 at*;have w:ay (Pl.say a b cs).toD (.int 1)=Z (.int a):=aX c_;generalize(Pl.say a b cs).toD=x at*;generalize(Pl.say f g cs').toD=y at*;have z:x5 (Tab k) [Z x,Z y,Z (.int h),am,am]=Z (.ret (.bl r)):=by
  unfold x5;refine bS e λd A e=>?_;have t1:ae (eB 64) (ax (Tab k .fd) (ai [aa 0,aa 2])) (ax (Tab k .fd) (ai [aa 1,aa 2])) [Z x,Z y,Z (.int h),am,am]=Z d:=au (aP (aj W 'l') u) (aP (aj W 'l') v) A;split at e;·cases e;exact iZ (by rw[oj (aU t1)];rfl)
  ·rw[iy (ρ':=[Z x,Z y,Z (.int h),am,am]) (by rw[mK (aU t1)];rfl)];rw[iy (pJ (aP 'l' k1)),iy (pJ (aP 'l' k2))];show a8 _ _ [Z x,Z y,Z (.int h),Z m,Z p]=_;have t2:cB (ae (bK 64) (ae ay (aa 0) 'c') (aa 2)) [Z x,Z y,Z (.int h),Z m,Z p]=Z (a==h):=aU (au (au W W w) W eq_int);split at e;·rename_i q;rw[q]at t2;exact iZ (by rw[oj t2];exact n9 (au W W e))
   ·rename_i q;rw[jR.mpr q]at t2;rw[iy (ρ':=[Z x,Z y,Z (.int h),Z m,Z p]) (by rw[mK t2];rfl)];refine bS e λl B e=>?_;exact n9 (aP (aj B W) e)
  ·injection e
 rw[tab];show((x5 (Tab k) [Z x,Z y,Z (.int h),am,am]).bind _)=_;grind
theorem yw(h a b:Int):pT 64 (bZ h a b)=be:=by unfold bZ;split<;>rfl
theorem ZlJ(h a b h' c d:Int):∃r,eB 64 (bZ h a b) (bZ h' c d)=Z (.bl r):=by obtain⟨r,e,_⟩:=se 64 _ _ (yw h a b) (yw h' c d);exact⟨!r,by simp[eB,e]⟩
theorem Lv{K a:Kd}(h:K.dp<=2)(h':a.dp<=2):∃r,cX 64 K.toD a.toD=Z r:=by obtain⟨r,e,_⟩:=se 64 _ _ (pK K (by omega)) (pK a (by omega));exact⟨r,e⟩
theorem CB:∀{cs:List Ch},atK (cs.map kW) (cs.map vW) k=Z y->∃c∈cs,y=vW c
 |[],h=>by simp[atK]at h|c::cs,h=>by
  have h':(if kW c=k then Z (vW c)else atK (cs.map kW) (cs.map vW) k)=Z y:=h;split at h';·(obtain rfl:=ao h');exact⟨c,bE,W⟩
  ·obtain⟨d,a,e⟩:=CB (cs:=cs) h';exact⟨d,cx _ a,e⟩
theorem Lw{cs':List Ch}(h':∀c∈cs',c.2.1.dp<=2):∀{cs:List Ch},(∀c∈cs,c.2.1.dp<=2)->∃r,kY 64 (cs'.map kW) (cs'.map vW) (cs.map kW) (cs.map vW)=Z r|[],_=>⟨be,W⟩|c::cs,h=>by obtain⟨r,e⟩:=Lw (cs':=cs') h' (cs:=cs) (by grind);show ∃r,(match atK (cs'.map kW) (cs'.map vW) (kW c)with|none=>Z bi|some y=>(cX 64 (vW c) y).bind λe=>(kY 64 (cs'.map kW) (cs'.map vW) (cs.map kW) (cs.map vW)).map (e&& ·))=Z r;cases z:atK (cs'.map kW) (cs'.map vW) (kW c)with|none=>exact⟨bi,W⟩|some y=>obtain⟨d,a,rfl⟩:=CB (cs:=cs') z;obtain⟨q,b⟩:=Lv (h c bE) (h' d a);exact⟨q&&r,by simp only[e];rw[show cX 64 (vW c) (vW d)=Z q from b];rfl⟩
theorem Lx{C cs':List Ch}(h':∀c∈cs',c.2.1.dp<=2)(b:(C.map (·.1)).Nodup):∀(cs:List Ch)(o:Option D),(∀c∈cs,c∈C/\c.2.1.dp<=2)->∃bs:List Bool,bT (gN 0) (cB (ae iu (aa 0) (aa 2))) (ae (bK 64) (ae ir (aa 1) (aa 0)) (ae ir (aa 2) (aa 0))) [o,Z (.aW (C.map kW) (C.map vW)),Z (.aW (cs'.map kW) (cs'.map vW))] ((cs.map kW).map kD)=Z (bs.map D.bl)|[],_,_=>⟨[],W⟩|c::cs,o,h=>by obtain⟨bs,e⟩:=Lx (cs':=cs') h' b cs (Z (.str c.1)) (by grind);have a:iu (.str c.1) (.aW (cs'.map kW) (cs'.map vW))=Z (.bl (atK (cs'.map kW) (cs'.map vW) (kW c)).isSome):=rfl;show ∃bs:List Bool,bT _ _ _ _ (.str c.1::(cs.map kW).map kD)=Z (bs.map D.bl);cases z:atK (cs'.map kW) (cs'.map vW) (kW c)with
  |none=>rw[z]at a;refine⟨bs,?_⟩;have g:cB (ae iu (aa 0) (aa 2)) [Z (.str c.1),Z (.aW (C.map kW) (C.map vW)),Z (.aW (cs'.map kW) (cs'.map vW))]=Z bi:=aU (au W W a);simp only[bT,gN,qI,bx,g,ll,if_false];exact e|some y=>
   rw[z]at a;obtain⟨d,i,rfl⟩:=CB (cs:=cs') z;have j:atK (C.map kW) (C.map vW) (kW c)=Z (vW c):=by obtain⟨f,_⟩:=h c bE;clear e z a h;induction C with|nil=>cases f|cons x C p=>
     rw[br,gf]at b;show(if kW x=kW c then Z (vW x)else atK (C.map kW) (C.map vW) (kW c))=_;rcases a7.mp f with q|q;·simp_all
     ·rw[if_neg λz=>b.1 (by rw[show x.1=c.1 from vV z];grind)];grind
   obtain⟨q,m⟩:=Lv (h c bE).2 (h' d i);refine⟨q::bs,jK (ρ':=[Z (.str c.1),Z (.aW (C.map kW) (C.map vW)),Z (.aW (cs'.map kW) (cs'.map vW))]) W (aU (au W W a)) (au (au W W (oh W j)) (au W W (oh W z)) ?_) e⟩;show(cX 64 (vW c) (vW d)).map D.bl=_;rw[show cX 64 (vW c) (vW d)=Z q from m];rfl
theorem Zq1(h a b g i:Int){cs cs':List Ch}(f:mT cs)(d:mT cs'):∃r,u6 (bZ h a b) (bZ h g i) (.aW (cs.map kW) (cs.map vW)) (.aW (cs'.map kW) (cs'.map vW)) (a==h)=Z (.bl r):=by obtain⟨r,e⟩:=ZlJ h a b h g i;unfold u6;rw[e,bx];cases r with|true=>exact⟨bi,W⟩|false=>
  simp only;split;·obtain⟨r,e⟩:=Lw (cs':=cs') (λc q=>(d.ok c q).2) (cs:=cs) λc d=>(f.ok c d).2;show ∃r,(if(cs.map kW).length=(cs'.map kW).length then(kY 64 (cs'.map kW) (cs'.map vW) (cs.map kW) (cs.map vW)).map D.bl else Z (.bl bi))=Z (.bl r);grind
  ·obtain⟨bs,e⟩:=Lx (C:=cs) (cs':=cs') (λc q=>(d.ok c q).2) f.nd cs am λc j=>⟨j,(f.ok c j).2⟩;refine⟨bs.all id,?_⟩;rw[gz (by rfl) (small (by simp;have:=f.le;exact fo this)) e,bx];have:=all_map id bs;simpa using this
def oo(k:Nat)(h:Int)(p q:Pl):Bool:=decide (Tab k .ff [p.toD,q.toD,.int h]=Z (.bl be))
theorem Ly{k:Nat}{p q:Pl}(t:Tab k .ff [p.toD,q.toD,.int h]=Z (.bl r)):oo k h p q=r:=by simp_all[oo]
theorem Zq3{n:Nat}(hn:2<=n){p q:Pl}(c:p.O2 m N)(d:q.O2 m N)(sp:p.iB=be)(f:q.iB=be):Tab n .ff [p.toD,q.toD,.int h]=Z (.bl (oo n h p q)):=by cases p with|fin=>injection sp|say a b cs=>cases q with|fin=>injection f|say g i cs'=>obtain⟨r,e⟩:=Zq1 h a b g i (om c) (om d);have t:=Lu hn (om c) (om d) e;rw[Ly t,t]
theorem big{n:Nat}(h:n<=1000000):n<aD:=by show n<2^24;lia
section
variable {i:Nat}{r:ar}{Q:aK->Prop}{ds es:List D}{f:ag->Option D}{fi fo:ar->Option D}{x:D}{j:Int}
theorem Zq4(h:g (fz r)=Z ds)(hn:r.all mE=be)(k:Q (.aF (r.set i (Z (.xt .n ds))))):Ev (rY i g r) Q:=⟨_,by unfold rY;rw[h,bx,if_pos hn],k⟩
theorem Zq5(a:fi r=Z (.int j))(b:fo r=Z x)(c:r[i]?=Z (Z (.xt .n ds)))(d:0<=j)(e:ds[j.toNat]?=Z (.lst es))(g:es.length<aD)(k:Q (.aF (r.set i (Z (.xt .n (ds.set j.toNat (.lst (es++[x])))))))):Ev (xM i fi fo r) Q:=⟨_,by simp_all[xM,bx,if_pos],k⟩
theorem Zq6(a:h7 i r=Z ds)(b:f (fz r)=Z (.lst es))(c:ds.length+es.length<=aD)(d:cO es=be)(k:Q (.aF (r.set i (Z (.own (ds++es)))))):Ev (xN i f r) Q:=⟨_,by simp_all[xN,bx,if_pos],k⟩
end
theorem ZlK(l:List D):∀o:Option D,bT (gN 0) (λ_=>Z be) (cC (.lst [])) [o] l=Z (l.map λ_=>.lst []):=by induction l with|nil=>intro o;rfl|cons d l a=>intro o;exact jK (ρ':=[Z d]) W W W (a _)
theorem Lz{k:Nat}(d:1<=k){ps:List Pl}:∀(t a:Nat)(o:Option D),a+t=ps.length->∃T:List Int,bT (gN 0) (cB (ax (Tab k .fc) (ai [ae ay (aa 2) (aa 0),aa 1]))) (aa 0) [o,Z (.int h),Z 'e'] ((nj a t).map λ(i:Nat)=>D.int (i:Int))=Z (T.map .int)/\(∀x,x∈T↔(a:Int)<=x/\x<ps.length/\aA ps h x=be)/\T.length<=t
 |0,a,o,g=>⟨[],W,(by grind),ba _⟩|t+1,a,o,g=>by
  refine aM (Lz d (ps:=ps) (h:=h) t (a+1) (Z (.int (a:Int))) 'd') λT e j f=>?_;have c:=jk (m:=0) (ps:=ps) (i:=(a:Int)) 'k' 'd';have b:cB (ax (Tab k .fc) (ai [ae ay (aa 2) (aa 0),aa 1])) [Z (.int (a:Int)),Z (.int h),Z 'e']=Z (aA ps h a):=by rw[u5];exact aU (aP (aj (au W W (aX c)) 'l') (pW d _ _))
  rw[vS,br];cases z:aA ps h a with|true=>rw[z]at b;refine⟨(a:Int)::T,jK (ρ':=[Z (.int (a:Int)),Z (.int h),Z 'e']) W b W e,λx=>?_,Dx f⟩;grind|false=>
   rw[z]at b;refine⟨T,?_,λx=>?_,NS f⟩;·simp only[bT,gN,qI,bx,b,ll,if_false];exact e
   grind
noncomputable def pX(l:List Int):D:=.lst (l.map .int)
structure yx(ps:List Pl)(S:List (List Int))(P:Int->Int->Prop)(c:Nat):Prop where
 len:S.length=ps.length
 mem:∀(j:Nat)(l:List Int),S[j]?=Z l->∀x,x∈l↔P x (j:Int)
 le:∀(j:Nat)(l:List Int),S[j]?=Z l->l.length<=c
theorem ZoO{S:List (List Int)}{c:Nat}{j:Nat}(h:yx ps S P c)(b:S[j]?=Z l)(d:∀x y,g x y↔P x y\/x=i/\y=(j:Int)):yx ps (S.set j (l++[i])) g (c+1):=by
 have f:=(bF.mp b).1;refine⟨by rw[e_];exact h.len,λm p e x=>?_,λm p e=>?_⟩
 ·by_cases a:j=m
  ·subst a;rw[ij f]at e
   (obtain rfl:=ao e);rw[bQ,h.mem _ _ b,d,aZ];simp
  ·rw[dh a]at e;rw[h.mem _ _ e,d];grind
 ·by_cases a:j=m
  ·subst a;rw[ij f]at e
   (obtain rfl:=ao e);have:=h.le _ _ b;rw[bB];exact Oy this (ba _)
  ·rw[dh a]at e;exact NS (h.le _ _ e)
structure WT(ps:List Pl)(h:Int)(K ad:List Int):Prop where
 nd:K.Nodup
 kr:∀x∈K,0<=x/\x<ps.length
 wr:∀x∈ad,0<=x/\x<ps.length
 ka:∀x∈K,Ah (aS ps) 'i' x
 wa:∀x∈ad,Ah (aS ps) 'i' x
 tu:∀x:Int,0<=x->x<ps.length->aA ps h x=be->x∈K\/x∈ad
 cl:∀y∈K,∀x:Int,0<=x->x<ps.length->y∈iX ps x->x∈K\/x∈ad
theorem yy:Sc (aS ps) x y↔y∈iX ps x:=by
 constructor;·rintro⟨w,s⟩;obtain⟨c,a,e⟩:=aL.mp s;cases e;exact aL.mpr ⟨c,a,W⟩
 ·intro s;obtain⟨c,a,e⟩:=aL.mp s;exact⟨c.1,aL.mpr ⟨c,a,by rw[<-e]⟩⟩
theorem LA{x:Int}:Ah (aS ps) 'i' x↔Ah (aS ps) 'i' (x.toNat:Nat):=by
 have b:aS ps ((x.toNat:Nat):Int)=aS ps x:=by unfold aS aB;rw[l_]
 have c:aA ps h ((x.toNat:Nat):Int)=aA ps h x:=by unfold aA aB;rw[l_]
 constructor;·intro a;cases a with|t q=>exact .t (by rw[c];exact q)|s q k=>exact .s (by obtain⟨w,q⟩:=q;exact⟨w,by rw[b];exact q⟩) k
 ·intro a;cases a with|t q=>exact .t (by rw[<-c];exact q)|s q k=>exact .s (by obtain⟨w,q⟩:=q;exact⟨w,by rw[<-b];exact q⟩) k
theorem LB(f:GW ps)(w:WT ps h K []):∀x,decide (((x.toNat:Nat):Int)∈K)=be↔Ah (aS ps) 'i' x:=λx=>by
 rw[decide_eq_true_iff];constructor;·exactλq=>LA.mpr (w.ka _ q)
 ·intro a;have:∀x,Ah (aS ps) 'i' x->0<=x->x<ps.length->x∈K:=λx a=>by induction a with
   |t q=>exactλb c=>(w.tu _ b c q).resolve_right 'k'|@s u v q _ g=>intro b c;have q:=yy.mp q;have d:=Lh f u v q;exact(w.cl v (g d.1 d.2) u b c q).resolve_right 'k'
  refine this _ (LA.mp a) 'd' ?_;have i:x.toNat<ps.length:=by
   have:(aB ps x).iB=be:=by cases a with
    |t q=>unfold aA at q;cases e:aB ps x with|fin=>simp_all|say _ _ _=>rfl
    |s q k=>obtain⟨w,q⟩:=q;unfold aS at q;cases e:aB ps x with|fin=>rw[e]at q;cases q|say _ _ _=>rfl
   by_cases z:x.toNat<ps.length
   ·exact z
   ·rw[show aB ps x=.fin by unfold aB;rw[sZ 'd'];rfl]at this;injection this
  lia
theorem ZoP{n:Nat}(hn:2<=n){ps:List Pl}(hG:GW ps)(h:Int):∃K:List Int,Tab n .fg [.tup (ps.map Pl.toD),.int h]=Z (.aW (K.map kI) (K.map λ_=>.bl be))/\WT ps h K []:=by
 obtain⟨k,rfl,hk⟩:=cD (c:=1) hn;have U:=hG.n2;have hL:cA [.tup (ps.map Pl.toD)]=Z (.int (ps.length:Nat)):=by show Z (D.int ((ps.map Pl.toD).length:Nat))=_;rw[aE]
 suffices hh:Ev (Tab (k+1) .fg [.tup (ps.map Pl.toD),.int h]) λd=>∃K:List Int,d=.aW (K.map kI) (K.map λ_=>.bl be)/\WT ps h K [] from by obtain⟨_,e,K,h,k⟩:=hh;exact⟨K,h▸e,k⟩
 rw[tab];refine iT (np:=2) (n:=8) (gb:=BF (Tab k)) ?_;unfold BF;refine aV (Zq4 (oa (gC W W) (small (by grind)) (ZlK _ _)) W (aN (aV (ki (by rfl) ?_))));show Ev (dq _ _ _ [_,_,_,_,_,_,_,_]) _;refine jl (λR (i:Nat) r=>∃S E N u,r=[Z (.ak 'e'),Z (.ak (.int h)),Z (.xt .n (S.map pX)),E,N,u,am,am]/\yx ps S (λx y=>0<=x/\x<(i:Int)/\y∈iX ps x) (5*i)) ⟨ps.map λ_=>[],_,_,_,by rw[ej,ej];rfl,by rw[aE],λj l e x=>?_,λj l e=>?_⟩ ?_ ?_;·grind
 ·rw[bW,bu]at e;obtain⟨_,_,rfl⟩:=e;exact dQ _
 ·rintro i d r O ⟨S,E,N,u,rfl,a⟩;obtain⟨y,Q,rfl⟩:=ym _ _ _ _ O;rw[bW,bu]at Q;obtain⟨p,hp,rfl⟩:=Q;have hi:=(bF.mp hp).1;have Y:aB ps (i:Int)=p:=by unfold aB;rw[l_,hp];rfl
  have G:=oi hG (i:Int);have H:iX ps (i:Int)=(aB ps (i:Int)).bo.map λc:Ch=>c.2.2:=rfl;rw[Y]at G H;rw[md];refine⟨_,W,ki (gC (aP 'l' (KP hk p)) W) ?_⟩;generalize p.bo=cs at*;show Ev (dq _ _ _ [_,_,_,_,_,_,_,_]) _;refine jl (λR (t:Nat) r=>∃S u,r=[Z (.ak 'e'),Z (.ak (.int h)),Z (.xt .n (S.map pX)),Z (.ak (.int (i:Int))),Z (.ak p.toD),u,am,am]/\yx ps S (λx y=>0<=x/\x<(i:Int)/\y∈iX ps x\/x=i/\y∈(cs.take t).map λc:Ch=>c.2.2) (5*i+t)) ⟨S,_,W,a.len,λj l e x=>by rw[a.mem j l e];simp,a.le⟩ ?_ ?_
  ·rintro t d r O ⟨S,u,rfl,a⟩;rw[bW,bu]at O;obtain⟨c,hc,rfl⟩:=O;have CC:=cj hc;have I:=(G.2 c CC).2.2.2;have ht:=(bF.mp hc).1;obtain⟨l,v⟩:∃l,S[c.2.2.toNat]?=Z l:=⟨_,cy (by rw[a.len];lia)⟩;have hz:=a.le _ _ v;refine⟨_,W,Zq5 (es:=l.map .int) (cP (au W W (aX at2))) W W I.1 (by rw[bW,v];rfl) (small (by grind)) (dS ⟨S.set c.2.2.toNat (l++[(i:Int)]),Z (.ak (aY c)),?_,?_⟩)⟩;·simp[List.map_set,pX,set,bX]
   ·refine ZoO a v λx y=>?_;rw[jv,hc,bX,bQ];simp only[En,br,vu,aZ];rw[ni I.1];constructor
    ·rintro(q|⟨q,q'|q'⟩)
     ·exact .inl (.inl q)
     ·exact .inl (.inr ⟨q,q'⟩)
     ·exact .inr ⟨q,q'⟩
    ·rintro((q|q)|⟨q,q'⟩)
     ·exact .inl q
     ·exact .inr ⟨q.1,.inl q.2⟩
     ·exact .inr ⟨q,.inr q'⟩
  ·rintro r ⟨S,u,rfl,a⟩;rw[aE,jS,<-H]at a;refine dS ⟨S,_,_,_,W,a.len,λj l e x=>?_,λj l e=>?_⟩
   ·rw[a.mem j l e];grind
   ·have:=a.le j l e;grind
 ·rintro r ⟨S,E,N,u,rfl,a⟩;rw[pd,aE]at a;refine aM (Lz (k:=k) hk (ps:=ps) (h:=h) ps.length 0 am (by exact md _)) λT hT A hTl=>?_;rw[<-vT,<-pR]at hT;refine aN (aV (yp (aN (aV (f9 (pQ (oa (si (aP 'l' hL) 'k' 'd') (small (by rw[pR,aE,oH];exact fo U)) (by rw[l_];exact hT)) (jL (f:=D.int) (λ_=>rfl) T)) (aN (aV ?_)))))));show Ev (eE _ _ _ [_,_,_,_,_,_,_,_]) _;refine mP (λn r=>∃(K ad:List Int)(E:Option SD),r=[Z (.ak 'e'),Z (.ak (.int h)),Z (.xt .n (S.map pX)),E,N,u,Z (.ow (Z (K.map kI)) (K.map λ_=>.bl be)),Z (.own (ad.map .int))]/\WT ps h K ad/\ad.length+651*(ps.length-K.length)+1<=n/\n<=99999) ?_ ?_ 99999 _ ⟨[],T,_,W,⟨.nil,by simp,λx b=>let q:=(A x).mp b;⟨q.1,q.2.1⟩,by simp,λx b=>.t ((A x).mp b).2.2,λx g m q=>.inr ((A x).mpr ⟨g,m,q⟩),by simp⟩,by grind⟩
  ·simp
  rintro n r ⟨K,ad,E,rfl,w,hm,wR⟩;have hKl:=ya ps.length w.nd w.kr;rcases OB ad with rfl|⟨J,y,rfl⟩
  ·exact .inl ⟨(by rfl),aN ⟨_,W,iS ⟨K,W,w⟩⟩⟩
  refine .inr ⟨aU (au (aP 'l' W) W (by show Z (D.bl (decide _))=_;rw[decide_eq_true (by simp<;>omega)])),?_⟩;rw[OC]at w hm⊢;rw[bB]at hm;simp only[bh,jP]at hm;have B:=w.wr y 'k';have L:=w.wa y 'k';have hni:lR (.int y) (.aW (K.map kI) (K.map λ_=>.bl be))=Z (.bl (!decide (y∈K))):=by show Z (D.bl (!(atK (K.map kI) (K.map λ_=>.bl be) (.inl y)).isSome))=_;rw[show(atK (K.map kI) (K.map λ_=>D.bl be) (.inl y)).isSome=decide (y∈K) from jQ.mpr (((yq 'k').trans (by simp[kI])).trans decide_eq_true_iff.symm)]
  refine aV (yk (xs:=J.map .int) (x:=.int y) (by show Z _=_;rw[bX];rfl) (aN (Cm (Ck (aU (au W W hni))) ?_)));have rest:∀x,x∈J++[y]->x∈J\/x=y:=λx b=>by grind
  by_cases Q:y∈K
  ·refine dO (by grind) (dN (dS ⟨K,J,_,W,⟨w.nd,w.kr,λx b=>w.wr x (by simp[b]),w.ka,λx b=>w.wa x (by simp[b]),λx g m q=>?_,λz hz x g m q=>?_⟩,by lia⟩))
   ·rcases w.tu x g m q with z|z
    ·exact .inl z
    grind
   ·rcases w.cl z hz x g m q with z|z
    ·exact .inl z
    grind
  ·obtain⟨l,v⟩:∃l,S[y.toNat]?=Z l:=⟨_,cy (by rw[a.len];lia)⟩
   have C:∀x,x∈l↔0<=x/\x<(ps.length:Int)/\y∈iX ps x:=λx=>by have:=a.mem _ _ v x;grind
   have hz:=a.le _ _ v;have u2:bN (S.map pX) y=Z (pX l):=by have:=r8 (xs:=S.map pX) (i:=y.toNat) (by rw[aE,a.len];lia);rw[ni B.1]at this;rw[this,Zvp,(bF.mp v).2]
   obtain⟨p1,p2⟩:=yr (d:=.bl be) (j:=.inl y) (ks:=K.map kI) (ds:=K.map λ_=>.bl be) (λz=>by obtain⟨_,h,e⟩:=aL.mp z;exact Q (Zvy e▸h)) 'k';have M:(K++[y]).length<=ps.length:=ya ps.length (oP.mpr ⟨w.nd,by simp,(by grind)⟩) λx b=>by
    rcases bQ.mp b with q|q
    ·exact w.kr x q
    ·rw[aZ.mp q];exact B
   rw[bB]at M;simp only[bh,jP]at M;refine eO (by grind) (aV (uZ W W W W (by grind) (aN (Zq6 W (au W W (iA u2)) (du (big (by grind))) (jL (f:=D.int) (λ_=>rfl) l) (dS ⟨K++[y],J++l,_,by rw[p1,p2];simp only[bX];rfl,⟨?_,?_,?_,?_,?_,?_,?_⟩,?_⟩)))))
   ·exact oP.mpr ⟨w.nd,by simp,(by grind)⟩
   ·intro x b;rcases bQ.mp b with q|q
    ·exact w.kr x q
    ·rw[aZ.mp q];exact B
   ·intro x b;rcases bQ.mp b with q|q
    ·exact w.wr x (by simp[q])
    ·have:=(C x).mp q;exact⟨this.1,this.2.1⟩
   ·intro x b;rcases bQ.mp b with q|q
    ·exact w.ka x q
    ·rw[aZ.mp q];exact L
   ·intro x b;rcases bQ.mp b with q|q
    ·exact w.wa x (by simp[q])
    ·exact .s (yy.mpr ((C x).mp q).2.2) L
   ·intro x g m q;rcases w.tu x g m q with z|z
    ·exact .inl (by simp[z])
    grind
   ·intro z hz x g m q;rcases bQ.mp hz with hz|hz
    ·rcases w.cl z hz x g m q with z|z
     ·exact .inl (by simp[z])
     grind
    ·rw[aZ.mp hz]at q;exact .inr (dV _ ((C x).mpr ⟨g,m,q⟩))
   grind
noncomputable abbrev jn:=Int×Int
noncomputable def bH(a:jn):D:=.tup [.int a.1,.int a.2]
def dZ(K:List Int):D:=.aW (K.map kI) (K.map λ_=>.bl be)
theorem LC{K:List Int}:(atK (K.map kI) (K.map λ_=>D.bl be) (.inl x)).isSome=decide (x∈K):=jQ.mpr (((yq 'k').trans (by simp[kI])).trans decide_eq_true_iff.symm)
theorem ZsO:iu (.int x) (dZ K)=Z (.bl (decide (x∈K))):=by show Z (D.bl (atK (K.map kI) (K.map λ_=>.bl be) (.inl x)).isSome)=_;rw[LC]
theorem LD:lR (.int x) (dZ K)=Z (.bl (!decide (x∈K))):=by show Z (D.bl (!(atK (K.map kI) (K.map λ_=>.bl be) (.inl x)).isSome))=_;rw[LC]
def l4(k:Nat)(ps:List Pl)(h:Int)(K:List Int)(x y:Int):Bool:=aA ps h y&&(!decide (x∈K)||aA ps h x&&!oo k h (aB ps x) (aB ps y))
theorem u7(e:aA ps h x=be):(aB ps x).iB=be:=by unfold aA at e;cases z:aB ps x with|fin=>simp_all|say _ _ _=>rfl
theorem ZoQ{k:Nat}(i:2<=k){ps:List Pl}(v:G2 m ps){a:jn}(w:0<=a.1/\a.1<ps.length)(y:0<=a.2/\a.2<ps.length):∃d,Tab (k+1) .fi [.tup (ps.map Pl.toD),.int h,dZ K,bH a]=Z d/\(d=.aC/\l4 k ps h K a.1 a.2=bi\/(∃s,d=.str s)/\l4 k ps h K a.1 a.2=be):=by
 have B:=jk (m:=m) w.1 w.2;have C:=jk (m:=m) y.1 y.2;have t1:=pW (n:=k) (fu i) (aB ps a.1) h;have t2:=pW (n:=k) (fu i) (aB ps a.2) h;have ev:=λj p=>Zq3 (n:=k) i (h:=h) (mL v a.1) (mL v a.2) j p;have E:=LD (K:=K) (x:=a.1);rw[<-u5]at t1 t2;have j:=λe=>u7 (ps:=ps) (h:=h) (x:=a.1) e;have p:=λe=>u7 (ps:=ps) (h:=h) (x:=a.2) e;suffices r:∃d,x6 (Tab k) [Z 'e',Z (.int h),Z (dZ K),Z (bH a),am,am]=Z (.ret d)/\(d=.aC/\l4 k ps h K a.1 a.2=bi\/(∃s,d=.str s)/\l4 k ps h K a.1 a.2=be) by obtain⟨d,e,q⟩:=r;refine⟨d,?_,q⟩;rw[tab];show((x6 (Tab k) [Z 'e',Z (.int h),Z (dZ K),Z (bH a),am,am]).bind _)=_;grind
 unfold x6;rw[iy (pJ (au W (au W W (aX cT)) (aX B))),iy (pJ (au W (au W W (aX c_)) (aX C)))];unfold l4;generalize aB ps a.1=P at*;generalize aB ps a.2=Q at*;show ∃d,a8 _ _ [Z 'e',Z (.int h),Z (dZ K),Z (bH a),Z P.toD,Z Q.toD]=Z (.ret d)/\_;have c:gR (cB (ax (Tab k .fc) (ai [aa 5,aa 1]))) [Z 'e',Z (.int h),Z (dZ K),Z (bH a),Z P.toD,Z Q.toD]=Z (!aA ps h a.2):=mM (aU (aP (aj W 'l') t2));cases t:aA ps h a.2 with|false=>rw[t]at c;exact⟨.aC,iZ (by rw[oj c];rfl),.inl ⟨W,W⟩⟩|true=>rw[t]at c;rw[iy (ρ':=[Z 'e',Z (.int h),Z (dZ K),Z (bH a),Z P.toD,Z Q.toD]) (by rw[mK c];rfl)];have f:cB (ae lR (ae ay (aa 3) 'g') (aa 2)) [Z 'e',Z (.int h),Z (dZ K),Z (bH a),Z P.toD,Z Q.toD]=Z (!decide (a.1∈K)):=aU (au (au W W (aX cT)) W E);cases z:decide (a.1∈K)with|false=>rw[z]at f;exact⟨_,iZ (by rw[oj f];rfl),.inr ⟨⟨_,W⟩,W⟩⟩|true=>rw[z]at f;rw[iy (ρ':=[Z 'e',Z (.int h),Z (dZ K),Z (bH a),Z P.toD,Z Q.toD]) (by rw[mK f];rfl)];have b:cB (ax (Tab k .fc) (ai [aa 4,aa 1])) [Z 'e',Z (.int h),Z (dZ K),Z (bH a),Z P.toD,Z Q.toD]=Z (aA ps h a.1):=aU (aP (aj W 'l') t1);cases u:aA ps h a.1 with|false=>rw[u]at b;rw[iy (ρ':=[Z 'e',Z (.int h),Z (dZ K),Z (bH a),Z P.toD,Z Q.toD]) (by rw[mK (Cb b)];rfl)];exact⟨.aC,W,.inl ⟨W,W⟩⟩|true=>rw[u]at b;have ev:=ev (j u) (p t);have g:gR (cB (ax (Tab k .ff) (ai [aa 4,aa 5,aa 1]))) [Z 'e',Z (.int h),Z (dZ K),Z (bH a),Z P.toD,Z Q.toD]=Z (!oo k h P Q):=mM (aU (aP (by rfl) ev));cases A:oo k h P Q with|false=>rw[A]at g;exact⟨_,iZ (by rw[oj (yi b g)];rfl),.inr ⟨⟨_,W⟩,W⟩⟩|true=>rw[A]at g;rw[iy (ρ':=[Z 'e',Z (.int h),Z (dZ K),Z (bH a),Z P.toD,Z Q.toD]) (by rw[mK (yi b g)];rfl)];exact⟨.aC,W,.inl ⟨W,W⟩⟩
noncomputable abbrev So:=Option (Str×Kd)
noncomputable def pY:So->D|none=>.aC|some s=>.tup [.str s.1,s.2.toD]
noncomputable def pZ:So->Prop|none=>True|some s=>s.2.WF/\s.2.dp<=2
noncomputable abbrev p_:=jn×So×So
def u9(s:So×So):D:=.tup [pY s.1,pY s.2]
def mU(e:p_):D:=.tup [bH e.1,u9 e.2]
structure LF(L:List p_)(P:List jn):Prop where
 eq:L.map (·.1)=P
 le:L.length<=5
 ok:∀e∈L,pZ e.2.1/\pZ e.2.2
theorem LG:∀{cs:List Ch},(cs.map (·.1)).Nodup->atK (cs.map kW) (cs.map nW) (.inr w)=(iY w (cs.map λc:Ch=>(c.1,c.2.2))).map .int
 |[],_=>rfl|c::cs,hn=>by
  rw[br,gf]at hn;have f:=LG (w:=w) hn.2;show(if(.inr c.1:Key)=.inr w then Z (D.int c.2.2)else atK (cs.map kW) (cs.map nW) (.inr w))=(match iY w (cs.map λc:Ch=>(c.1,c.2.2))with|some y=>Z y|none=>if c.1=w then Z c.2.2 else am).map .int;by_cases e:c.1=w
  ·rw[if_pos (by rw[e])];have:iY w (cs.map λc:Ch=>(c.1,c.2.2))=am:=by cases z:iY w (cs.map λc:Ch=>(c.1,c.2.2))with
    |none=>rfl|some y=>have:=u3 z;obtain⟨d,a,b⟩:=aL.mp this;exact(hn.1 (aL.mpr ⟨d,a,by rw[e];exact(oN b).1⟩)).elim
   simp_all
  grind
def sk(cs':List Ch)(c:Ch):Option p_:=(iY c.1 (cs'.map λc:Ch=>(c.1,c.2.2))).map λz=>((c.2.2,z),Z (c.1,c.2.1),Z (c.1,c.2.1))
theorem LH{cs':List Ch}(hn:(cs'.map (·.1)).Nodup):∀(cs:List Ch)(b d o2:Option D),bT (j9 3 (cY (gN 0) (cY (gN 1) (cY (gN 2) (j8))))) (cB (ae iu (aa 0) (aa 3))) (aH (ai [aH (ai [aa 2,ae ir (aa 3) (aa 0)]),aH (ai [aH (ai [aa 0,aa 1]),aH (ai [aa 0,aa 1])])])) [b,d,o2,Z (.aW (cs'.map kW) (cs'.map nW))] (cs.map aY)=Z ((cs.filterMap (sk cs')).map mU)|[],_,_,_=>rfl|c::cs,b,d,o2=>by have f:=LH hn cs (Z (.str c.1)) (Z c.2.1.toD) (Z (.int c.2.2));have e:=LG (w:=c.1) hn;have a:iu (.str c.1) (.aW (cs'.map kW) (cs'.map nW))=Z (.bl (atK (cs'.map kW) (cs'.map nW) (.inr c.1)).isSome):=rfl;rw[e]at a;rw[yT,br];unfold sk;cases z:iY c.1 (cs'.map λc:Ch=>(c.1,c.2.2))with|none=>rw[z]at a;have g:cB (ae iu (aa 0) (aa 3)) [Z (.str c.1),Z c.2.1.toD,Z (.int c.2.2),Z (.aW (cs'.map kW) (cs'.map nW))]=Z bi:=aU (au W W a);have h:j9 3 (cY (gN 0) (cY (gN 1) (cY (gN 2) (j8)))) (aY c) [b,d,o2,Z (.aW (cs'.map kW) (cs'.map nW))]=Z [Z (.str c.1),Z c.2.1.toD,Z (.int c.2.2),Z (.aW (cs'.map kW) (cs'.map nW))]:=rfl;simp only[bT,h,bx,g,ll,if_false];exact f|some y=>rw[z]at a e;exact jK (ρ':=[Z (.str c.1),Z c.2.1.toD,Z (.int c.2.2),Z (.aW (cs'.map kW) (cs'.map nW))]) W (aU (au W W a)) (bg (aj (bg (aj W (aj (au W W (oh W e)) W))) (by rfl))) f
theorem ZlM(s:So):gx (pY s)=be:=by cases s with|none=>rfl|some s=>simp[pY,gx,h8,yt]
theorem ZlN(e:p_):gx (mU e)=be:=by simp[mU,u9,bH,gx,h8,ZlM]
theorem ZlO{n:Nat}(hn:1<=n){cs:List Ch}(m:mT cs)(d:mT cs'):Tab n .fk [(Pl.say a b cs).toD,(Pl.say h j cs').toD]=Z (.lst ((cs.filterMap (sk cs')).map mU)):=by
 obtain⟨k,rfl,q⟩:=cD (c:=0) hn;refine Ev.eq ?_;rw[tab];refine iT (np:=2) (n:=6) (gb:=BH (Tab k)) ?_;unfold BH;refine aV (yp (aN (aV (ki (by rfl) ?_))));refine Lr (g:=nW) d (pre:=[Z (.ak (Pl.say a b cs).toD),Z (.ak (Pl.say h j cs').toD)]) (i:=2) W (i1:=0) (i2:=0) (i3:=0) (fv:=λ_=>am) (post:=λe o2 f=>[e,o2,f]) (λc ks ds e o2 f r p=>?_) (λe o2 f=>?_) am am am;·exact⟨_,W,uZ W W W W (fo p) ⟨Z (.ak (.str c.1)),Z (.ak c.2.1.toD),Z (.ak (.int c.2.2)),W⟩⟩
 ·refine aN (Cn (Cj (gz (cap:=[am,am,am,Z 2]) (by rfl) (small (by rw[aE];have:=m.le;exact fo this)) (LH d.nd cs am am am)) ?_) (iS W));simp[gx,Lk ZlN]
noncomputable def qa(K:List Int)(x:Int):Bool:=decide (((x.toNat:Nat):Int)∈K)
theorem CD(h:0<=x):qa K x=decide (x∈K):=by unfold qa;rw[ni h]
theorem LI(a:Ah (aS ps) 'i' x):(aB ps x).iB=be:=by cases a with|t q=>exact u7 q|s q k=>obtain⟨w,q⟩:=q;unfold aS at q;cases e:aB ps x with|fin=>rw[e]at q;cases q|say _ _ _=>rfl
theorem qb{p:Pl}(h:p.iB=be):∃a b cs,p=.say a b cs:=by cases p with|fin=>injection h|say a b cs=>exact⟨a,b,cs,W⟩
theorem LJ(a:ay y (.int 1)=Z (.int b)):∀(cs:List Ch)(d e o2:Option D),bT (j9 3 (cY (gN 0) (cY (gN 1) (cY (gN 2) (j8))))) (λ_=>Z be) (aH (ai [aH (ai [aa 2,ae ay (aa 3) 'c']),aH (ai [aH (ai [aa 0,aa 1]),cC .aC])])) [d,e,o2,Z y] (cs.map aY)=Z ((cs.map λc=>(((c.2.2,b),Z (c.1,c.2.1),am):p_)).map mU)|[],_,_,_=>rfl|c::cs,d,e,o2=>jK (ρ':=[Z (.str c.1),Z c.2.1.toD,Z (.int c.2.2),Z y]) W W (bg (aj (bg (aj W (aj (au W W a) W))) (aj (bg (aj (bg (aj W 'l')) 'l')) W))) (LJ a cs _ _ _)
theorem LK(a:ay y (.int 0)=Z (.int b)):∀(cs:List Ch)(d e o2:Option D),bT (j9 3 (cY (gN 0) (cY (gN 1) (cY (gN 2) (j8))))) (λ_=>Z be) (aH (ai [aH (ai [ae ay (aa 3) 'g',aa 2]),aH (ai [cC .aC,aH (ai [aa 0,aa 1])])])) [d,e,o2,Z y] (cs.map aY)=Z ((cs.map λc=>(((b,c.2.2),am,Z (c.1,c.2.1)):p_)).map mU)|[],_,_,_=>rfl|c::cs,d,e,o2=>jK (ρ':=[Z (.str c.1),Z c.2.1.toD,Z (.int c.2.2),Z y]) W W (bg (aj (bg (aj (au W W a) 'l')) (aj (bg (aj W (aj (bg (aj W 'l')) W))) W))) (LK a cs _ _ _)
theorem ZoR{k:Nat}(N:1<=k){ps:List Pl}(M:G2 m ps)(w:WT ps h K []){a:jn}(B:0<=a.1/\a.1<ps.length)(C:0<=a.2/\a.2<ps.length)(t:l4 k' ps h K a.1 a.2=bi):∃L,Tab (k+1) .fj [.tup (ps.map Pl.toD),.int h,dZ K,bH a]=Z (.lst (L.map mU))/\LF L (jM ps h (qa K) a.1 a.2):=by
 have O:=jk (m:=m) B.1 B.2;have Q:=jk (m:=m) C.1 C.2;have t1:=pW (n:=k) (by omega) (aB ps a.1) h;have t2:=pW (n:=k) (by omega) (aB ps a.2) h;have b:=mL M a.1;have o2:=mL M a.2;rw[<-u5]at t1 t2;suffices E:∃L,x8 (Tab k) [Z 'e',Z (.int h),Z (dZ K),Z (bH a),am,am]=Z (.ret (.lst (L.map mU)))/\LF L (jM ps h (qa K) a.1 a.2) by obtain⟨d,e,q⟩:=E;refine⟨d,?_,q⟩;rw[tab];show((x8 (Tab k) [Z 'e',Z (.int h),Z (dZ K),Z (bH a),am,am]).bind _)=_;rw[e];rfl
 unfold x8;rw[iy (pJ (au W (au W W (aX cT)) (aX O))),iy (pJ (au W (au W W (aX c_)) (aX Q)))];show ∃L:List p_,a8 _ _ [Z 'e',Z (.int h),Z (dZ K),Z (bH a),Z (aB ps a.1).toD,Z (aB ps a.2).toD]=Z (.ret (.lst (L.map mU)))/\_;unfold jM;rw[CD B.1,CD C.1];have u:cB (ae lR (ae ay (aa 3) 'c') (aa 2)) [Z 'e',Z (.int h),Z (dZ K),Z (bH a),Z (aB ps a.1).toD,Z (aB ps a.2).toD]=Z (!decide (a.2∈K)):=aU (au (au W W (aX c_)) W LD);cases G:decide (a.2∈K)with|false=>rw[G]at u;exact⟨[],iZ (by rw[oj u];rfl),W,dQ _,by simp⟩|true=>
  rw[G]at u;rw[if_neg 'k'];have k2:=w.ka _ (of_decide_eq_true G);rw[iy (ρ':=[Z 'e',Z (.int h),Z (dZ K),Z (bH a),Z (aB ps a.1).toD,Z (aB ps a.2).toD]) (by rw[mK u];rfl)];have g:ez (cB (ae iu (ae ay (aa 3) 'g') (aa 2))) (gR (cB (ax (Tab k .fc) (ai [aa 4,aa 1])))) [Z 'e',Z (.int h),Z (dZ K),Z (bH a),Z (aB ps a.1).toD,Z (aB ps a.2).toD]=Z (decide (a.1∈K)&&!aA ps h a.1):=pM (aU (au (au W W (aX cT)) W ZsO)) (mM (aU (aP (aj W 'l') t1)));by_cases f:decide (a.1∈K)=be/\aA ps h a.1=bi;·rw[if_pos f];rw[f.1,f.2]at g;refine b_ (qb (LI (w.ka _ (of_decide_eq_true f.1)))) λx y cs i=>?_;unfold aS;rw[i]at b g⊢;refine⟨cs.map λc=>((c.2.2,a.2),Z (c.1,c.2.1),am),iZ (by rw[oj g];exact n9 (gz (cap:=[am,am,am,Z 3]) (gC (au W W (aX iz)) W) (small (by rw[aE];have:=b.2.2.2.2.2.2.1;exact fo this)) (LJ (aX c_) cs am am am))),by rw[ej];show _=Ot _ (cs.map _);rw[ej];rfl,by rw[aE];exact b.2.2.2.2.2.2.1,λe j=>?_⟩;obtain⟨c,p,rfl⟩:=aL.mp j;have:=b.2.2.2.2.2.2.2.1 c p;exact⟨⟨this.2.1,this.2.2.1⟩,trivial⟩
  ·rw[if_neg f];have H:(decide (a.1∈K)&&!aA ps h a.1)=bi:=by cases v:decide (a.1∈K)<;>cases I:aA ps h a.1<;>first|rfl|exact(f ⟨v,I⟩).elim
   rw[H]at g;rw[iy (ρ':=[Z 'e',Z (.int h),Z (dZ K),Z (bH a),Z (aB ps a.1).toD,Z (aB ps a.2).toD]) (by rw[mK g];rfl)];have r:gR (cB (ax (Tab k .fc) (ai [aa 5,aa 1]))) [Z 'e',Z (.int h),Z (dZ K),Z (bH a),Z (aB ps a.1).toD,Z (aB ps a.2).toD]=Z (!aA ps h a.2):=mM (aU (aP (aj W 'l') t2));cases A:aA ps h a.2 with|false=>rw[A]at r;rw[if_pos W];refine b_ (qb (LI k2)) λx y cs i=>?_;unfold aS;rw[i]at o2 r⊢;refine⟨cs.map λc=>((a.1,c.2.2),am,Z (c.1,c.2.1)),iZ (by rw[oj r];exact n9 (gz (cap:=[am,am,am,Z 3]) (gC (au W W (aX iz)) W) (small (by rw[aE];have:=o2.2.2.2.2.2.2.1;exact fo this)) (LK (aX cT) cs am am am))),by rw[ej];show _=Ot _ (cs.map _);rw[ej];rfl,by rw[aE];exact o2.2.2.2.2.2.2.1,λe j=>?_⟩;obtain⟨c,p,rfl⟩:=aL.mp j;have:=o2.2.2.2.2.2.2.2.1 c p;exact⟨trivial,⟨this.2.1,this.2.2.1⟩⟩|true=>
    rw[A]at r;rw[if_neg 'k'];rw[iy (ρ':=[Z 'e',Z (.int h),Z (dZ K),Z (bH a),Z (aB ps a.1).toD,Z (aB ps a.2).toD]) (by rw[mK r];rfl)];have T:aA ps h a.1=be:=by unfold l4 at t;rw[A]at t;cases v:decide (a.1∈K)with|false=>rw[v]at t;simp at t|true=>cases I:aA ps h a.1 with|true=>rfl|false=>exact(f ⟨v,I⟩).elim
    refine b_ (qb (u7 T)) λx y cs i=>?_;refine b_ (qb (u7 A)) λY y' cs' U=>?_;unfold aS;rw[i]at b⊢;rw[U]at o2⊢;have J:(cs.filterMap (sk cs')).length<=5:=cv (List.length_filterMap_le _ _) b.2.2.2.2.2.2.1;refine⟨cs.filterMap (sk cs'),n9 (aP (aj W 'l') (ZlO N (om b) (om o2))),?_,J,λe j=>?_⟩;·show _=List.filterMap _ (cs.map _);rw[List.map_filterMap,ZtO];congr 1;funext c;unfold sk;rw[Option.map_map];rfl
    ·obtain⟨c,p,q⟩:=qk.mp j;obtain⟨z,_,rfl⟩:=bu.mp q;have:=b.2.2.2.2.2.2.2.1 c p;exact⟨⟨this.2.1,this.2.2.1⟩,⟨this.2.1,this.2.2.1⟩⟩
noncomputable abbrev Ent:=jn×Option (jn×So×So)
def u_:Option (jn×So×So)->D|none=>.aC|some q=>.tup [bH q.1,u9 q.2]
def dg(E:List Ent):List D:=E.map λe=>bH e.1
def gL(E:List Ent):List D:=E.map λe=>u_ e.2
structure CM(E:List Ent):Prop where
 nd:(E.map (·.1)).Nodup
 hd:E[0]?=Z ((0,0),am)
 bk:∀(i:Nat)(e:Ent),E[i]?=Z e->0<i->∃q s,e.2=Z (q,s)/\pZ s.1/\pZ s.2/\∃(j:Nat)(e':Ent),j<i/\E[j]?=Z e'/\e'.1=q
theorem LL(h:bH a=bH b):a=b:=by obtain⟨c,d⟩:=a;obtain⟨b1,b2⟩:=b;simp[bH]at h;rw[h.1,h.2]
theorem LM{E:List Ent}:bH a∈dg E↔a∈E.map (·.1):=by
 unfold dg;constructor;·intro h;obtain⟨e,b,q⟩:=aL.mp h;exact aL.mpr ⟨e,b,LL q⟩
 ·intro h;obtain⟨e,b,rfl⟩:=aL.mp h;exact aL.mpr ⟨e,b,W⟩
theorem LN:∀{E:List Ent}{e:Ent},(E.map (·.1)).Nodup->e∈E->atT (dg E) (gL E) (bH e.1)=Z (u_ e.2)
 |[],_,_,h=>nomatch h|x::E,e,hn,h=>by
  rw[br,gf]at hn;show(if bH x.1=bH e.1 then Z (u_ x.2)else atT (dg E) (gL E) (bH e.1))=_;rcases a7.mp h with q|q;·rw[q,if_pos W]
  ·rw[if_neg λz=>hn.1 (by rw[LL z];exact aL.mpr ⟨e,q,W⟩)];exact LN hn.2 q
theorem LO(a:jn):h_ 8 (bH a)=be:=rfl
theorem ZoS(a:CM E)(h:e∈E):lS (.tab (dg E) (gL E)) (bH e.1)=Z (u_ e.2):=by show(if h_ 8 (bH e.1)=be/\(dg E).length=(gL E).length then atT (dg E) (gL E) (bH e.1)else am)=_;rw[if_pos ⟨LO _,by simp[dg,gL]⟩,LN a.nd h]
theorem ZlP{E:List Ent}:rW (bH a) (.tab (dg E) (gL E))=Z (.bl (!decide (a∈E.map (·.1)))):=by show(if h_ 8 (bH a)=be/\(dg E).length=(gL E).length then Z (D.bl (!decide (bH a∈dg E)))else am)=_;rw[if_pos ⟨LO _,by simp[dg,gL]⟩,decide_eq_decide.mpr LM]
section
variable {i:Nat}{r:ar}{Q:aK->Prop}{ks ds kk:List D}{fk fv:ag->Option D}{fi fo:ar->Option D}{d:D}
theorem Zm_(h:fk (pv r)=Z (.tup kk))(a:fv (pv r)=Z d)(b:h_ 8 (.tup kk)=be)(c:cG d=be)(hn:r.all mE=be)(k:Q (.aF (r.set i (Z (.xt (.t am [.tup kk]) [d]))))):Ev (xK i fk fv r) Q:=⟨_,by unfold xK xJ;rw[h,bx,a,bx,if_pos ⟨b,c⟩];show(if r.all mE=be then _ else _)=_;rw[if_pos hn],k⟩
theorem LP(a:fo r=Z d)(b:fi r=Z (.tup kk))(c:r[i]?=Z (Z (.xt (.t e ks) ds)))(f:h_ 8 (.tup kk)=be)(hn:.tup kk∉ks)(g:ks.length<aD)(k:Q (.aF (r.set i (Z (.xt (.t e (ks++[.tup kk])) (ds++[d])))))):Ev (uM i fi fo r) Q:=⟨_,by unfold uM;rw[a,bx,b,bx,c];simp only[if_pos (And.intro f (And.intro hn g))],k⟩
end
theorem LQ{n:Nat}(hn:4<=n){E:List Ent}(w:CM E)(N:E.length<=20000){i:Nat}(z:E[i]?=Z e){side:Int}(A:side=0\/side=1):∃ds,Tab n .fm [.tab (dg E) (gL E),bH e.1,.int side]=Z (.tup ds):=by
 obtain⟨k,rfl,O⟩:=cD (c:=3) hn;suffices B:Ev (Tab (k+1) .fm [.tab (dg E) (gL E),bH e.1,.int side]) λd=>∃ds,d=.tup ds from by obtain⟨_,e,ds,h⟩:=B;exact⟨ds,h▸e⟩
 rw[tab];refine iT (np:=3) (n:=5) (gb:=BI (Tab k)) ?_;unfold BI;refine aV (f9 (mO W) (aN (aV ?_)));show Ev (eE _ _ _ [_,_,_,_,_]) _;have C:=(bF.mp z).1;refine mP (λn r=>∃(i:Nat)(e:Ent)(ad:List D)(a:Option SD),r=[Z (.ak (.tab (dg E) (gL E))),Z (.ak (bH e.1)),Z (.ak (.int side)),Z (.own ad),a]/\E[i]?=Z e/\i+1<=n/\ad.length+n<=99999) ?_ ?_ 99999 _ ⟨i,e,[],_,W,z,by lia,by simp⟩;·rintro r ⟨i,e,ad,a,rfl,b,G,H⟩;lia
 rintro n r ⟨i,e,ad,a,rfl,b,G,H⟩;have f:=ZoS w (cj b);cases i with|zero=>
  rw[w.hd]at b
  (obtain rfl:=ao b);exact .inl ⟨aU (au (au W W f) W W),aN (jJ (show xP (aa 3) _=Z (.tup ad.reverse) from W) (iS ⟨_,W⟩))⟩|succ i=>
  refine cE (w.bk _ _ b 'd') λq s I J o2 g=>cM g λj L Q M x=>?_;clear g;subst x;rw[I]at f;refine .inr ⟨aU (au (au W W f) W W),?_⟩;obtain⟨u,y,m⟩:∃u,bN [pY s.1,pY s.2] side=Z (pY u)/\pZ u:=by
   rcases A with rfl|rfl;·exact⟨s.1,cT,J⟩
   ·exact⟨s.2,c_,o2⟩
  refine aV (df (cP (au (au (au W W f) W (aX c_)) W (aX y))) (aN (aV ?_)));have t:∀(v:List D)(a:Option SD),v.length<=ad.length+1->Ev (cg 1 (vH (ae ay (ae lS (aa 0) (aa 1)) 'g')) [Z (.ak (.tab (dg E) (gL E))),Z (.ak (bH e.1)),Z (.ak (.int side)),Z (.own v),a]) (kL (λr=>∃(i:Nat)(e:Ent)(ad:List D)(a:Option SD),r=[Z (.ak (.tab (dg E) (gL E))),Z (.ak (bH e.1)),Z (.ak (.int side)),Z (.own ad),a]/\E[i]?=Z e/\i+1<=n/\ad.length+n<=99999) (kS (eD (xP (aa 3))) (kR λd=>∃ds,d=.tup ds))):=λv a hw=>df (cP (au (au W W f) W (aX cT))) (dS ⟨j,L,v,a,W,M,by lia,by lia⟩);cases u with|none=>exact c4 (aU (au W W W)) (dO W (dN (aN (t ad _ (i7 _)))))|some p=>refine c4 (aU (au W W W)) (eO W (k8 W (cP (bg (aj (au W W (aX cT)) (aj (aP (aj (au W W (aX c_)) W) (ZZ p.2 (yc m.1) (by have:=m.2;lia))) W)))) (big 'd') (aN (t (ad++[_]) _ 'k'))))
def gX(k:Nat)(ps:List Pl)(h x y:Int):Bool:=aA ps h x&&aA ps h y&&oo k h (aB ps x) (aB ps y)
noncomputable abbrev kj(ps:List Pl)(h:Int):Int->Int->Prop:=Cs (aS ps) 'i' 0
noncomputable abbrev gE(k:Nat)(ps:List Pl)(h:Int):Int->Int->Prop:=Ft (aS ps) 'i' (gX k ps h)
theorem CF{k:Nat}(a:GW ps)(w:WT ps h K [])(b:0<=x):l4 k ps h K x y=be↔gE k ps h x y:=by have c:=LB a w x;rw[show decide (((x.toNat:Nat):Int)∈K)=decide (x∈K) from CD b]at c;unfold l4 gE Ft gX;grind
theorem ZlQ{N:Nat}{l:List jn}(hn:l.Nodup)(h:∀a∈l,(0<=a.1/\a.1<N)/\0<=a.2/\a.2<N):l.length<=N*N:=by
 have i:∀a b:jn,(0<=a.2/\a.2<(N:Int))->(0<=b.2/\b.2<(N:Int))->a.1*N+a.2=b.1*N+b.2->a=b:=λa b f j e=>by
  have m:(N:Int)≠0:=by lia
  have d:∀c:jn,0<=c.2/\c.2<(N:Int)->(c.1*N+c.2) / N=c.1:=λc g=>by rw[Int.add_comm,Int.add_mul_ediv_right _ _ m,Int.ediv_eq_zero_of_lt g.1 g.2,Ow]
  grind
 have p:(l.map λa=>a.1*(N:Int)+a.2).Nodup:=by unfold qN at hn⊢;rw[Ek];exact hn.imp_of_mem λ{a b} f j t e=>(by grind)
 have:=ya (N*N) p λx q=>by obtain⟨a,f,rfl⟩:=aL.mp q;obtain⟨⟨r,u⟩,b0,b1⟩:=h a f;have v:0<=a.1*(N:Int):=Zvv r 'd';have w:a.1*(N:Int)<=((N:Int)-1)*N:=Int.mul_le_mul_of_nonneg_right 'd' (by omega);grind
 rwa [aE]at this
structure RS(k:Nat)(ps:List Pl)(h:Int)(K:List Int)(E:List Ent)(l:Nat):Prop where
 cm:CM E
 rg:∀e∈E,(0<=e.1.1/\e.1.1<ps.length)/\0<=e.1.2/\e.1.2<ps.length
 rc:∀e∈E,kj ps h e.1.1 e.1.2
 nf:∀e∈E.take l,l4 k ps h K e.1.1 e.1.2=bi
 cl:∀e∈E.take l,∀b∈jM ps h (qa K) e.1.1 e.1.2,b∈E.map (·.1)
 le:l<=E.length
theorem LR{k:Nat}{ps:List Pl}{E:List Ent}(s:RS k ps h K E l):E.length<=ps.length*ps.length:=by
 have:=ZlQ (N:=ps.length) s.cm.nd λa b=>by obtain⟨e,c,rfl⟩:=aL.mp b;exact s.rg e c
 rwa [aE]at this
theorem ZoT{m:Int}{ps:List Pl}(p:GW ps){ah:Int->Bool}{a:jn}(r:0<=a.1/\a.1<(ps.length:Int))(t:0<=a.2/\a.2<(ps.length:Int)):∀b∈jM ps h ah a.1 a.2,(0<=b.1/\b.1<(ps.length:Int))/\0<=b.2/\b.2<(ps.length:Int):=λb f=>by
 have j:∀{i:Int}{c:Str×Int},c∈aS ps i->0<=c.2/\c.2<(ps.length:Int):=λ{i c} g=>by obtain⟨d,q,rfl⟩:=aL.mp g;exact Lh p i d.2.2 (aL.mpr ⟨d,q,W⟩)
 unfold jM at f;split at f;·cases f
 split at f;·grind
 split at f;·grind
 ·obtain⟨c,g,e⟩:=qk.mp f;obtain⟨z,hz,rfl⟩:=bu.mp e;exact⟨j g,j (u3 hz)⟩
theorem Zra{E:List Ent}(h:CM E){i:Nat}(r:E[i]?=Z e)(u:a∉E.map (·.1))(v:pZ s.1)(w:pZ s.2):CM (E++[(a,Z (e.1,s))]):=by
 have y:=(bF.mp r).1;refine⟨?_,by rw[iF (fu y)];exact h.hd,λj x d A=>?_⟩;·rw[bX];exact oP.mpr ⟨h.nd,by simp,λb p c B q=>by rw[q,aZ.mp B]at p;exact u p⟩
 ·by_cases g:j<E.length;·rw[iF g]at d;refine cE (h.bk j x d A) λq t C G o2 f=>cM f λH I m L J=>?_;clear f;exact⟨q,t,C,G,o2,H,I,m,by grind,J⟩
  ·rw[m8 'd']at d;have:j-E.length=0:=by cases q:j-E.length with|zero=>rfl|succ z=>simp_all
   rw[this]at d
   (obtain rfl:=ao d);exact⟨e.1,s,W,v,w,i,e,by lia,by grind,W⟩
theorem Zn_(a:jn):cG (bH a)=be:=rfl
theorem LS{k:Nat}(hk:3<=k)(hG:G2 m ps)(h:Int):∃d,Tab (k+2) .fh [aJ m ps,.int h]=Z d/\(d=.aC/\(∀x y,kj ps h x y->¬gE k ps h x y)\/(∃xs,d=.tup xs)/\∃x y,kj ps h x y/\gE k ps h x y):=by
 have A:=mS hG;have J:=A.n2;have hN:=A.n1;have hsq:ps.length*ps.length<=16900:=Eo J J;obtain⟨K,hK,w⟩:=ZoP (n:=k+1) 'd' A h;have ha:=LB A w;have M:RS k ps h K [((0,0),am)] 0:=by
  refine⟨⟨by simp,W,λi e q hi=>?_⟩,λe f=>?_,λe f=>?_,by simp,by simp,dQ _⟩;·cases i with|zero=>lia|succ i=>simp at q
  ·rw[aZ.mp f];exact⟨⟨zm _,by show(0:Int)<_;lia⟩,zm _,by show(0:Int)<_;omega⟩
  ·rw[aZ.mp f];exact .z
 show Ev _ _;rw[tab];refine iT (np:=2) (n:=11) (gb:=BG (Tab (k+1))) ?_;unfold BG;refine aV (df (cP (au W W (aX c_))) (aN (aV (df (cP (aP (aj W 'l') hK)) (aN (aV (Zm_ (bg (aj W 'l')) W W W W (aN (aV (f9 (mO (aj (bg (aj W 'l')) W)) (aN (aV (df W (aN (aV ?_)))))))))))))));show Ev (eE _ _ _ [_,_,_,_,_,_,_,_,_,_,_]) _;refine mP (λn r=>∃(E:List Ent)(l:Nat)(o7 o8 C j:Option SD),r=[Z (.ak (aJ m ps)),Z (.ak (.int h)),Z (.ak 'e'),Z (.ak (dZ K)),Z (.xt (.t am (dg E)) (gL E)),Z (.own (dg E)),Z (.ak (.int (l:Int))),o7,o8,C,j]/\RS k ps h K E l/\16901<=l+n) ?_ ?_ 99999 _ ⟨[((0,0),am)],0,_,_,_,_,W,M,by lia⟩;·rintro r ⟨E,l,o7,o8,C,j,rfl,s,G⟩;have:=LR s;have:=s.le;lia
 rintro n r ⟨E,l,o7,o8,C,j,rfl,s,G⟩;have hEl:=LR s;have hlen:cA [.lst (dg E)]=Z (.int (E.length:Nat)):=by show Z (D.int ((dg E).length:Nat))=_;rw[show(dg E).length=E.length from aE ..]
 by_cases H:l<E.length
 ·refine .inr ⟨aU (au W (aP 'l' hlen) (by show Z (D.bl (decide _))=_;rw[decide_eq_true 'd'])),?_⟩;obtain⟨e,f⟩:∃e,E[l]?=Z e:=⟨_,cy H⟩;have I:=cj f;have u2:bN (dg E) (l:Int)=Z (bH e.1):=by rw[r8 (by rw[show(dg E).length=E.length from aE ..];exact H)];have:=(bF.mp f).2;simp[dg,this]
  obtain⟨N,g2⟩:=s.rg e I;obtain⟨d,hd,hf⟩:=ZoQ (k:=k) (fu hk) hG (h:=h) (K:=K) N g2;refine aV (df (kh (au W W (iA u2)) (Zn_ _)) (aN (aV (df (cP (aP (aj W (aj W (aj W 'l'))) hd)) (aN (aV ?_))))));rcases hf with⟨rfl,hf⟩|⟨⟨str,rfl⟩,hf⟩
  ·refine c4 (aU (au W W W)) (dO W (dN (aN (aV ?_))));obtain⟨L,hL,O⟩:=ZoR (k:=k) (fu hk) hG w N g2 hf;refine ki (gC (aP (aj W (aj W (aj W 'l'))) hL) W) ?_;have nfp:¬gE k ps h e.1.1 e.1.2:=λz=>by rw[(CF A w N.1).mpr z]at hf;injection hf
   have scs:=ZoK (ev:=gX k ps h) ha (s.rc e I) nfp;have srg:=ZoT (m:=m) A (h:=h) (ah:=qa K) N g2;show Ev (dq _ _ _ [_,_,_,_,_,_,_,_,_,_,_]) _;refine jl (λR (t:Nat) r=>∃(X:List Ent)(C j:Option SD),r=[Z (.ak (aJ m ps)),Z (.ak (.int h)),Z (.ak 'e'),Z (.ak (dZ K)),Z (.xt (.t am (dg (E++X))) (gL (E++X))),Z (.own (dg (E++X))),Z (.ak (.int (l:Int))),Z (.ak (bH e.1)),Z (.ak .aC),C,j]/\CM (E++X)/\(∀x∈X,((0<=x.1.1/\x.1.1<(ps.length:Int))/\0<=x.1.2/\x.1.2<(ps.length:Int))/\kj ps h x.1.1 x.1.2)/\(∀x∈L.take t,x.1∈(E++X).map (·.1))/\X.length<=t) ⟨[],_,_,by first|(rw[eZ];done)|(rw[eZ];rfl),by rw[eZ];exact s.cm,by simp,by simp,dQ _⟩ ?_ ?_
   ·rintro t d r Q ⟨X,C,j,rfl,c,T,U,q3⟩;rw[bW,bu]at Q;obtain⟨st,p,rfl⟩:=Q;have u:=cj p;have B:st.1∈jM ps h (qa K) e.1.1 e.1.2:=by rw[<-O.eq];exact aL.mpr ⟨st,u,W⟩
    have htl:=(bF.mp p).1;have hL5:=O.le;refine⟨_,W,c4 (aU (au W W ZlP)) ?_⟩;by_cases v:st.1∈(E++X).map (·.1)
    ·refine dO (by simpa using v) (dN (dS ⟨X,_,_,W,c,T,λx g=>?_,by lia⟩));rw[jv,p]at g;rcases bQ.mp g with z|z
     ·exact U x z
     ·have:x=st:=by simpa using z
      rw[this];exact v
    ·have hl2:(E++X).length<=16905:=by rw[bB];lia
     have hkl:(dg (E++X)).length=(E++X).length:=aE ..;have eK:dg (E++X)++[bH st.1]=dg (E++(X++[(st.1,Z (e.1,st.2))])):=by simp[dg]
     have eV:gL (E++X)++[.tup [bH e.1,u9 st.2]]=gL (E++(X++[(st.1,Z (e.1,st.2))])):=by simp[gL,u_]
     refine eO (by simpa using v) (aV (LP (kk:=[.int st.1.1,.int st.1.2]) (cP (bg (aj W 'l'))) W W W (λz=>v (LM.mp z)) (big 'd') (aN (k8 W W (big (by omega)) (dS ⟨X++[(st.1,Z (e.1,st.2))],Z (.ak (bH st.1)),Z (.ak (u9 st.2)),?_,?_,λx g=>?_,λx g=>?_,by simp<;>omega⟩)))))
     ·rw[<-eK,<-eV];rfl
     ·rw[<-ju];exact Zra c (by rw[iF H];exact f) v (O.ok st u).1 (O.ok st u).2
     ·rcases bQ.mp g with z|z
      ·exact T x z
      ·rw[aZ.mp z];exact⟨srg st.1 B,scs st.1 B⟩
     ·rw[<-ju,bX];rw[jv,p]at g;rcases bQ.mp g with z|z
      ·exact d_ _ (U x z)
      ·have:x=st:=by simpa using z
       rw[this];exact dV _ 'k'
   ·rintro r ⟨X,C,j,rfl,c,T,U,q3⟩;rw[aE,jS]at U;have Y:(E++X).take (l+1)=E.take l++[e]:=by rw[List.take_append_of_le_length (by assumption),jv,f];rfl
    refine aN (K5 W W (dS ⟨E++X,l+1,_,_,_,_,W,⟨c,λx g=>?_,λx g=>?_,λx g=>?_,λx g b B=>?_,by rw[bB];lia⟩,by lia⟩))
    ·exact(bQ.mp g).elim (s.rg x) λz=>(T x z).1
    ·exact(bQ.mp g).elim (s.rc x) λz=>(T x z).2
    ·rw[Y]at g;rcases bQ.mp g with z|z
     ·exact s.nf x z
     ·rw[aZ.mp z];exact hf
    ·rw[Y]at g;rcases bQ.mp g with z|z
     ·rw[bX];exact d_ _ (s.cl x z b B)
     ·rw[aZ.mp z,<-O.eq]at B;obtain⟨st,p,rfl⟩:=aL.mp B;exact U st p
  ·refine c4 (aU (au W W W)) (eO W ?_);obtain⟨b0,A6⟩:=LQ (n:=k+1) 'd' s.cm 'd' f (side:=0) (.inl W);obtain⟨b1,kO⟩:=LQ (n:=k+1) (by omega) s.cm (by omega) f (side:=1) (.inr W);exact jJ (bg (aj W (aj (aP (aj W (aj W 'l')) A6) (aj (aP (aj W (aj W 'l')) kO) W)))) (uX (Cc (uX (iS (.inr ⟨⟨_,W⟩,e.1.1,e.1.2,s.rc e I,(CF A w N.1).mp hf⟩)))))
 ·refine .inl ⟨aU (au W (aP 'l' hlen) (by show Z (D.bl (decide _))=_;rw[decide_eq_false 'd'])),aN (jJ W (iS (.inl ⟨W,?_⟩)))⟩;have hle:l=E.length:=by have:=s.le;lia
  have LU:=s.nf;have jd:=s.cl;rw[hle,jS]at LU jd;refine ZoM (L:=E.map (·.1)) ha (λi=>?_) ⟨aL.mpr ⟨_,cj s.cm.hd,W⟩,λa G=>?_,λa G b B=>?_⟩ λa G=>?_
  ·have:=mL hG i;unfold aS;rw[ej];cases z:aB ps i with|fin=>exact .nil|say x y cs=>rw[z]at this;exact this.2.2.2.2.2.2.2.2
  ·obtain⟨e,f,rfl⟩:=aL.mp G;exact s.rc e f
  ·obtain⟨e,f,rfl⟩:=aL.mp G;exact jd e f b B
  ·obtain⟨e,f,rfl⟩:=aL.mp G;intro z;have:=LU e f;rw[(CF A w (s.rg e f).1.1).mpr z]at this;injection this
def LV(k:Nat)(m:Int)(ps:List Pl):Prop:=∀h:Nat,(h:Int)<m->∀x y,kj ps h x y->¬gE k ps h x y
theorem LW{k:Nat}(g:3<=k)(j:G2 m ps):∀(t a:Nat)(o:Option D),∃bs:List Bool,bT (gN 0) (λ_=>Z be) (ae nK (ax (Tab (k+2) .fh) (ai [aa 1,aa 0])) (cC .aC)) [o,Z (aJ m ps)] ((nj a t).map λ(i:Nat)=>D.int (i:Int))=Z (bs.map .bl)/\(bs.all id=be↔∀h:Nat,a<=h->h<a+t->∀x y,kj ps h x y->¬gE k ps h x y)
 |0,a,o=>⟨[],W,(by grind)⟩|t+1,a,o=>by
  obtain⟨bs,e,r⟩:=LW g j t (a+1) (Z (.int (a:Int)));obtain⟨d,p,c⟩:=LS g j (a:Int);rw[vS,br];have one:∀b:Bool,kN d .aC=b->(b=be↔∀x y,kj ps a x y->¬gE k ps a x y)->∃bs:List Bool,bT (gN 0) (λ_=>Z be) (ae nK (ax (Tab (k+2) .fh) (ai [aa 1,aa 0])) (cC .aC)) [o,Z (aJ m ps)] (D.int (a:Int)::(nj (a+1) t).map λ(i:Nat)=>D.int (i:Int))=Z (bs.map .bl)/\(bs.all id=be↔∀h:Nat,a<=h->h<a+(t+1)->∀x y,kj ps h x y->¬gE k ps h x y):=λb f q=>by refine⟨b::bs,jK (ρ':=[Z (.int (a:Int)),Z (aJ m ps)]) W W (au (aP (aj W 'l') p) W (by rw[B1,f])) e,?_⟩;grind
  rcases c with⟨rfl,c⟩|⟨⟨xs,rfl⟩,x,y,u,v⟩;·exact one be W ⟨λ_=>c,λ_=>rfl⟩
  ·exact one bi W (by grind)
theorem Zrc{k:Nat}(d:3<=k)(c:G2 m ps):∃b:Bool,Tab (k+3) .ft [aJ m ps]=Z (.bl b)/\(b=be↔LV k m ps):=by
 obtain⟨bs,e,f⟩:=LW d c m.toNat 0 am;have g:=c.1;have h:=c.2.1;rw[<-vT,<-pR]at e;refine⟨bs.all id,?_,?_⟩
 ·rw[tab];have a:o_ [.lst (bs.map D.bl)]=Z (.bl (bs.all id)):=by have:=all_map id bs;simpa using this
  have:BN (Tab (k+2)) [Z (aJ m ps)]=Z (.ret (.bl (bs.all id))):=n9 (aP (aj (gz (cap:=[am,Z 0]) (si (au W W (aX cT)) 'd' 'd') (small (by rw[pR,aE,oH];omega)) e) W) a);show((BN (Tab (k+2)) [Z (aJ m ps)]).bind _)=_;simp_all
 simp_all[LV,dQ]
end PM
namespace PM
section
variable {α:Type}{nx:Int->List (α × Int)}{tu:Int->Bool}{ev:Int->Int->Bool}{p:Int}
theorem LX(h:Sy nx tu p x y)(e:Ep nx tu x a)(d:Ep nx tu y c):Sy nx tu p a c:=by
 have f:Sy nx tu p a y:=by induction e with|z=>exact h|s _ n s b=>exact .l b n s
 induction d with|z=>exact f|s _ n s b=>exact .r b n s
structure Gk(nx:Int->List (α×Int))(tu:Int->Bool)(ev:Int->Int->Bool)(Ks:List (List Int))(i:Nat):Prop where
 hd:∃G,Ks[0]?=Z G/\∀z,Ep nx tu 0 z->z∈G
 sd:∀G∈Ks,∀p∈G,∀q∈G,Sy nx tu 0 p q
 cl:∀G∈Ks,∀p∈G,tu p=bi->∀y,Sc nx p y->y∈G
 on:∀j,j<i->∀G,Ks[j]?=Z G->∀w,∃G'∈Ks,∀p∈G,tu p=be->∀y,(w,y)∈nx p->y∈G'
 ev:∀j,j<i->∀G,Ks[j]?=Z G->∀p∈G,∀q∈G,tu q=be->Ah nx tu p/\(tu p=be->ev p q=be)
theorem Zre{Ks:List (List Int)}(h:Gk nx tu ev Ks Ks.length)(s:Sy nx tu 0 x y):∃G∈Ks,x∈G/\y∈G:=by induction s with|z=>obtain⟨G,a,c⟩:=h.hd;exact⟨G,cj a,c 0 .z,c 0 .z⟩|l _ n s d=>refine aM d λG a c e=>?_;clear d;exact⟨G,a,h.cl G a _ c n _ s,e⟩|r _ n s d=>refine aM d λG a c e=>?_;clear d;exact⟨G,a,c,h.cl G a _ e n _ s⟩|b _ n m s t d=>refine aM d λG a c e=>?_;clear d;obtain⟨j,f⟩:=zh a;obtain⟨i,q,g⟩:=h.on j (bF.mp f).1 G f _;exact⟨i,q,g _ c n _ s,g _ e m _ t⟩
theorem ZoU{Ks:List (List Int)}(h:Gk nx tu ev Ks Ks.length)(s:Sy nx tu 0 x y):¬Ft nx tu ev x y:=by
 rintro⟨m,f⟩;refine aM (Zre h s) λG d e g=>?_;obtain⟨j,c⟩:=zh d;obtain⟨a,b⟩:=h.ev j (bF.mp c).1 G c x e y g m;rcases f with f|⟨n,f⟩;·exact f a
 ·rw[b n]at f;injection f
theorem ZoV{G:List Int}(f:∀p∈G,∀q∈G,Sy nx tu 0 p q){w:α}{x y c d z:Int}(g:x∈G)(h:y∈G)(i:tu x=be)(j:tu y=be)(m:(w,c)∈nx x)(sy:(w,d)∈nx y)(r:Ep nx tu c z)(a:Ep nx tu d e):Sy nx tu 0 z e:=LX (.b (f x g y h) i j m sy) r a
end
noncomputable def subs{a:Type}:List a->List (List a)|[]=>[[]]|x::l=>subs l++(subs l).map (x:: ·)
theorem LY{a:Type}:∀l:List a,(subs l).length=2^l.length|[]=>rfl|x::l=>by simp[subs,LY l,Nat.pow_succ];lia
theorem ZoW{c:Type}{T l:List c}(h:T.Sublist l):T∈subs l:=by induction h with|slnil=>exact aZ.mpr W|cons a _ b=>exact d_ _ b|cons_cons a _ b=>exact dV _ (aL.mpr ⟨_,b,W⟩)
theorem va{e:Type}:∀{l m:List e},l.Nodup->(∀x∈l,x∈m)->l.length<=m.length
 |[],_,_,_=>dQ _|x::l,m,hn,c=>by
  rw[gf]at hn;obtain⟨a,b,rfl⟩:=zo (c x bE);have:=va (l:=l) (m:=a++b) hn.2 λy d=>by
   rcases bQ.mp (c y (cx _ d))with q|q;·exact d_ _ q
   ·rcases a7.mp q with rfl|q;·exact(hn.1 d).elim
    ·exact dV _ q
  simp at this⊢;lia
end PM
namespace PM
open PySem L2 DL PT
theorem oq{n:Nat}{ds:List D}(h:g (kJ n ds)=Z (.ret d))(a:ds.length=np):c8 np n g ds=Z d:=by unfold c8;rw[if_pos a,h];rfl
theorem sr{b:Type}{g h:b->D}{c:ag->Option D}{tl:ag}:∀(l:List b)(o:Option D),(∀a∈l,c (Z (g a)::tl)=Z (h a))->bT (gN 0) (λ_=>Z be) c (o::tl) (l.map g)=Z (l.map h)|[],_,_=>rfl|a::r,o,hf=>jK (ρ':=Z (g a)::tl) W W (hf a bE) (sr r (Z (g a)) λx d=>hf x (cx _ d))
theorem Zrf{xs ys:List D}(b:c a=Z (.lst xs))(d:e a=Z (.lst ys))(f:xs.length+ys.length<=aD):nR c e a=Z (xs++ys):=by simp[nR,b,d,w9,f]
def jo(h:Int):Pl->D|.say a b _=>if(a==h||b==h)=be then bZ h a b else .aC|.fin=>.aC
theorem LZ:kN (jo h (aB ps x)) .aC=!aA ps h x:=by unfold aA jo;cases aB ps x with|fin=>rfl|say a b cs=>simp only;cases e:(a==h||b==h)with|true=>unfold bZ;simp only[if_true];split<;>rfl|false=>rfl
theorem ZoX:nK (jo h (aB ps x)) .aC=Z (.bl (!aA ps h x)):=by rw[B1,LZ]
theorem L0:jY (jo h (aB ps x)) .aC=Z (.bl (aA ps h x)):=by rw[KI,LZ,Zvz]
theorem Zo_(h a b:Int):xY (.int h) (.tup [.int a,.int b])=Z (.bl (!(a==h||b==h))):=by show Z (D.bl (!(a==h||(b==h||false))))=_;rw[Bool.or_false]
theorem su{n:Nat}(hn:1<=n){m:Int}{ps:List Pl}{h x:Int}(j:0<=x)(p:x<ps.length):Tab n .fJ [aJ m ps,.int h,.int x]=Z (jo h (aB ps x)):=by obtain⟨k,rfl,r⟩:=cD (c:=0) hn;have d:=jk (m:=m) j p;rw[tab];cases e:aB ps x with|fin=>rw[e]at d;exact oq (n:=4) (eX (n_ (au (au W W (aX c_)) W (aX d))) (iZ (by rw[uU (Zc_ (aU (au (au W W (aX cT)) W W)))];rfl))) W|say a b cs=>rw[e]at d;have i:∀o,cB (ae (bK 64) (ae ay (aa 3) 'g') (cC (.str "end"))) [Z (aJ m ps),Z (.int h),o,Z (Pl.say a b cs).toD]=Z bi:=λo=>aU (au (au W W (aX cT)) W W);have f:∀o,cB (ae xY (aa 1) (gu (aa 3) (c6 'c') (c6 (cC (.int 3))))) [Z (aJ m ps),Z (.int h),o,Z (Pl.say a b cs).toD]=Z (!(a==h||b==h)):=λo=>aU (au W (og (z:=.tup [.int a,.int b]) W (iU W) (iU W) W) (Zo_ h a b));refine oq (n:=4) (eX (n_ (au (au W W (aX c_)) W (aX d))) ?_) W;show a8 _ _ [Z (aJ m ps),Z (.int h),Z (.int x),Z (Pl.say a b cs).toD]=Z (.ret (if(a==h||b==h)=be then bZ h a b else .aC));cases z:(a==h||b==h)with|false=>have f:=f (Z (.int x));rw[z]at f;exact iZ (by rw[uU (yj (i _) f)];rfl)|true=>have f:=f (Z (.int x));rw[z]at f;refine eX (k7 (yj (i _) f) W) ?_;show _=Z (Out.ret (if(a==h)=be then .tup [.str "says",.int b]else .tup [.str "hears",.int a]));have g:cB (ae (bK 64) (ae ay (aa 3) 'c') (aa 1)) [Z (aJ m ps),Z (.int h),Z (.int x),Z (Pl.say a b cs).toD]=Z (a==h):=aU (au (au W W (aX c_)) W eq_int);cases q:(a==h)with|true=>rw[q]at g;exact iZ (by rw[uU g];rfl)|false=>rw[q]at g;exact eX (k7 g W) (ZqI (bg (aj W (aj (au W W (aX c_)) W))))
theorem Zp_(h:f a=Z (.tup xs)):jG f a=Z (iO 0 xs):=by simp[jG,h,AO]
theorem ZsP(h:f a=Z (.lst xs)):jG f a=Z (iO 0 xs):=by simp[jG,h,AO]
theorem L3{i:Nat}(h:(iO 0 ds)[i]?=Z d):∃y,ds[i]?=Z y/\d=.tup [.int (i:Int),y]:=by obtain⟨y,a,b⟩:=AN ds 0 i d h;exact⟨y,a,by rw[b,md]⟩
def eF(ps:List Pl)(h:Int)(S:List Int):List Int:=((eG ps.length).map λ(i:Nat)=>(i:Int)).filter λz=>@decide (∃s∈S,Ep (aS ps) 'i' s z) (vA _)
theorem iC{ps:List Pl}:z∈eF ps h S↔(0<=z/\z<ps.length)/\∃s∈S,Ep (aS ps) 'i' s z:=by
 unfold eF;rw[dt,aL];constructor;·rintro⟨⟨i,b,rfl⟩,a⟩;exact⟨⟨by simp,by have:=lu.mp b;lia⟩,@of_decide_eq_true _ (vA _) a⟩
 ·rintro⟨c,a⟩;exact⟨⟨z.toNat,lu.mpr (by omega),by exact ni c.1⟩,@decide_eq_true _ (vA _) a⟩
theorem Zrg(n:Nat):((eG n).map λ(i:Nat)=>(i:Int)).Pairwise (· < ·):=Ek.mpr ((List.pairwise_lt_range (n:=n)).imp λh=>by lia)
theorem L4(ps:List Pl)(h:Int)(S:List Int):(eF ps h S).Pairwise (· < ·):=(Zrg _).filter _
theorem ZsQ(ps:List Pl)(h:Int)(S:List Int):(eF ps h S).Nodup:=(L4 ps h S).imp λh=>by lia
theorem ZoY{F:List Int}(hn:F.Nodup)(a:∀z,z∈F↔z∈eF ps h S):sortI F=eF ps h S:=xX (xW F) ((L4 ps h S).imp λh=>by exact Int.le_of_lt h) ((r4 F).trans ((List.perm_ext_iff_of_nodup hn (ZsQ ps h S)).mpr a))
theorem CG{m:Int}{ps:List Pl}(a:G2 m ps){h x y:Int}(b:0<=x/\x<ps.length)(e:Ep (aS ps) 'i' x y):0<=y/\y<ps.length:=by induction e with|z=>exact b|@s u v _ _ s f=>obtain⟨w,s⟩:=s;obtain⟨c,d,e⟩:=aL.mp s;cases e;have:=(oi (mS a) u).2 c d;exact⟨this.2.2.2.1,this.2.2.2.2⟩
structure AI(ps:List Pl)(h:Int)(S F L:List Int):Prop where
 n:F.Nodup
 f:∀z∈F,z∈eF ps h S
 l:∀z∈L,z∈eF ps h S
 s:∀s∈S,s∈F\/s∈L
 c:∀z∈F,aA ps h z=bi->∀y,Sc (aS ps) z y->y∈F\/y∈L
def jr(ps:List Pl)(h y:Int):List Int:=if aA ps h y=be then []else iX ps y
section
variable {ps:List Pl}{h y m:Int}{S F L:List Int}
theorem L5(a:∀s∈S,0<=s/\s<ps.length):AI ps h S [] S:=⟨.nil,by simp,λz hz=>iC.mpr ⟨a z hz,z,hz,.z⟩,λs b=>.inr b,by simp⟩
theorem AI.end(a:AI ps h S F []):sortI F=eF ps h S:=ZoY a.n λz=>⟨a.f z,λhz=>by refine bc (iC.mp hz) λd b=>a9 b λs g e=>?_;clear b;clear hz d;induction e with|z=>exact(a.s s g).resolve_right 'k'|s _ n s i=>exact(a.c _ i n _ s).resolve_right 'k'⟩
theorem AI.len(a:AI ps h S F L):F.length<=ps.length:=by
 have:=va a.n (m:=(eG ps.length).map λ(i:Nat)=>(i:Int)) λz hz=>by have:=(iC.mp (a.f z hz)).1;exact aL.mpr ⟨z.toNat,lu.mpr 'd',by exact ni this.1⟩
 simpa using this
theorem AI.old(a:AI ps h S F (L++[y]))(b:y∈F):AI ps h S F L:=have g:∀{x},x∈F\/x∈L++[y]->x∈F\/x∈L:=λq=>q.elim .inl λq=>(bQ.mp q).elim .inr λq=>.inl (aZ.mp q▸b)
 ⟨a.n,a.f,λz hz=>a.l z (d_ _ hz),λs d=>g (a.s s d),λz hz e v i=>g (a.c z hz e v i)⟩
theorem AI.new(w:G2 m ps)(a:AI ps h S F (L++[y]))(A:y∉F):AI ps h S (F++[y]) (L++jr ps h y)/\(jr ps h y).length<=5:=by
 have p:=a.l y 'k';have g:∀{x},x∈F\/x∈L++[y]->x∈F++[y]\/x∈L++jr ps h y:=λq=>q.elim (λq=>.inl (d_ _ q)) λq=>(bQ.mp q).elim (λq=>.inr (d_ _ q)) λq=>.inl (dV _ q);have B:aA ps h y=bi->jr ps h y=iX ps y:=λq=>if_neg (by rw[q];exact ei);have r:=oi (mS w) y;refine⟨⟨oP.mpr ⟨a.n,by simp,λu C v E e=>A (by rw[<-aZ.mp E,<-e];exact C)⟩,λz hz=>(bQ.mp hz).elim (a.f z) λq=>aZ.mp q▸p,λz hz=>(bQ.mp hz).elim (λq=>a.l z (d_ _ q)) λq=>?_,λs b=>g (a.s s b),λz hz d v i=>(bQ.mp hz).elim (λq=>g (a.c z q d v i)) λq=>?_⟩,?_⟩
 ·unfold jr at q;split at q;·cases q
  ·rename_i t;obtain⟨_,s,b,es⟩:=iC.mp p;obtain⟨c,j,rfl⟩:=aL.mp q;exact iC.mpr ⟨(r.2 c j).2.2.2,s,b,.s es (by simpa using t) (yy.mpr q)⟩
 ·rw[aZ.mp q]at d i;rw[B d];exact .inr (dV _ (yy.mp i))
 ·unfold jr;split;·exact dQ _
  ·unfold iX;rw[aE];exact r.1
end
theorem L6{n:Nat}(hn:2<=n){ps:List Pl}(J:G2 m ps)(M:ps.length<64){S:List Int}(N:∀s∈S,0<=s/\s<ps.length)(O:S.length<=900):Tab n .fK [aJ m ps,.int h,.lst (S.map .int)]=Z (.tup ((eF ps h S).map .int)):=by
 obtain⟨k,rfl,Q⟩:=cD (c:=1) hn;refine Ev.eq ?_;rw[tab];refine iT (np:=3) (n:=6) (gb:=BW (Tab k)) ?_;unfold BW;refine aV (f9 (ds:=[]) W (aN (aV (f9 (ds:=S.map .int) W (aN (aV ?_))))));show Ev (eE _ _ _ [_,_,_,_,_,_]) _;refine mP (λn r=>∃(F L:List Int)(j:Option SD),r=[Z (.ak (aJ m ps)),Z (.ak (.int h)),Z (.ak (.lst (S.map .int))),Z (.own (F.map .int)),Z (.own (L.map .int)),j]/\AI ps h S F L/\L.length+6*(ps.length-F.length)+1<=n/\L.length<=900+5*F.length) ?_ ?_ 99999 _ ⟨[],S,am,W,L5 N,by simp;lia,by simpa using O⟩;·rintro r ⟨F,L,j,rfl,_,v,_⟩;lia
 rintro n r ⟨F,L,j,rfl,a,v,A⟩;have B:=a.len;rcases OB L with rfl|⟨f,y,rfl⟩
 ·have C:Bw [.lst (F.map .int)]=Z (.lst ((eF ps h S).map .int)):=by show(if(F.map D.int).length<64 then(intsOf (F.map D.int)).map (λns=>D.lst ((sortI ns).map .int))else am)=_;rw[if_pos (by rw[aE];exact iG B M),u4,zi,a.end]
  exact .inl ⟨pP W W,aN (jJ (aP (aj (aP 'l' C) W) W) (iS W))⟩
 rw[OC]at a v A⊢;have em:(f++[y]).map D.int=f.map D.int++[.int y]:=by rw[bX]<;>rfl
 rw[em];obtain⟨⟨G,H⟩,_⟩:=iC.mp (a.l y 'k');rw[bB]at v A;simp only[vC]at v A;have d:=jk (m:=m) G H;have E:=su (n:=k) (m:=m) (h:=h) Q G H;refine .inr ⟨pP W (by show uw (.lst (f.map D.int++[.int y]))=_;cases f<;>rfl),aV (yk W (aN (c4 (aU (au W W (Cy F y))) ?_)))⟩;by_cases w:y∈F;·exact dO (by simpa using w) (dN (dS ⟨F,f,Z (.ak (.int y)),W,a.old w,by lia,by lia⟩))
 obtain⟨I,g⟩:=a.new J w;have p:=I.len;rw[bB]at p;have T:F.map D.int++[.int y]=(F++[y]).map D.int:=by rw[bX]<;>rfl
 have fin:∃(z L2:List Int)(j:Option SD),[Z (SD.ak (aJ m ps)),Z (.ak (.int h)),Z (.ak (.lst (S.map .int))),Z (.own (F.map .int++[.int y])),Z (.own ((f++jr ps h y).map .int)),Z (.ak (.int y))]=[Z (SD.ak (aJ m ps)),Z (.ak (.int h)),Z (.ak (.lst (S.map .int))),Z (.own (z.map .int)),Z (.own (L2.map .int)),j]/\AI ps h S z L2/\L2.length+6*(ps.length-z.length)+1<=n/\L2.length<=900+5*z.length:=⟨F++[y],_,_,by rw[<-T],I,by simp at p⊢;lia,by simp;lia⟩;refine eO (by simpa using w) (aV (k8 W (x:=.int y) W (small (by rw[aE];lia)) (aN ?_)));have U:cB (ae nK (ax (Tab k .fJ) (ai [aa 0,aa 1,aa 5])) (cC .aC)) (fz [Z (.ak (aJ m ps)),Z (.ak (.int h)),Z (.ak (.lst (S.map .int))),Z (.own (F.map .int++[.int y])),Z (.own (f.map .int)),Z (.ak (.int y))])=Z (!aA ps h y):=aU (au (aP (aj W (aj W 'l')) E) W ZoX);have Y:cB (ae (bK 64) (ae ay (ae ay (ae ay (aa 0) 'c') (aa 5)) 'g') (cC (.str "say"))) (fz [Z (.ak (aJ m ps)),Z (.ak (.int h)),Z (.ak (.lst (S.map .int))),Z (.own (F.map .int++[.int y])),Z (.own (f.map .int)),Z (.ak (.int y))])=Z (aB ps y).iB:=by cases q:aB ps y with|fin=>rw[q]at d;exact aU (au (au (au (au W W (aX c_)) W (aX d)) W (aX cT)) W W)|say a b cs=>rw[q]at d;exact aU (au (au (au (au W W (aX c_)) W (aX d)) W (aX cT)) W W)
 refine c4 (pM Y U) ?_;cases q:((aB ps y).iB&&!aA ps h y)with
 |false=>
  have e0:jr ps h y=[]:=by
   unfold jr iX;split;·rfl
   ·rename_i t;cases e:aB ps y with
    |fin=>rfl
    |say a b cs=>rw[e,ZvA _ |>.mp t]at q;injection q
  rw[e0,eZ]at fin;exact dO W (dN (dS fin))
 |true=>
  rw[cJ,sX]at q;refine b_ (qb q.1) λa b cs e=>?_;have ex:jr ps h y=cs.map λc=>c.2.2:=by unfold jr iX;rw[q.2,e];rfl
  rw[e]at d;rw[ex]at fin g;have i:bT (gN 0) (λ_=>Z be) (ae ay (aa 0) (cC (.int 2))) [am] (cs.map aY)=Z ((cs.map λc=>c.2.2).map .int):=by rw[sr (tl:=[]) (h:=λc:Ch=>D.int c.2.2) _ _ λc _=>au W W (aX at2),ej]<;>rfl
  have u:lZ (nR (aa 4) (cf [am] (bV (ae ay (ae ay (ae ay (aa 0) 'c') (aa 5)) (cC (.int 3)))) (gN 0) (λ_=>Z be) (ae ay (aa 0) (cC (.int 2))))) [Z (.ak (aJ m ps)),Z (.ak (.int h)),Z (.ak (.lst (S.map .int))),Z (.own (F.map .int++[.int y])),Z (.own (f.map .int)),Z (.ak (.int y))]=Z ((f++cs.map λc=>c.2.2).map .int):=by rw[bX];rw[aE]at g;exact pQ (Zrf W (gz (gC (au (au (au W W (aX c_)) W (aX d)) W (aX iz)) W) (small (by rw[aE];exact fo g)) i) (du (big (by simp;lia)))) (by rw[<-bX];exact jL (λ_=>rfl) _)
  exact eO W (f9 u (dS fin))
theorem Zo0(ks:List Int)(j:Int):tV (.int j) (.lst (ks.map .int))=Z (.bl (decide (j∈ks))):=by
 have b:((ks.map D.int).all jZ&&!hV (.int j))=be:=by rw[cJ,g7];exact⟨λd a=>by obtain⟨_,_,rfl⟩:=aL.mp a;rfl,W⟩
 show(if((ks.map D.int).all jZ&&!hV (.int j))=be then Z (D.bl ((ks.map D.int).any λy=>eH y (.int j)))else am)=_;rw[if_pos b];congr 2;rw[jQ,vR,decide_eq_true_iff];constructor
 ·rintro⟨d,a,e⟩;obtain⟨i,c,rfl⟩:=aL.mp a;have:i=j:=by simpa [eH]using e
  rw[<-this];exact c
 ·intro h;exact⟨.int j,aL.mpr ⟨j,h,W⟩,by simp[eH]⟩
theorem qc{b:Type}{g:b->D}{f:b->Bool}{c:ag->Option Bool}{tl:ag}:∀(l:List b)(o:Option D),(∀a∈l,c (Z (g a)::tl)=Z (f a))->bT (gN 0) c (aa 0) (o::tl) (l.map g)=Z ((l.filter f).map g)|[],_,_=>rfl|a::r,o,hf=>by have d:=qc r (Z (g a)) λx h=>hf x (cx _ h);have i:=hf a bE;rw[br];simp only[bT,gN,qI,bx,i];cases e:f a with|true=>rw[if_pos W,ZvB e];show Option.map _ (bT _ _ _ _ _)=_;rw[d];rfl|false=>rw[if_neg ei,ZvC (by simp[e])];exact d
theorem yz(xs:List D):uw (.lst xs)=Z (!xs.isEmpty):=by cases xs<;>rfl
theorem Zo1{n:Nat}(hn:2<=n){ps:List Pl}(T:G2 m ps)(hp:ps.length<64)(h:Int):∃F:List Int,Tab n .fL [aJ m ps,.int h]=Z (.lst (F.map .int))/\∀z:Int,0<=z->z<ps.length->(z∈F↔Ah (aS ps) 'i' z):=by
 obtain⟨k,rfl,hk⟩:=cD (c:=1) hn;have hN:=(mS T).n1;have hL:cA [.tup (ps.map Pl.toD)]=Z (.int (ps.length:Nat)):=by show Z (D.int ((ps.map Pl.toD).length:Nat))=_;rw[aE]
 suffices hh:Ev (Tab (k+1) .fL [aJ m ps,.int h]) λd=>∃F:List Int,d=.lst (F.map .int)/\∀z:Int,0<=z->z<ps.length->(z∈F↔Ah (aS ps) 'i' z) from by obtain⟨_,e,F,B,u⟩:=hh;exact⟨F,B▸e,u⟩
 have E:bT (gN 0) (cB (ae jY (ax (Tab k .fJ) (ai [aa 1,aa 2,aa 0])) (cC .aC))) (aa 0) [am,Z (aJ m ps),Z (.int h)] (cq 0 ps.length)=Z (((eG ps.length).filter λ(i:Nat)=>aA ps h i).map λ(i:Nat)=>D.int (i:Int)):=by rw[pR];refine qc (tl:=[Z (aJ m ps),Z (.int h)]) _ _ λi N=>?_;have N:=lu.mp N;have hs:=su (n:=k) (m:=m) (ps:=ps) (h:=h) (x:=(i:Int)) hk 'd' 'd';exact aU (au (aP (aj W (aj W 'l')) hs) W L0)
 have U:∀(F:List Int),(∀z∈F,0<=z/\z<ps.length)->(∀z:Int,0<=z->z<ps.length->aA ps h z=be->z∈F)->(∀j:Int,0<=j->j<ps.length->(∃y,Sc (aS ps) j y/\y∈F)->j∈F)->∀z:Int,Ah (aS ps) 'i' z->0<=z->z<ps.length->z∈F:=λF B u H z a=>by induction a with|t q=>exactλa b=>u _ a b q|@s x y s _ ih=>intro a b;obtain⟨w,sc⟩:=s;obtain⟨c,E,e⟩:=aL.mp sc;cases e;have:=(oi (mS T) x).2 c E;exact H x a b ⟨c.2.2,⟨c.1,sc⟩,ih this.2.2.2.1 this.2.2.2.2⟩
 rw[tab];refine iT (np:=2) (n:=6) (gb:=BX (Tab k)) ?_;unfold BX;refine aV (f9 (mO (oa (ds:=cq 0 ps.length) (si (aP (aj (au W W (aX c_)) W) hL) 'd' 'd') (small (by simp[cq];lia)) E)) (aN (aV (df (x:=.int (-1)) W (aN (aV ?_))))));show Ev (eE _ _ _ [_,_,_,_,_,_]) _;refine mP (λn r=>∃(F:List Int)(z:Int)(f g:Option SD),r=[Z (.ak (aJ m ps)),Z (.ak (.int h)),Z (.own (F.map .int)),Z (.ak (.int z)),f,g]/\F.Nodup/\(∀z∈F,(0<=z/\z<ps.length)/\Ah (aS ps) 'i' z)/\(∀z:Int,0<=z->z<ps.length->aA ps h z=be->z∈F)/\(z<=F.length/\(z=F.length->∀j:Int,0<=j->j<ps.length->(∃y,Sc (aS ps) j y/\y∈F)->j∈F))/\(ps.length:Int)-z+1<=n) ?_ ?_ 99 _ ⟨((eG ps.length).filter λ(i:Nat)=>aA ps h i).map λ(i:Nat)=>(i:Int),-1,am,am,by rw[ej]<;>rfl,?_,?_,?_,⟨by lia,λz=>by omega⟩,by lia⟩;·rintro r ⟨F,z,f,g,rfl,B,u,H,h4,h5⟩;have:=va B (m:=(eG ps.length).map λ(i:Nat)=>(i:Int)) λz hz=>aL.mpr ⟨z.toNat,lu.mpr (by have:=(u z hz).1;lia),by have:=(u z hz).1;lia⟩;simp at this;lia
 ·rintro n r ⟨F,z,f,g,rfl,B,u,H,⟨h4,Y⟩,h5⟩;have hlen:∀G:List Int,cA [.lst (G.map .int)]=Z (.int (G.length:Nat)):=λG=>by rw[Kn,aE]
  have hFn:∀G:List Int,G.Nodup->(∀z∈G,(0<=z/\z<ps.length)/\Ah (aS ps) 'i' z)->G.length<=ps.length:=λG I C=>by have:=va I (m:=(eG ps.length).map λ(i:Nat)=>(i:Int)) λz hz=>aL.mpr ⟨z.toNat,lu.mpr (by have:=(C z hz).1;lia),by have:=(C z hz).1;lia⟩;simpa using this
  by_cases hz:z=F.length;·refine .inl ⟨aU (au W (aP 'l' (hlen F)) (by show Z (D.bl (decide _))=_;rw[decide_eq_false 'd'])),aN (jJ W (iS ⟨F,W,λz a b=>⟨λq=>(u z q).2,λq=>U F (λz q=>(u z q).1) H (Y hz) z q a b⟩⟩))⟩
  ·refine .inr ⟨aU (au W (aP 'l' (hlen F)) (by show Z (D.bl (decide _))=_;rw[decide_eq_true 'd'])),aV (df (kh (aP 'l' (hlen F)) W) (aN (ki (Zp_ (au W W (aX c_))) ?_)))⟩;show Ev (dq _ _ _ [_,_,_,_,_,_]) _;refine jl (λR (i:Nat) r=>∃(X:List Int)(f g:Option SD),r=[Z (.ak (aJ m ps)),Z (.ak (.int h)),Z (.own ((F++X).map .int)),Z (.ak (.int (F.length:Nat))),f,g]/\(F++X).Nodup/\(∀z∈F++X,(0<=z/\z<ps.length)/\Ah (aS ps) 'i' z)/\(X=[]->∀j:Int,0<=j->j<i->(∃y,Sc (aS ps) j y/\y∈F)->j∈F)) ⟨[],f,g,by rw[eZ]<;>rfl,by simpa using B,by simpa using u,λ_ j a b=>by lia⟩ ?_ ?_
   ·rintro i d r hd ⟨X,f,g,rfl,I,C,Q⟩;obtain⟨y,O,rfl⟩:=L3 hd;rw[bW,bu]at O;obtain⟨p,J,rfl⟩:=O;have N:=(bF.mp J).1;have L:aB ps (i:Int)=p:=by unfold aB;rw[l_,J];rfl
    refine⟨_,W,?_⟩;have v:(X=[]->(∃y,Sc (aS ps) i y/\y∈F)->(i:Int)∈F)->∀(f g:Option SD),kL (λr=>∃(X:List Int)(f g:Option SD),r=[Z (.ak (aJ m ps)),Z (.ak (.int h)),Z (.own ((F++X).map .int)),Z (.ak (.int (F.length:Nat))),f,g]/\(F++X).Nodup/\(∀z∈F++X,(0<=z/\z<ps.length)/\Ah (aS ps) 'i' z)/\(X=[]->∀j:Int,0<=j->j<(i+1:Nat)->(∃y,Sc (aS ps) j y/\y∈F)->j∈F)) (kL (λr=>∃(F:List Int)(z:Int)(f g:Option SD),r=[Z (.ak (aJ m ps)),Z (.ak (.int h)),Z (.own (F.map .int)),Z (.ak (.int z)),f,g]/\F.Nodup/\(∀z∈F,(0<=z/\z<ps.length)/\Ah (aS ps) 'i' z)/\(∀z:Int,0<=z->z<ps.length->aA ps h z=be->z∈F)/\(z<=F.length/\(z=F.length->∀j:Int,0<=j->j<ps.length->(∃y,Sc (aS ps) j y/\y∈F)->j∈F))/\(ps.length:Int)-z+1<=n) (kS (eD (aa 2)) (kR λd=>∃F:List Int,d=.lst (F.map .int)/\∀z:Int,0<=z->z<ps.length->(z∈F↔Ah (aS ps) 'i' z)))) (.aF [Z (.ak (aJ m ps)),Z (.ak (.int h)),Z (.own ((F++X).map .int)),Z (.ak (.int (F.length:Nat))),f,g]):=λhq f g=>dS ⟨X,f,g,W,I,C,λA j a b q=>by
     by_cases e:j=i
     ·subst e;exact hq A q
     ·exact Q A j a 'd' q⟩;cases p with|fin=>refine c4 (b:=bi) (Cb (aU (au (au W W (aX cT)) W W))) (dO W (dN (v (by rintro _ ⟨y,⟨w,sc⟩,_⟩;unfold aS at sc;rw[L]at sc;cases sc) _ _)))|say a b cs=>
     have ho:=T.2.2.2.2 _ (cj J);have hc5:=ho.2.2.2.2.2.2.1;have CC:bT (gN 0) (cB (ae tV (ae ay (aa 0) (cC (.int 2))) (aa 1))) (aa 0) [am,Z (.lst ((F++X).map .int))] (cs.map aY)=Z ((cs.filter λc=>decide (c.2.2∈F++X)).map aY):=qc (tl:=[Z (.lst ((F++X).map .int))]) _ _ λc _=>aU (au (au W W (aX at2)) W (Zo0 _ _));refine c4 (pM (b:=be) (aU (au (au W W (aX cT)) W W)) (pM (aU (au W W (Cy (F++X) i))) (pP (gz (cap:=[am,Z 2]) (gC (au W W (aX iz)) W) (small (by rw[aE];exact fo hc5)) CC) (yz _)))) ?_;have hex:(∃y,Sc (aS ps) i y/\y∈F++X)↔(!((cs.filter λc=>decide (c.2.2∈F++X)).map aY).isEmpty)=be:=by
      rw[sX,List.isEmpty_eq_false_iff,ne_eq,ZvD,Er];constructor
      ·rintro⟨y,⟨w,sc⟩,hy⟩ z;unfold aS at sc;rw[L]at sc;obtain⟨c,E,e⟩:=aL.mp sc;cases e;exact z c E (by simpa using hy)
      ·intro z;apply zp;intro q;refine z λc E M=>q ⟨c.2.2,⟨c.1,?_⟩,by simpa using M⟩;unfold aS;rw[L];exact aL.mpr ⟨c,E,W⟩
     generalize(!((cs.filter λc=>decide (c.2.2∈F++X)).map aY).isEmpty)=bb at hex;by_cases M:(i:Int)∈F++X
     ·refine dO (by simp[M]) (dN (v (λA _=>by rw[A,eZ]at M;exact M) _ _))
     ·cases bb with|false=>refine dO 'k' (dN (v (λA q=>by rw[A,eZ]at hex;exact absurd (hex.mp q) 'k') _ _))|true=>
       obtain⟨y,sc,hy⟩:=hex.mpr W;have Zc:=hFn _ I C;refine eO (by simp[M]) (k8 W W (small (by rw[aE];lia)) (dS ⟨X++[(i:Int)],Z (.ak (.int (i:Int))),Z (.ak (Pl.say a b cs).toD),by rw[<-ju,bX (l₁:=F++X)]<;>rfl,?_,λz hz=>?_,λA=>by simp at A⟩))
       ·rw[<-ju];exact oP.mpr ⟨I,by simp,λa ha b hb e=>M (by rw[<-aZ.mp hb,<-e];exact ha)⟩
       ·rw[<-ju]at hz;rcases bQ.mp hz with hz|hz
        ·exact C z hz
        ·rw[aZ.mp hz];exact⟨⟨by lia,by lia⟩,.s sc (C y hy).2⟩
   ·rintro r ⟨X,f,g,rfl,I,C,Q⟩;rw[pd,aE]at Q;refine dS ⟨F++X,(F.length:Nat),f,g,W,I,C,λz a b c=>d_ _ (H z a b c),⟨by rw[bB];lia,λe=>?_⟩,by lia⟩;have A:X=[]:=by
     cases X with|nil=>rfl|cons x X=>simp at e;lia
    subst A;simpa using Q W
 ·exact(Ek.mpr ((Zvt (n:=ps.length)).filter _ |>.imp λh e=>h 'd'))
 ·intro z hz;obtain⟨i,N,rfl⟩:=aL.mp hz;obtain⟨B,u⟩:=dt.mp N;exact⟨⟨by omega,by have:=lu.mp B;lia⟩,.t u⟩
 ·intro z B u H;exact aL.mpr ⟨z.toNat,dt.mpr ⟨lu.mpr 'd',by rw[show((z.toNat:Nat):Int)=z by lia];exact H⟩,by omega⟩
theorem vb:∀{a b:Kd},a.toD=b.toD->a=b:=by intro a;induction a with
 |none=>intro b h;cases b<;>simp[Kd.toD]at h<;>rfl|num lo g=>intro b h;cases b<;>simp[Kd.toD]at h<;>first|exact absurd h.1 'a'|simp[h]
 |name ns=>intro b h;cases b<;>simp[Kd.toD]at h<;>first|(rw[Ei λ_ _ e=>D.str.inj e]at h;rw[h])|skip
 |pair a b d f=>intro c h;cases c<;>simp[Kd.toD]at h<;>first|exact absurd h.1 'a'|rw[d h.1,f h.2]
 |row a m d=>intro c h;cases c<;>simp[Kd.toD]at h<;>first|exact absurd h.1 'a'|rw[d h.1,h.2]
theorem Zri{a b:Kd}(f:a.dp<=2)(g:b.dp<=2):B7 (cX 64 a.toD b.toD) (a=b):=by obtain⟨e,c,d⟩:=se 64 a.toD b.toD (pK a 'd') (pK b 'd');exact⟨e,c,d.trans ⟨vb,λh=>by rw[h]⟩⟩
theorem Zo2(h a b c d:Int):B7 (cX 64 (bZ h a b) (bZ h c d)) (bZ h a b=bZ h c d):=se 64 _ _ (yw h a b) (yw h c d)
noncomputable def wk(c:Ch):Str×Kd:=(c.1,c.2.1)
noncomputable def d5(x:Str×Kd):D:=.tup [.str x.1,x.2.toD]
theorem Zo3(h:d5 x=d5 y):x=y:=by simp[d5]at h;exact NG h.1 (vb h.2)
def iD(h:Int):Pl->Pl->Prop|.say a b cs,.say e f cs'=>bZ h a b≠bZ h e f\/(a=h/\cs.map wk≠cs'.map wk)\/∃c∈cs,∃d∈cs',d.1=c.1/\d.2.1≠c.2.1|_,_=>False
def kq(a b:Kd):Bool:=(cX 64 a.toD b.toD).getD bi
theorem yA{a b:Kd}(c:a.dp<=2)(d:b.dp<=2):cX 64 a.toD b.toD=Z (kq a b)/\(kq a b=be↔a=b):=by obtain⟨e,f,g⟩:=Zri c d;unfold kq;rw[f];exact⟨W,g⟩
theorem ZsR{a b:Kd}(c:a.dp<=2)(d:b.dp<=2):eB 64 a.toD b.toD=Z (.bl (!kq a b)):=by show(cX 64 a.toD b.toD).map _=_;rw[(yA c d).1];rfl
def l5(c a:Ch):Bool:=a.1==c.1&&!kq a.2.1 c.2.1
theorem L7{cs':List Ch}(h':∀c∈cs',c.2.1.dp<=2)(v:cs'.length<=5):∀(cs:List Ch)(f g h:Option D),(∀c∈cs,c.2.1.dp<=2)->∃o,iN (j9 3 (cY (gN 6) (cY (gN 7) (cY (gN 8) (j8))))) (bY (lN (cf [am,Z 6,Z 7] (bV (aa 5)) (gN 0) (ez (cB (ae (bK 64) (ae ay (aa 0) 'g') (aa 1))) (cB (ae (eB 64) (ae ay (aa 0) 'c') (aa 2)))) (aa 0))) (bj (cC (.bl be))) (cR)) (cs.map aY) [b0,b1,b2,b3,b4,Z (.tup (cs'.map aY)),f,g,h]=Z o/\(o=.ret (.bl be)/\(∃c∈cs,∃i∈cs',l5 c i=be)\/(∃f g h,o=.aF [b0,b1,b2,b3,b4,Z (.tup (cs'.map aY)),f,g,h])/\¬ ∃c∈cs,∃i∈cs',l5 c i=be)
 |[],f,g,h,_=>⟨_,W,.inr ⟨⟨f,g,h,W⟩,by simp⟩⟩|c::cs,f,g,h,w=>by have y:j9 3 (cY (gN 6) (cY (gN 7) (cY (gN 8) (j8)))) (aY c) [b0,b1,b2,b3,b4,Z (.tup (cs'.map aY)),f,g,h]=Z [b0,b1,b2,b3,b4,Z (.tup (cs'.map aY)),Z (.str c.1),Z c.2.1.toD,Z (.int c.2.2)]:=rfl;have j:bT (gN 0) (ez (cB (ae (bK 64) (ae ay (aa 0) 'g') (aa 1))) (cB (ae (eB 64) (ae ay (aa 0) 'c') (aa 2)))) (aa 0) [am,Z (.str c.1),Z c.2.1.toD] (cs'.map aY)=Z ((cs'.filter (l5 c)).map aY):=qc (tl:=[Z (.str c.1),Z c.2.1.toD]) _ _ λx m=>pM (aU (au (au W W (aX cT)) W eq_str)) (aU (au (au W W (aX c_)) W (ZsR (h' x m) (w c bE))));have p:lN (cf [am,Z 6,Z 7] (bV (aa 5)) (gN 0) (ez (cB (ae (bK 64) (ae ay (aa 0) 'g') (aa 1))) (cB (ae (eB 64) (ae ay (aa 0) 'c') (aa 2)))) (aa 0)) [b0,b1,b2,b3,b4,Z (.tup (cs'.map aY)),Z (.str c.1),Z c.2.1.toD,Z (.int c.2.2)]=Z (!((cs'.filter (l5 c)).map aY).isEmpty):=pP (gz (cap:=[am,Z 6,Z 7]) (gC W W) (small (by rw[aE];exact fo v)) j) (yz _);rw[br];cases q:cs'.filter (l5 c)with
  |nil=>
   rw[q]at p;obtain⟨o,A,B⟩:=L7 (b0:=b0) (b1:=b1) (b2:=b2) (b3:=b3) (b4:=b4) h' v cs (Z (.str c.1)) (Z c.2.1.toD) (Z (.int c.2.2)) λx m=>w x (cx _ m);have C:¬ ∃i∈cs',l5 c i=be:=by rintro⟨i,t,r⟩;have:=Er.mp q i t;exact this r
   refine⟨o,?_,B.imp (by rintro⟨a,u,b,d⟩;exact⟨a,u,cx _ b,d⟩)<|by rintro⟨a,b⟩;exact⟨a,by rintro⟨u,t,r⟩;exact(a7.mp t).elim (λe=>C (e▸r)) λz=>b ⟨u,z,r⟩⟩⟩;simp only[iN,y,bx,k7 p (show cR _=_ from W)];exact A|cons x l=>
   rw[q]at p;have m:x∈cs'.filter (l5 c):=by rw[q];exact bE
   refine⟨_,?_,.inl ⟨W,c,bE,x,(dt.mp m).1,(dt.mp m).2⟩⟩;simp only[iN,y,bx,KU p (show bj (cC (.bl be)) _=Z (.ret (.bl be)) from W)]
theorem ZlR(k:Nat):∀xs ys:List D,(∀x∈xs,pT k x=be)->(∀y∈ys,pT k y=be)->∃c,eA k xs ys=Z c/\((c&&xs.length==ys.length)=be↔xs=ys):=λxs ys a d=>by have f:pT (k+1) (.tup xs)=be:=g7.mpr a;have g:pT (k+1) (.tup ys)=be:=g7.mpr d;obtain⟨b,e,h⟩:=se (k+1) _ _ f g;obtain⟨c,i,rfl⟩:=bu.mp (show(eA k xs ys).map (λb=>b&&xs.length==ys.length)=Z b from e);exact⟨c,i,h.trans ⟨λz=>D.tup.inj z,λz=>by rw[z]⟩⟩
theorem L8(h a b c d:Int):∃e:Bool,eB 64 (bZ h a b) (bZ h c d)=Z (.bl (!e))/\(e=be↔bZ h a b=bZ h c d):=by obtain⟨e,f,g⟩:=Zo2 h a b c d;exact⟨e,by show(cX 64 _ _).map _=_;rw[f];rfl,g⟩
theorem L9(h:c.2.1.dp<=2)(h':a.2.1.dp<=2):l5 c a=be↔a.1=c.1/\a.2.1≠c.2.1:=by unfold l5;have:=(yA h' h).2;rw[cJ,beq_iff_eq,sX,<-ZvA,this]
theorem Zo4(h a b:Int):ay (bZ h a b) (.int 0)=Z (.str (if(a==h)=be then "says" else "hears")):=by unfold bZ;split<;>rfl
theorem L_(cs:List Ch)(a:cs.length<=5)(b:d[i]?=Z (Z (.tup (cs.map aY)))):cf [am] (bV (aa i)) (gN 0) (λ_=>Z be) (gu (aa 0) eU (c6 (cC (.int 2)))) d=Z (.lst ((cs.map wk).map d5)):=by refine gz (ds:=cs.map aY) (gC (x:=.tup (cs.map aY)) (by simp[aa,b]) W) (small (by rw[aE];exact fo a)) ?_;rw[ej];exact sr (tl:=[]) _ _ λc _=>og W W (iU W) W
theorem Zj5{n:Nat}(hn:2<=n){m:Int}{ps:List Pl}(hG:G2 m ps){h x y:Int}(A:0<=x/\x<ps.length)(B:0<=y/\y<ps.length)(d:aA ps h x=be)(f:aA ps h y=be):∃r,Tab n .fM [aJ m ps,.int h,.int x,.int y]=Z (.bl r)/\(r=be↔iD h (aB ps x) (aB ps y)):=by obtain⟨k,rfl,hk⟩:=cD (c:=1) hn;have a1:=jk (m:=m) A.1 A.2;have a2:=jk (m:=m) B.1 B.2;have C:=su (n:=k) (m:=m) (h:=h) hk A.1 A.2;have J:=su (n:=k) (m:=m) (h:=h) hk B.1 B.2;have L:=mL hG x;have o2:=mL hG y;unfold aA at d f;cases e1:aB ps x with|fin=>rw[e1]at d;injection d|say a b cs=>cases e2:aB ps y with|fin=>rw[e2]at f;injection f|say E G cs'=>
 rw[e1]at d a1 C L;rw[e2]at f a2 J o2;rw[show jo h (.say a b cs)=bZ h a b from if_pos d]at C;rw[show jo h (.say E G cs')=bZ h E G from if_pos f]at J;have l1:=L.2.2.2.2.2.2.1;have l2:=o2.2.2.2.2.2.2.1;have d1:∀c∈cs,c.2.1.dp<=2:=λc M=>(L.2.2.2.2.2.2.2.1 c M).2.2.1;have H:∀c∈cs',c.2.1.dp<=2:=λc M=>(o2.2.2.2.2.2.2.2.1 c M).2.2.1;obtain⟨e,n1,n2⟩:=L8 h a b E G;obtain⟨c,N,O⟩:=ZlR 64 ((cs.map wk).map d5) ((cs'.map wk).map d5) (λz hz=>by obtain⟨u,Q,rfl⟩:=aL.mp hz;obtain⟨v,T,rfl⟩:=aL.mp Q;have:=pK v.2.1 (n:=63) (by have:=d1 v T;lia);simp[d5,wk,pT,this]) (λz hz=>by obtain⟨u,Q,rfl⟩:=aL.mp hz;obtain⟨v,T,rfl⟩:=aL.mp Q;have:=pK v.2.1 (n:=63) (by have:=H v T;grind);simp[d5,wk,pT,this]);have g:uP 64 (.lst ((cs.map wk).map d5)) (.lst ((cs'.map wk).map d5))=Z (.bl (!(c&&((cs.map wk).map d5).length==((cs'.map wk).map d5).length))):=by
  show(if((cs.map wk).map d5).length=((cs'.map wk).map d5).length then(eA 64 ((cs.map wk).map d5) ((cs'.map wk).map d5)).map (λc=>D.bl (!c))else Z (.bl be))=_;rw[N];by_cases z:((cs.map wk).map d5).length=((cs'.map wk).map d5).length;·rw[if_pos z,show(((cs.map wk).map d5).length==((cs'.map wk).map d5).length)=be by simpa using z,Bool.and_true];rfl
  ·rw[if_neg z,show(((cs.map wk).map d5).length==((cs'.map wk).map d5).length)=bi by simpa using z,vt];rfl
 have U:(c&&((cs.map wk).map d5).length==((cs'.map wk).map d5).length)=be↔cs.map wk=cs'.map wk:=O.trans ⟨λz=>(Ei λ_ _ e=>Zo3 e).mp z,λz=>by rw[z]⟩;generalize(c&&((cs.map wk).map d5).length==((cs'.map wk).map d5).length)=c at g U;have hb:(∃u∈cs,∃v∈cs',l5 u v=be)↔∃c∈cs,∃i∈cs',i.1=c.1/\i.2.1≠c.2.1:=⟨by rintro⟨u,j,v,p,Y⟩;exact⟨u,j,v,p,(L9 (d1 u j) (H v p)).mp Y⟩,by rintro⟨u,j,v,p,Y⟩;exact⟨u,j,v,p,(L9 (d1 u j) (H v p)).mpr Y⟩⟩;have S4:∀o,ae ay (ae ay (ae ay (aa 0) 'c') (aa 2)) (cC (.int 3)) [Z (aJ m ps),Z (.int h),Z (.int x),Z (.int y),o,am,am,am,am]=Z (.tup (cs.map aY)):=λo=>au (au (au W W (aX c_)) W (aX a1)) W (aX iz);have S5:∀o,ae ay (ae ay (ae ay (aa 0) 'c') (aa 3)) (cC (.int 3)) [Z (aJ m ps),Z (.int h),Z (.int x),Z (.int y),o,am,am,am,am]=Z (.tup (cs'.map aY)):=λo=>au (au (au W W (aX c_)) W (aX a2)) W (aX iz);have I:cB (ae (eB 64) (ax (Tab k .fJ) (ai [aa 0,aa 1,aa 2])) (ax (Tab k .fJ) (ai [aa 0,aa 1,aa 3]))) [Z (aJ m ps),Z (.int h),Z (.int x),Z (.int y),Z (.tup (cs.map aY)),Z (.tup (cs'.map aY)),am,am,am]=Z (!e):=aU (au (aP (aj W (aj W 'l')) C) (aP (aj W (aj W 'l')) J) n1);have run:∀r,a8 (bY (cB (ae (eB 64) (ax (Tab k .fJ) (ai [aa 0,aa 1,aa 2])) (ax (Tab k .fJ) (ai [aa 0,aa 1,aa 3])))) (bj (cC (.bl be))) (cR)) _ [Z (aJ m ps),Z (.int h),Z (.int x),Z (.int y),Z (.tup (cs.map aY)),Z (.tup (cs'.map aY)),am,am,am]=Z (.ret (.bl r))->Tab (k+1) .fM [aJ m ps,.int h,.int x,.int y]=Z (.bl r):=λr hr=>by rw[tab];exact oq (n:=9) (eX (n_ (S4 am)) (eX (n_ (S5 _)) hr)) W
 show ∃r,_/\(r=be↔bZ h a b≠bZ h E G\/(a=h/\cs.map wk≠cs'.map wk)\/∃c∈cs,∃i∈cs',i.1=c.1/\i.2.1≠c.2.1);cases e with|false=>exact⟨be,run be (iZ (by rw[uU I];rfl)),⟨λ_=>.inl λz=>(nomatch n2.mpr z),λ_=>rfl⟩⟩|true=>
  have er:=n2.mp W;have C2:cB (ae (bK 64) (ae ay (ax (Tab k .fJ) (ai [aa 0,aa 1,aa 2])) 'g') (cC (.str "says"))) [Z (aJ m ps),Z (.int h),Z (.int x),Z (.int y),Z (.tup (cs.map aY)),Z (.tup (cs'.map aY)),am,am,am]=Z (a==h):=by
   have:bK 64 (.str (if(a==h)=be then "says" else "hears")) (.str "says")=Z (.bl (a==h)):=by cases(a==h)<;>rfl
   exact aU (au (au (aP (aj W (aj W 'l')) C) W (Zo4 h a b)) W this)
  have C3:cB (ae (uP 64) (cf [am] (bV (aa 4)) (gN 0) (λ_=>Z be) (gu (aa 0) eU (c6 (cC (.int 2))))) (cf [am] (bV (aa 5)) (gN 0) (λ_=>Z be) (gu (aa 0) eU (c6 (cC (.int 2)))))) [Z (aJ m ps),Z (.int h),Z (.int x),Z (.int y),Z (.tup (cs.map aY)),Z (.tup (cs'.map aY)),am,am,am]=Z (!c):=aU (au (L_ cs l1 W) (L_ cs' l2 W) g);by_cases z:(a==h&&!c)=be
  ·rw[cJ,beq_iff_eq,sX]at z;refine⟨be,run be (eX (k7 I W) (iZ (by rw[uU (yi (by rw[C2];simpa using z.1) (by rw[C3,z.2];rfl))];rfl))),⟨λ_=>.inr (.inl ⟨z.1,λq=>?_⟩),λ_=>rfl⟩⟩;have:=U.mpr q;rw[z.2]at this;injection this
  ·have C4:=pM C2 C3;rw[show(a==h&&!c)=bi by simpa using z]at C4;have nz:¬(a=h/\cs.map wk≠cs'.map wk):=λ⟨N,O⟩=>z (by rw[cJ,beq_iff_eq,sX];exact⟨N,jR.mpr λw=>O (U.mp w)⟩);obtain⟨o,f1,t⟩:=L7 (b0:=Z (aJ m ps)) (b1:=Z (.int h)) (b2:=Z (.int x)) (b3:=Z (.int y)) (b4:=Z (.tup (cs.map aY))) H l2 cs am am am d1;rcases t with⟨rfl,t⟩|⟨⟨o6,o7,o8,rfl⟩,t⟩
   ·exact⟨be,run be (eX (k7 I W) (eX (k7 C4 W) (iZ (by unfold hY;rw[show bV (aa 4) _=Z (cs.map aY) from W,bx];exact f1)))),⟨λ_=>.inr (.inr (hb.mp t)),λ_=>rfl⟩⟩
   ·refine⟨bi,run bi (eX (k7 I W) (eX (k7 C4 W) (eX (by unfold hY;rw[show bV (aa 4) _=Z (cs.map aY) from W,bx];exact f1) W))),⟨λw=>(nomatch w),λw=>?_⟩⟩;rcases w with w|w|w
    ·exact(w er).elim
    ·exact(nz w).elim
    ·exact(t (hb.mpr w)).elim
theorem ot:∀{cs:List Ch},(cs.map (·.1)).Nodup->∀c∈cs,c.1=w->atK (cs.map kW) (cs.map vW) (.inr w)=Z (vW c)
 |[],_,_,a,_=>nomatch a|x::cs,hn,c,a,e=>by
  rw[br,gf]at hn;show(if kW x=.inr w then Z (vW x)else atK (cs.map kW) (cs.map vW) (.inr w))=_;rcases a7.mp a with q|q;·rw[if_pos (by rw[<-q,<-e];rfl),q]
  ·rw[if_neg λz=>hn.1 (by rw[show x.1=w from vV z,<-e];exact aL.mpr ⟨c,q,W⟩)];exact ot hn.2 c q e
theorem CH:∀{cs:List Ch},(¬ ∃d∈cs,d.1=w)->atK (cs.map kW) (cs.map vW) (.inr w)=am|[],_=>rfl|x::cs,q=>by show(if kW x=.inr w then Z (vW x)else atK (cs.map kW) (cs.map vW) (.inr w))=am;rw[if_neg λz:kW x=.inr w=>q ⟨x,bE,vV z⟩];exact CH<|by rintro⟨d,a,e⟩;exact q ⟨d,cx _ a,e⟩
theorem Ma{cs':List Ch}(hn:(cs'.map (·.1)).Nodup)(d':∀c∈cs',c.2.1.dp<=2):∀{cs:List Ch},(∀c∈cs,c.2.1.dp<=2)->∃r,kY 64 (cs'.map kW) (cs'.map vW) (cs.map kW) (cs.map vW)=Z r/\(r=be↔∀c∈cs,wk c∈cs'.map wk)
 |[],_=>⟨be,W,⟨λ_ c j=>(nomatch j),λ_=>rfl⟩⟩|c::cs,h=>by
  obtain⟨r,e,m⟩:=Ma hn d' (cs:=cs) λx p=>h x (cx _ p);show ∃r,(match atK (cs'.map kW) (cs'.map vW) (kW c)with|none=>Z bi|some y=>(cX 64 (vW c) y).bind λe=>(kY 64 (cs'.map kW) (cs'.map vW) (cs.map kW) (cs.map vW)).map (e&& ·))=Z r/\_;have i:(∀x∈c::cs,wk x∈cs'.map wk)↔wk c∈cs'.map wk/\∀x∈cs,wk x∈cs'.map wk:=zq;by_cases q:∃d∈cs',d.1=c.1
  ·obtain⟨d,a,q⟩:=q;have z:=ot hn d a q;obtain⟨k1,k2⟩:=yA (h c bE) (d' d a);refine⟨kq c.2.1 d.2.1&&r,?_,?_⟩;·rw[show atK (cs'.map kW) (cs'.map vW) (kW c)=_ from z];show(cX 64 c.2.1.toD d.2.1.toD).bind _=_;rw[k1,e];rfl
   ·rw[cJ,k2,m,i];refine and_congr_left λ_=>⟨λw=>aL.mpr ⟨d,a,by unfold wk;rw[q,w]⟩,λw=>?_⟩;obtain⟨f,g,b⟩:=aL.mp w;have b:(f.1,f.2.1)=(c.1,c.2.1):=b;rw[zr]at b;have:=ot hn f g b.1;rw[z]at this;rw[<-b.2];exact(vb (ao this)).symm
  ·refine⟨bi,by rw[show atK (cs'.map kW) (cs'.map vW) (kW c)=am from CH q],⟨λw=>(nomatch w),λw=>?_⟩⟩;obtain⟨d,a,e⟩:=aL.mp (i.mp w).1;have e:(d.1,d.2.1)=(c.1,c.2.1):=e;rw[zr]at e;exact(q ⟨d,a,e.1⟩).elim
theorem Mb{C cs':List Ch}(i:(C.map (·.1)).Nodup)(hn:(cs'.map (·.1)).Nodup)(d':∀c∈cs',c.2.1.dp<=2):∀(cs:List Ch)(o:Option D),(∀c∈cs,c∈C/\c.2.1.dp<=2)->∃bs:List Bool,bT (gN 0) (cB (ae iu (aa 0) (aa 2))) (ae (bK 64) (ae ir (aa 1) (aa 0)) (ae ir (aa 2) (aa 0))) [o,Z (.aW (C.map kW) (C.map vW)),Z (.aW (cs'.map kW) (cs'.map vW))] ((cs.map kW).map kD)=Z (bs.map D.bl)/\(bs.all id=be↔∀c∈cs,∀d∈cs',d.1=c.1->d.2.1=c.2.1)
 |[],_,_=>⟨[],W,⟨λ_ c m=>(nomatch m),λ_=>rfl⟩⟩|c::cs,o,h=>by
  obtain⟨bs,e,j⟩:=Mb i hn d' cs (Z (.str c.1)) λx p=>h x (cx _ p);have a:iu (.str c.1) (.aW (cs'.map kW) (cs'.map vW))=Z (.bl (atK (cs'.map kW) (cs'.map vW) (kW c)).isSome):=rfl;have r:(∀x∈c::cs,∀d∈cs',d.1=x.1->d.2.1=x.2.1)↔(∀d∈cs',d.1=c.1->d.2.1=c.2.1)/\∀x∈cs,∀d∈cs',d.1=x.1->d.2.1=x.2.1:=zq;show ∃bs:List Bool,bT _ _ _ _ (.str c.1::(cs.map kW).map kD)=Z (bs.map D.bl)/\_;rw[r];by_cases q:∃d∈cs',d.1=c.1
  ·obtain⟨d,b,q⟩:=q;have z:=ot hn d b q;rw[show atK (cs'.map kW) (cs'.map vW) (kW c)=_ from z]at a;obtain⟨k1,k2⟩:=yA (h c bE).2 (d' d b);refine⟨kq c.2.1 d.2.1::bs,jK (ρ':=[Z (.str c.1),Z (.aW (C.map kW) (C.map vW)),Z (.aW (cs'.map kW) (cs'.map vW))]) W (aU (au W W a)) (au (au W W (oh W (ot i c (h c bE).1 W))) (au W W (oh W z)) ?_) e,?_⟩;·show(cX 64 c.2.1.toD d.2.1.toD).map D.bl=_;rw[k1];rfl
   ·rw[gg,cJ,j];refine and_congr_left λ_=>(show id (kq c.2.1 d.2.1)=be↔_ from k2).trans ⟨λw t f g=>?_,λw=>(w d b q).symm⟩;have:=ot hn t f g;rw[z]at this;rw[w];exact(vb (ao this)).symm
  ·have u:cB (ae iu (aa 0) (aa 2)) [Z (.str c.1),Z (.aW (C.map kW) (C.map vW)),Z (.aW (cs'.map kW) (cs'.map vW))]=Z bi:=aU (au W W (by rw[a,show atK (cs'.map kW) (cs'.map vW) (kW c)=am from CH q];rfl));refine⟨bs,?_,j.trans ⟨λw=>⟨λd b g=>(q ⟨d,b,g⟩).elim,w⟩,λw=>w.2⟩⟩;simp only[bT,gN,qI,bx,u,ll,if_false];exact e
theorem Mc{j c:Type}{f:j->c}{lt:c->c->Prop}(a:∀x,¬lt x x)(as:∀x y,lt x y->lt y x->False):∀{xs ys:List j},(xs.map f).Pairwise lt->(ys.map f).Pairwise lt->(∀x∈xs,x∈ys)->ys.length<=xs.length->xs=ys
 |[],[],_,_,_,_=>rfl|[],y::ys,_,_,_,h=>by simp at h|x::xs,[],_,_,h,_=>nomatch h x bE|x::xs,y::ys,d,g,h,m=>by
  rw[br,g_]at d g;have b:∀z∈xs,lt (f x) (f z):=λz hz=>d.1 _ (aL.mpr ⟨z,hz,W⟩);have i:∀z∈ys,lt (f y) (f z):=λz hz=>g.1 _ (aL.mpr ⟨z,hz,W⟩);have p:∀z∈xs,z∈ys:=λz hz=>by
   rcases a7.mp (h z (cx _ hz))with q|q
   ·subst q;rcases a7.mp (h x bE)with r|r;·exact(a _ (r▸b z hz)).elim
    ·exact(as _ _ (b z hz) (i x r)).elim
   ·exact q
  have e:=Mc a as d.2 g.2 p (by simpa using m);subst e;rcases a7.mp (h x bE)with r|r;·rw[r]
  ·exact(a _ (b x r)).elim
theorem ZlS{cs cs':List Ch}(r:dY (cs.map (·.1))=be)(d:dY (cs'.map (·.1))=be)(e:cs.length=cs'.length)(h:∀c∈cs,wk c∈cs'.map wk):cs.map wk=cs'.map wk:=by
 have hw:∀l:List Ch,(l.map wk).map (·.1)=l.map (·.1):=λl=>by rw[ej];rfl
 refine Mc (f:=(·.1)) (lt:=λa b=>bC a b=be) (λx h=>B8 h W) (λx y g i=>B8 (nN g i) W) (by rw[hw];exact sf r) (by rw[hw];exact sf d) (λx j=>?_) (by rw[aE,aE];exact vv e.symm);obtain⟨c,m,rfl⟩:=aL.mp j;exact h c m
theorem yB{n:Nat}(hn:2<=n){p q:Pl}(H:p.OK m N)(I:q.OK m N)(sp:p.iB=be)(Q:q.iB=be):oo n h p q=be↔¬iD h p q:=by cases p with|fin=>injection sp|say a b cs=>cases q with|fin=>injection Q|say v y cs'=>
 have j:=om H.o2;have A:=om I.o2;have d1:∀c∈cs,c.2.1.dp<=2:=λc f=>(j.ok c f).2;have J:∀c∈cs',c.2.1.dp<=2:=λc f=>(A.ok c f).2;have T:=H.2.2.2.2.2.2.2.2;have U:=I.2.2.2.2.2.2.2.2;obtain⟨e,n1,n2⟩:=L8 h a b v y;have B:∃r,u6 (bZ h a b) (bZ h v y) (.aW (cs.map kW) (cs.map vW)) (.aW (cs'.map kW) (cs'.map vW)) (a==h)=Z (.bl r)/\(r=be↔¬iD h (.say a b cs) (.say v y cs')):=by unfold u6;rw[n1,bx];show ∃r,_/\(r=be↔¬(bZ h a b≠bZ h v y\/(a=h/\cs.map wk≠cs'.map wk)\/∃c∈cs,∃g∈cs',g.1=c.1/\g.2.1≠c.2.1));cases e with|false=>exact⟨bi,W,⟨λw=>(nomatch w),λw=>(w (.inl λz=>nomatch n2.mpr z)).elim⟩⟩|true=>
   have L:=n2.mp W;simp only[Dv];by_cases z:(a==h)=be
   ·rw[if_pos z];have z:=beq_iff_eq.mp z;obtain⟨r,e,E⟩:=Ma A.nd J d1;have Y:uL 64 (.aW (cs.map kW) (cs.map vW)) (.aW (cs'.map kW) (cs'.map vW))=(if(cs.map kW).length=(cs'.map kW).length then(kY 64 (cs'.map kW) (cs'.map vW) (cs.map kW) (cs.map vW)).map D.bl else Z (.bl bi)):=rfl;rw[Y,e,aE,aE];by_cases l:cs.length=cs'.length
    ·rw[if_pos l];refine⟨r,W,E.trans ⟨λw=>?_,λw c f=>?_⟩⟩
     ·have w:=ZlS T U l w;rintro(q|⟨_,q⟩|⟨c,f,g,i,G,t⟩);·exact q L
      ·exact q w
      ·have:wk g∈cs.map wk:=w▸aL.mpr ⟨g,i,W⟩;obtain⟨x,hx,u⟩:=aL.mp this;have u:(x.1,x.2.1)=(g.1,g.2.1):=u;rw[zr]at u;have M:=ot j.nd x hx (u.1.trans G);rw[ot j.nd c f W]at M;exact t (u.2▸(vb (ao M)).symm)
     ·have w:cs.map wk=cs'.map wk:=zp λq=>w (.inr (.inl ⟨z,q⟩));exact w▸aL.mpr ⟨c,f,W⟩
    ·rw[if_neg l];refine⟨bi,W,⟨λw=>(nomatch w),λw=>(w (.inr (.inl ⟨z,λq=>l ?_⟩))).elim⟩⟩;have:=congrArg qm q;simpa using this
   ·rw[if_neg z];obtain⟨bs,e,hb⟩:=Mb (C:=cs) j.nd A.nd J cs am λc O=>⟨O,d1 c O⟩
    refine⟨bs.all id,?_,hb.trans ⟨λw=>?_,λw c f d hd q=>zp λt=>w (.inr (.inr ⟨c,f,d,hd,q,t⟩))⟩⟩;·rw[gz (by rfl) (small (by simp;have:=j.le;exact fo this)) e,bx];have:=all_map id bs;simpa using this
    ·rintro(q|⟨q,_⟩|⟨c,f,g,i,G,t⟩)
     ·exact q L
     ·exact z (beq_iff_eq.mpr q)
     ·exact t (w c f g i G)
 obtain⟨r,e,E⟩:=B;rw[Ly (Lu hn j A e)];exact E
def FA{b:Type}(l:List b)(P:b->Prop)(I:ag->Prop)(v:D)(o:Out):Prop:=(o=.ret v/\∃a∈l,P a)\/∃r,o=.aF r/\I r/\∀a∈l,¬P a
theorem Md{c:Type}{f:c->D}{g:D->ag->Option ag}{gb:ag->Option Out}{I:ag->Prop}{P:c->Prop}:∀(l:List c){b:ag},I b->(∀a∈l,∀b,I b->∃r,g (f a) b=Z r/\Ev (gb r) λo=>(o=.ret v/\P a)\/∃r,o=.aF r/\I r/\¬P a)->Ev (iN g gb (l.map f) b) (FA l P I v)
 |[],b,i,_=>⟨_,W,.inr ⟨b,W,i,λ_ h=>nomatch h⟩⟩|a::l,b,i,j=>by
  obtain⟨A,m,o,q,h|⟨B,rfl,i2,h⟩⟩:=j a bE b i;·exact⟨_,by simp only[br,iN,m,q,bx,h.1],.inl ⟨W,a,bE,h.2⟩⟩
  ·obtain⟨o,t,u⟩:=Md l i2 λx d=>j x (cx _ d);exact⟨o,by simpa only[br,iN,m,q,bx]using t,u.imp (by rintro⟨e,x,d,p⟩;exact⟨e,x,cx _ d,p⟩)<|by rintro⟨w,e,y,z⟩;exact⟨w,e,y,zq.mpr ⟨h,z⟩⟩⟩
theorem Me{c:Type}{f:c->D}{l:List c}{fi:ag->Option (List D)}{d:D->ag->Option ag}{gb:ag->Option Out}(I:ag->Prop)(P:c->Prop)(h:fi b=Z (l.map f))(i:I b)(s:∀a∈l,∀b,I b->∃r,d (f a) b=Z r/\Ev (gb r) λo=>(o=.ret v/\P a)\/∃r,o=.aF r/\I r/\¬P a):Ev (hY fi d gb b) (FA l P I v):=by unfold hY;rw[h];exact Md l i s
theorem Zo5{n:Nat}(hn:3<=n){ps:List Pl}(C:G2 m ps){S T F:List Int}(L:S.length<64)(e:∀s∈T,(0<=s/\s<ps.length)/\aA ps h s=be):∃r,Tab n .fN [aJ m ps,.int h,.tup (S.map .int),.lst (T.map .int),.lst (F.map .int)]=Z (.bl r)/\(r=be↔(∀x∈T,∀y∈T,¬iD h (aB ps x) (aB ps y))/\(T=[]\/∀z∈S,z∈F)):=by
 obtain⟨k,rfl,E⟩:=cD (c:=2) hn;rw[tab];obtain⟨o,g,i⟩:Ev (hY _ (gN 5) (hY _ (gN 6) (bY _ _ _)) (kJ 7 [aJ m ps,.int h,.tup (S.map .int),.lst (T.map .int),.lst (F.map .int)])) _:=Me (gb:=hY (bV (aa 3)) (gN 6) (bY (cB (ax (Tab k .fM) (ai [aa 0,aa 1,aa 5,aa 6]))) (bj (cC (.bl bi))) (cR))) (fi:=bV (aa 3)) (l:=T) (f:=.int) (v:=.bl bi) (λj=>∃p a,j=[Z (aJ m ps),Z (.int h),Z (.tup (S.map .int)),Z (.lst (T.map .int)),Z (.lst (F.map .int)),p,a]) (λx=>∃y∈T,iD h (aB ps x) (aB ps y)) W ⟨_,_,W⟩ (by rintro x d _ ⟨p,a,rfl⟩;refine⟨_,W,(Me (l:=T) (f:=.int) (λj=>∃a,j=[Z (aJ m ps),Z (.int h),Z (.tup (S.map .int)),Z (.lst (T.map .int)),Z (.lst (F.map .int)),Z (.int x),a]) (λy=>iD h (aB ps x) (aB ps y)) W ⟨_,W⟩ ?_).imp λo h=>h.imp id<|by rintro⟨r,G,⟨a,H⟩,I⟩;exact⟨r,G,⟨_,a,H⟩,by rintro⟨y,b,u⟩;exact I y b u⟩⟩;rintro y b _ ⟨a,rfl⟩;obtain⟨r,q,A⟩:=Zj5 E C (e x d).1 (e y b).1 (e x d).2 (e y b).2;refine⟨_,W,?_⟩;cases r with|true=>exact⟨_,KU (aU (aP (aj W (aj W (aj W 'l'))) q)) W,.inl ⟨W,A.mp W⟩⟩|false=>exact⟨_,k7 (aU (aP (aj W (aj W (aj W 'l'))) q)) W,.inr ⟨_,W,⟨_,W⟩,λz=>nomatch A.mpr z⟩⟩);rcases i with⟨rfl,x,d,y,b,J⟩|⟨_,rfl,⟨p,a,rfl⟩,i⟩;·exact⟨bi,oq (n:=7) (iZ g) W,⟨λw=>(nomatch w),λw=>(w.1 x d y b J).elim⟩⟩
 ·have B:∀x∈T,∀y∈T,¬iD h (aB ps x) (aB ps y):=λx d y b u=>i x d ⟨y,b,u⟩;cases T with|nil=>exact⟨be,oq (n:=7) (eX g W) W,⟨λ_=>⟨B,.inl W⟩,λ_=>rfl⟩⟩|cons t T=>
   refine⟨((S.filter λz=>!decide (z∈F)).map D.int).isEmpty,oq (n:=7) (eX g (n9 ?_)) W,?_⟩;·show uz _ _=_;unfold uz;rw[pP (gz (gC (x:=.tup (S.map .int)) W W) (small (by rw[aE];lia)) (qc (tl:=[Z (.lst (F.map .int))]) _ _ λx d=>aU (au W W (Cy F x)))) (yz _),bx,Zvz]
   ·rw[List.isEmpty_iff,ZvD,Er];refine⟨λw=>⟨B,.inr λz hz=>?_⟩,λw z hz=>?_⟩;·have:=w z hz;simpa using this
    ·have:=w.2.resolve_left 'k' z hz;simpa using this
noncomputable def gD(G:List Int):D:=.tup (G.map .int)
def bp(ps:List Pl)(T:List Int):List Ch:=T.flatMap λx=>(aB ps x).bo
def eP(ps:List Pl)(T:List Int)(w:Str):List Ch:=(bp ps T).filter λc=>c.1==w
def cH(ps:List Pl)(h:Int)(T:List Int)(w:Str):List Int:=eF ps h ((eP ps T w).map (·.2.2))
def b7(ps:List Pl)(T:List Int):List Str:=d8 (c9 ((bp ps T).map (·.1)))
def bt(ps:List Pl)(h:Int)(T:List Int)(s:List (List Int)×List D)(w:Str):List (List Int)×List D:=let K:=if cH ps h T w∈s.1 then s.1 else s.1++[cH ps h T w]
 (K,s.2++[.tup [.str w,(((eP ps T w).head?).map vW).getD .aC,.int (K.idxOf (cH ps h T w):Nat)]])
def mV(ps:List Pl)(h t:Int)(cs:List D):D:=match jo h (aB ps t)with|.tup xs=>.tup (xs++[.tup cs])|d=>d
noncomputable def kM(u:MU)(Q:D×List (Addr×ET)->Prop):aK->Prop|.aF r=>Ev (u r) Q|_=>False
theorem ou(h:Ev (u r) Q):kM u Q (.aF r):=h
theorem ov(h:Ev (g r) (kM u Q)):Ev (kZ g u r) Q:=by obtain⟨o,e,k⟩:=h;cases o with|aF b=>obtain⟨x,a,q⟩:=k;exact⟨x,by simp[kZ,e,a],q⟩|_=>exact k.elim
theorem Mf{r:ar}{ds es:List D}(a:h7 i r=Z ds)(b:f r=Z es)(c:ds.length+es.length<=aD)(k:Q (.aF (r.set i (Z (.own (ds++es)))))):Ev (ui i f r) Q:=⟨_,by simp[ui,a,b,c],k⟩
theorem uA:∀Ks:List (List Int),lW (Ks.map gD)=Z Ks|[]=>rfl|G::Ks=>by show(intsOf (G.map D.int)).bind (λa=>(lW (Ks.map gD)).map (a:: ·))=_;rw[u4,uA Ks];rfl
theorem ZsS(G:List Int)(Ks:List (List Int)):Bs (gD G) (.lst (Ks.map gD))=Z (.bl (!decide (G∈Ks))):=by show(intsOf (G.map D.int)).bind (λm=>(lW (Ks.map gD)).map λbs=>D.bl (!decide (m∈bs)))=_;rw[u4,uA];rfl
theorem Zq_{Ks:List (List Int)}(h:G∈Ks):Bt (.lst (Ks.map gD)) (gD G)=Z (.int (Ks.idxOf G:Nat)):=by show(intsOf (G.map D.int)).bind (λm=>(lW (Ks.map gD)).bind λbs=>if m∈bs then Z (D.int (bs.idxOf m:Nat))else am)=_;rw[u4,uA];exact if_pos h
section
variable {ps:List Pl}{h:Int}{T:List Int}
theorem Zrl(s:List (List Int)×List D)(w:Str):s.1.length<=(bt ps h T s w).1.length:=by
 show _<=(if _ then _ else _:List (List Int)).length;split;·exact ba _
 ·rw[bB];lia
theorem Mg:∀(ws:List Str)(s:List (List Int)×List D),s.1.length<=(ws.foldl (bt ps h T) s).1.length|[],_=>ba _|w::ws,s=>cv (Zrl s w) (Mg ws _)
theorem Mh:∀(ws:List Str)(s:List (List Int)×List D),(ws.foldl (bt ps h T) s).2.length=s.2.length+ws.length|[],_=>rfl|w::ws,s=>by rw[DU,Mh ws];show(s.2++[_]).length+_=_;rw[bB,bh,jP,bh];lia
theorem Mi:∀(xs ys:List D),cO (xs++ys)=(cO xs&&cO ys)|[],_=>rfl|x::xs,ys=>by show(cG x&&cO (xs++ys))=_;rw[Mi xs ys,<-Ov];rfl
theorem yC:∀(ws:List Str)(s:List (List Int)×List D),cO s.2=be->cO (ws.foldl (bt ps h T) s).2=be|[],_,q=>q|w::ws,s,q=>by rw[DU];refine yC ws _ ?_;show cO (s.2++[_])=be;rw[Mi,q,oJ];cases(eP ps T w).head? with|none=>rfl|some c=>simp[cO,cG,vW,pU]
theorem CI:w∈b7 ps T↔∃x∈T,∃c∈(aB ps x).bo,c.1=w:=by unfold b7;rw[(iM _).mem_iff,uv,aL];unfold bp;simp only[nk];exact⟨by rintro⟨c,⟨x,a,b⟩,e⟩;exact⟨x,a,c,b,e⟩,by rintro⟨x,a,c,b,e⟩;exact⟨c,⟨x,a,b⟩,e⟩⟩
theorem Mj(b:(bp ps T).length<64)(hz:((b7 ps T).foldl (bt ps h T) (Ks,[])).1.length<=aD)(hw:(b7 ps T)[j]?=Z w):((b7 ps T).take (j+1)).foldl (bt ps h T) (Ks,[])=bt ps h T (((b7 ps T).take j).foldl (bt ps h T) (Ks,[])) w/\(((b7 ps T).take (j+1)).foldl (bt ps h T) (Ks,[])).1.length<=aD/\(((b7 ps T).take j).foldl (bt ps h T) (Ks,[])).2.length<aD/\cO (((b7 ps T).take (j+1)).foldl (bt ps h T) (Ks,[])).2=be:=by
 have a:((b7 ps T).take (j+1)).foldl (bt ps h T) (Ks,[])=bt ps h T (((b7 ps T).take j).foldl (bt ps h T) (Ks,[])) w:=by rw[jv,hw,En,DV];rfl
 have l1:(((b7 ps T).take (j+1)).foldl (bt ps h T) (Ks,[])).1.length<=aD:=by refine cv (Mg (ps:=ps) (h:=h) (T:=T) ((b7 ps T).drop (j+1)) _) ?_;rw[<-DV,Em];exact hz
 have l2:(((b7 ps T).take j).foldl (bt ps h T) (Ks,[])).2.length<aD:=by
  rw[Mh];have:=rC ((bp ps T).map (·.1));have:=(iM (c9 ((bp ps T).map (·.1)))).length_eq;have:(b7 ps T).length=(d8 (c9 ((bp ps T).map (·.1)))).length:=rfl;have:64<=aD:=by decide
  simp at*;lia
 exact⟨a,l1,l2,yC _ _ W⟩
theorem Mk(hw:w∈b7 ps T):∃c l,eP ps T w=c::l:=by refine a9 (CI.mp hw) λx b a=>a9 a λc d e=>?_;clear a;have:c∈eP ps T w:=dt.mpr ⟨nk.mpr ⟨x,b,d⟩,beq_iff_eq.mpr e⟩;cases q:eP ps T w with|nil=>rw[q]at this;cases this|cons c l=>exact⟨c,l,W⟩
theorem Ml(b:G2 m ps):∀s:Int,s∈(eP ps T w).map (λc:Ch=>c.2.2)->0<=s/\s<ps.length:=λs d=>by obtain⟨c,a,rfl⟩:=aL.mp d;obtain⟨x,_,a⟩:=nk.mp (dt.mp a).1;exact((oi (mS b) x).2 c a).2.2.2
theorem Mm(a:(bp ps T).length<64):(eP ps T w).length<64:=iG (ZvE _ _) a
end
theorem ZlU{n:Nat}(hn:3<=n){ps:List Pl}(U:G2 m ps)(hp:ps.length<64){T:List Int}(Y:∀s∈T,(0<=s/\s<ps.length)/\aA ps h s=be)(L:T[0]?=Z t)(I:(bp ps T).length<64){Ks:List (List Int)}(hz:((b7 ps T).foldl (bt ps h T) (Ks,[])).1.length<=aD):iR (Tab n .fO) [aJ m ps,.int h,gD S,.lst (T.map .int)] [(am,Ks.map gD)]=Z (mV ps h t ((b7 ps T).foldl (bt ps h T) (Ks,[])).2,[(am,((b7 ps T).foldl (bt ps h T) (Ks,[])).1.map gD)]):=by
 obtain⟨k,rfl,hk⟩:=cD (c:=2) hn;have M:=Y t (cj L);have v:=su (n:=k) (m:=m) (h:=h) (fu hk) M.1.1 M.1.2;obtain⟨x,y,A,nx,ny⟩:∃x y,jo h (aB ps t)=.tup [x,y]/\cG x=be/\cG y=be:=by have q:=M.2;unfold aA at q;unfold jo;cases e:aB ps t with|fin=>rw[e]at q;injection q|say a b cs=>
   rw[e]at q;refine(show ∃x y,(if(a==h||b==h)=be then bZ h a b else .aC)=D.tup [x,y]/\_ from ?_);rw[if_pos q];unfold bZ;split;·exact⟨_,_,W,W,W⟩
   ·exact⟨_,_,W,W,W⟩
 rw[A]at v;rw[show mV ps h t ((b7 ps T).foldl (bt ps h T) (Ks,[])).2=.tup [x,y,.tup ((b7 ps T).foldl (bt ps h T) (Ks,[])).2] by unfold mV;rw[A];rfl];rw[show Tab (k+1) .fO=encM (runM 11 (BY (Tab k)) 4 1) from W,Bx];refine Jv ⟨W,W⟩ W λas ha=>Ev.eq ?_;obtain⟨a,rfl⟩:=ZvF.mp ha;unfold BY;refine ov (f9 (ds:=[]) W (ou (ov (ki (ds:=T.map .int) W ?_))));show Ev (dq _ _ _ [_,_,_,_,Z (.xt (.x a) (Ks.map gD)),_,_,_,_,_,_]) _;refine jl (λR (j:Nat) r=>∃g,r=[Z (.ak (aJ m ps)),Z (.ak (.int h)),Z (.ak (gD S)),Z (.ak (.lst (T.map .int))),Z (.xt (.x a) (Ks.map gD)),Z (.own ((bp ps (T.take j)).map aY)),g,am,am,am,am]) ⟨am,W⟩ ?_ ?_
 ·rintro j d r B ⟨g,rfl⟩;rw[bW,bu]at B;obtain⟨z,C,rfl⟩:=B;have i:=Y z (cj C);have E:=jk (m:=m) i.1.1 i.1.2;have hS:∃a b,aB ps z=.say a b (aB ps z).bo:=by have q:=i.2;unfold aA at q;cases e:aB ps z with|fin=>rw[e]at q;injection q|say a b cs=>exact⟨a,b,W⟩
  obtain⟨a1,b1,eS⟩:=hS;have J:bp ps (T.take (j+1))=bp ps (T.take j)++(aB ps z).bo:=by unfold bp;rw[jv,C,En,vU,qM,Zvx,eZ]
  have hl:(bp ps (T.take j)).length+(aB ps z).bo.length<=(bp ps T).length:=by
   rw[<-bB,<-J];conv=>rhs;rw[<-Em (j+1) T]
   unfold bp;rw[vU,bB];lia
  rw[eS]at E;refine⟨_,W,Mf (ds:=(bp ps (T.take j)).map aY) (es:=(aB ps z).bo.map aY) W (mO ?_) (by rw[aE,aE];exact cv hl (cv (du I) 'a')) (dS ⟨Z (.ak (.int z)),?_⟩)⟩
  ·show(ae ay (ae ay (ae ay (aa 0) 'c') (aa 6)) (cC (.int 3)) _).bind Ho=_;rw[au (au (au W W (aX c_)) W (aX E)) W (aX iz)];rfl
  ·rw[J,bX];rfl
 rintro r ⟨g,rfl⟩;rw[aE,jS];refine ou ?_;have dr:∀u:MU,xQ 5 u [Z (.ak (aJ m ps)),Z (.ak (.int h)),Z (.ak (gD S)),Z (.ak (.lst (T.map .int))),Z (.xt (.x a) (Ks.map gD)),Z (.own ((bp ps T).map aY)),g,am,am,am,am]=u [Z (.ak (aJ m ps)),Z (.ak (.int h)),Z (.ak (gD S)),Z (.ak (.lst (T.map .int))),Z (.xt (.x a) (Ks.map gD)),Z (.ak (.lst ((bp ps T).map aY))),g,am,am,am,am]:=λ_=>rfl;rw[dr];refine ov (f9 (ds:=[]) W (ou (ov (ki (ds:=(b7 ps T).map .str) ?_ ?_))))
 ·refine gC (x:=.lst ((b7 ps T).map .str)) ?_ W;have cw:cf [am] (bV (aa 5)) (gN 0) (λ_=>Z be) (ae ay (aa 0) 'g') (pv [Z (.ak (aJ m ps)),Z (.ak (.int h)),Z (.ak (gD S)),Z (.ak (.lst (T.map .int))),Z (.xt (.x a) (Ks.map gD)),Z (.ak (.lst ((bp ps T).map aY))),g,Z (.own []),am,am,am])=Z (.lst ((bp ps T).map λc=>.str c.1)):=gz (gC (x:=.lst ((bp ps T).map aY)) W W) (small (by rw[aE];lia)) (sr (tl:=[]) _ _ λc _=>au W W (aX cT));show(cf [am] (bV (aa 5)) (gN 0) (λ_=>Z be) (ae ay (aa 0) 'g') (pv [Z (.ak (aJ m ps)),Z (.ak (.int h)),Z (.ak (gD S)),Z (.ak (.lst (T.map .int))),Z (.xt (.x a) (Ks.map gD)),Z (.ak (.lst ((bp ps T).map aY))),g,Z (.own []),am,am,am])).bind H4=_;rw[cw,bx];show(if((bp ps T).map λc=>D.str c.1).length<64 then(strsOf ((bp ps T).map λc=>D.str c.1)).map _ else am)=_;rw[if_pos (by rw[aE];exact I),show((bp ps T).map λc=>D.str c.1)=((bp ps T).map (·.1)).map D.str by rw[ej];rfl,uT];rfl
 show Ev (dq _ _ _ [_,_,_,_,Z (.xt (.x a) (Ks.map gD)),_,_,_,_,_,_]) _;refine jl (λR (j:Nat) r=>∃G H f,r=[Z (.ak (aJ m ps)),Z (.ak (.int h)),Z (.ak (gD S)),Z (.ak (.lst (T.map .int))),Z (.xt (.x a) ((((b7 ps T).take j).foldl (bt ps h T) (Ks,[])).1.map gD)),Z (.ak (.lst ((bp ps T).map aY))),g,Z (.own (((b7 ps T).take j).foldl (bt ps h T) (Ks,[])).2),G,H,f]) ⟨am,am,am,W⟩ ?_ ?_
 ·rintro j d r B ⟨G,H,f,rfl⟩;rw[bW,bu]at B;obtain⟨w,hw,rfl⟩:=B;obtain⟨J,l1,l2,n2⟩:=Mj (h:=h) I hz hw;rw[J]at l1 n2⊢;generalize((b7 ps T).take j).foldl (bt ps h T) (Ks,[])=s at l1 l2 n2⊢;obtain⟨N,l0,ec⟩:=Mk (cj hw);have hhl:=Mm (w:=w) I;have O:=L6 (n:=k) hk U hp (h:=h) (S:=(eP ps T w).map λc:Ch=>c.2.2) (Ml U) (by rw[aE];lia);refine⟨_,W,aV (f9 (ds:=(eP ps T w).map aY) ?_ (aN (Ce ?_)))⟩
  ·exact pQ (oa (gC (x:=.lst ((bp ps T).map aY)) W W) (small (by rw[aE];lia)) (qc (tl:=[Z (.str w)]) _ _ λc _=>aU (au (au W W (aX cT)) W eq_str))) (jL Co _)
  show Ev (aI _ _ [Z (.ak (aJ m ps)),Z (.ak (.int h)),Z (.ak (gD S)),Z (.ak (.lst (T.map .int))),Z (.xt (.x a) (s.1.map gD)),Z (.ak (.lst ((bp ps T).map aY))),g,Z (.own s.2),Z (.ak (.str w)),Z (.ak (.lst ((eP ps T w).map aY))),f]) _;refine aV (df (x:=gD (cH ps h T w)) (cP (aP (aj W (aj W (aj (gz (gC (x:=.lst ((eP ps T w).map aY)) W W) (small (by rw[aE];lia)) (sr (h:=λc:Ch=>.int c.2.2) (tl:=[]) _ _ λc _=>au W W (aX at2))) W))) (by rw[show((eP ps T w).map λc:Ch=>D.int c.2.2)=((eP ps T w).map (·.2.2)).map D.int by rw[ej];rfl];exact O))) (aN (aV (c4 (aU (au W W (ZsS _ _))) ?_))));have fin:∀(Q:aK->Prop)(K:List (List Int)),K=(bt ps h T s w).1->cH ps h T w∈K->Ev (eM 7 (vZ (aH (ai [aa 8,ae ay (ae ay (aa 9) 'g') 'c',xV (aa 4) (aa 10)]))) [Z (.ak (aJ m ps)),Z (.ak (.int h)),Z (.ak (gD S)),Z (.ak (.lst (T.map .int))),Z (.xt (.x a) (K.map gD)),Z (.ak (.lst ((bp ps T).map aY))),g,Z (.own s.2),Z (.ak (.str w)),Z (.ak (.lst ((eP ps T w).map aY))),Z (.ak (gD (cH ps h T w)))]) (kL (λr=>∃G H f,r=[Z (.ak (aJ m ps)),Z (.ak (.int h)),Z (.ak (gD S)),Z (.ak (.lst (T.map .int))),Z (.xt (.x a) ((bt ps h T s w).1.map gD)),Z (.ak (.lst ((bp ps T).map aY))),g,Z (.own (bt ps h T s w).2),G,H,f]) Q):=λQ K eK hK=>by
   have ix:xV (aa 4) (aa 10) (fz [Z (.ak (aJ m ps)),Z (.ak (.int h)),Z (.ak (gD S)),Z (.ak (.lst (T.map .int))),Z (.xt (.x a) (K.map gD)),Z (.ak (.lst ((bp ps T).map aY))),g,Z (.own s.2),Z (.ak (.str w)),Z (.ak (.lst ((eP ps T w).map aY))),Z (.ak (gD (cH ps h T w)))])=Z (.int (K.idxOf (cH ps h T w):Nat)):=Zq_ hK;have e2:(bt ps h T s w).2=s.2++[.tup [.str w,vW N,.int (K.idxOf (cH ps h T w):Nat)]]:=by rw[eK];unfold bt;rw[ec];rfl
   refine k8 W (x:=.tup [.str w,vW N,.int (K.idxOf (cH ps h T w):Nat)]) (kh (bg (aj W (aj (au (au W W (iA (x:=aY N) (by rw[ec,br];exact cT))) W (aX c_)) (aj ix W)))) (by simp[cG,cO,vW,pU])) l2 (dS ⟨Z (.ak (.str w)),Z (.ak (.lst ((eP ps T w).map aY))),Z (.ak (gD (cH ps h T w))),?_⟩);rw[e2,<-eK];rfl
  by_cases p:cH ps h T w∈s.1
  ·refine dO (by simpa using p) (dN (aN ?_));exact fin _ s.1 (by unfold bt;rw[if_pos p]) p
  ·refine eO (by simpa using p) ⟨_,?_,aN (fin _ (s.1++[cH ps h T w]) (by unfold bt;rw[if_neg p]) 'k')⟩;have:s.1.length<aD:=by
    have:(bt ps h T s w).1=s.1++[cH ps h T w]:=by unfold bt;rw[if_neg p]
    rw[this,bB]at l1;simp at l1;assumption
   show(if(s.1.map gD).length<aD then Z (aK.aF (List.set _ 4 (Z (SD.xt (.x a) (s.1.map gD++[gD (cH ps h T w)])))))else am)=_;rw[if_pos (by rw[aE];exact this),bX];rfl
 rintro r ⟨G,H,f,rfl⟩;rw[aE,jS];refine ou ⟨_,?_,W⟩;show(vZ _ _).bind _=_;have nl:=yC (ps:=ps) (h:=h) (T:=T) (b7 ps T) (Ks,[]) W;rw[kh (x:=.tup [x,y,.tup ((b7 ps T).foldl (bt ps h T) (Ks,[])).2]) (au (aP (aj W (aj W (aj (au W W (iA (x:=.int t) ?_)) W))) v) (bg (aj (aP 'l' W) W)) W) (by simp[cG,cO,nx,ny,nl])]
 ·rfl
 ·cases T with|nil=>injection L|cons a l=>(obtain rfl:=ao L);exact cT
section
variable {ps:List Pl}{h:Int}{T:List Int}
theorem ZsT(s:List (List Int)×List D)(w:Str)(q:G∈s.1):G∈(bt ps h T s w).1:=by
 show G∈(if _ then _ else _:List (List Int));split;·exact q
 ·exact d_ _ q
theorem yD:∀(ws:List Str)(s:List (List Int)×List D){G:List Int},G∈s.1->G∈(ws.foldl (bt ps h T) s).1|[],_,_,q=>q|w::ws,s,_,q=>yD ws _ (ZsT s w q)
theorem Mn:∀(ws:List Str)(s:List (List Int)×List D){w:Str},w∈ws->cH ps h T w∈(ws.foldl (bt ps h T) s).1
 |w::ws,s,x,q=>by
  rcases a7.mp q with rfl|q
  ·refine yD ws _ ?_;show _∈(if _ then _ else _:List (List Int));split;·assumption
   ·simp
  ·exact Mn ws _ q
theorem Mo:∀(ws:List Str)(s:List (List Int)×List D){G:List Int},G∈(ws.foldl (bt ps h T) s).1->G∈s.1\/∃w∈ws,G=cH ps h T w
 |[],_,_,q=>.inl q|w::ws,s,G,q=>by
  rcases Mo ws _ q with q|⟨x,a,e⟩
  ·have q:G∈(if cH ps h T w∈s.1 then s.1 else s.1++[cH ps h T w]):=q;split at q;·exact .inl q
   ·rcases bQ.mp q with q|q;·exact .inl q
    ·exact .inr ⟨w,bE,aZ.mp q⟩
  ·exact .inr ⟨x,cx _ a,e⟩
theorem yE:∀(ws:List Str)(s:List (List Int)×List D){j:Nat}{G:List Int},s.1[j]?=Z G->(ws.foldl (bt ps h T) s).1[j]?=Z G
 |[],_,_,_,q=>q|w::ws,s,j,G,q=>by
  refine yE ws _ ?_;show(if cH ps h T w∈s.1 then s.1 else s.1++[cH ps h T w])[j]?=_;split;·exact q
  ·rw[iF (bF.mp q).1];exact q
theorem Mp:∀(ws:List Str)(s:List (List Int)×List D),s.1.Nodup->(ws.foldl (bt ps h T) s).1.Nodup
 |[],_,q=>q|w::ws,s,q=>by
  refine Mp ws _ ?_;show(if cH ps h T w∈s.1 then s.1 else s.1++[cH ps h T w]).Nodup;split;·exact q
  ·rename_i z;exact oP.mpr ⟨q,by simp,λa c b d e=>z (by rw[<-aZ.mp d,<-e];exact c)⟩
end
noncomputable def rg(ps:List Pl):List Int:=(eG ps.length).map λ(i:Nat)=>(i:Int)
def sys(ps:List Pl)(a b:Int)(x:Int):Bool:=match aB ps x with|.say c d _=>c==a&&d==b|.fin=>bi
structure GB(ps:List Pl):Prop where
 w:(bp ps (rg ps)).length<64
 p:∀a b,((rg ps).filter (sys ps a b)).length<=13
noncomputable def yF(m h:Int):List (Int×Int):=[(h,0),(h,1),(h,2),(h,3),(0,h),(1,h),(2,h),(3,h)]
def vc(ps:List Pl)(m h:Int):List (List Int):=eF ps h [0]::(yF m h).flatMap λp=>(subs ((rg ps).filter (sys ps p.1 p.2))).flatMap λT=>((bp ps (rg ps)).map (·.1)).map λw=>cH ps h T w
theorem CJ{a b:Type}{f:a->List b}:∀(l:List a),(∀x∈l,(f x).length<=c)->(l.flatMap f).length<=l.length*c|[],_=>by exact dQ _|x::l,h=>by rw[qM,bB,bh,nq];have:=CJ l λy d=>h y (cx _ d);have:=h x bE;lia
theorem Zo6(a:GB ps)(m h:Int):(vc ps m h).length<16777216:=by
 unfold vc;rw[bh];have:=CJ (c:=8192*63) (f:=λp:Int×Int=>(subs ((rg ps).filter (sys ps p.1 p.2))).flatMap λT=>((bp ps (rg ps)).map (·.1)).map λw=>cH ps h T w) (yF m h) λp _=>by
  refine cv (CJ (c:=63) _ λT _=>?_) (ZvG 63 ?_);·rw[aE,aE];have:=a.w;lia
  ·rw[LY];exact Nat.pow_le_pow_right (by exact oI _) (a.p p.1 p.2)
 have e:(yF m h).length=8:=rfl;rw[e]at this;lia
theorem Mq(c:GB ps){T:List Int}(b:T.Sublist (rg ps)):(bp ps T).length<64:=by refine iG ?_ c.w;unfold bp;generalize rg ps=R at b;induction b with|slnil=>exact ba _|cons a _ d=>rw[qM,bB];lia|cons_cons a _ d=>rw[qM,qM,bB,bB];lia
theorem Zkc(t:(a==h||b==h)=be)(t':(d==h||b'==h)=be)(e:bZ h a b=bZ h d b'):a=d/\b=b':=by
 unfold bZ at e;rw[ZvH,beq_iff_eq,beq_iff_eq]at t t';by_cases q:(a==h)=be
 ·rw[if_pos q]at e;by_cases c:(d==h)=be;·rw[if_pos c]at e;simp at e q c;exact⟨q.trans c.symm,e⟩
  ·rw[if_neg c]at e;simp at e;exact absurd e.1 'a'
 ·rw[if_neg q]at e;by_cases c:(d==h)=be;·rw[if_pos c]at e;simp at e;exact absurd e.1 'a'
  ·rw[if_neg c]at e;simp at e q c;exact⟨e,(t.resolve_left q).trans (t'.resolve_left c).symm⟩
theorem Zrq(p:G2 m ps){T:List Int}(q:T.Sublist (rg ps))(r:∀s∈T,aA ps h s=be)(B:∀x∈T,∀y∈T,¬iD h (aB ps x) (aB ps y))(hw:w∈b7 ps T):cH ps h T w∈vc ps m h:=by refine a9 (CI.mp hw) λx i f=>a9 f λc C E=>?_;clear f;have d:=r x i;have j:=mL p x;unfold aA at d;cases e:aB ps x with|fin=>rw[e]at d;injection d|say a b cs=>
 rw[e]at d j;have all:∀y∈T,sys ps a b y=be:=λy t=>by have g:=r y t;have:=B x i y t;unfold aA at g;unfold sys;cases u:aB ps y with|fin=>rw[u]at g;injection g|say v A cs'=>rw[u]at g this;rw[e]at this;have G:bZ h a b=bZ h v A:=zp λz=>this (.inl z);obtain⟨H,I⟩:=Zkc d g G;show(v==a&&A==b)=be;rw[H,I];simp
 have sub:T.Sublist ((rg ps).filter (sys ps a b)):=by have:=q.filter (sys ps a b);rwa [List.filter_eq_self.mpr all]at this
 unfold vc;refine cx _ (nk.mpr ⟨(a,b),?_,nk.mpr ⟨T,ZoW sub,aL.mpr ⟨w,aL.mpr ⟨c,nk.mpr ⟨x,q.subset i,C⟩,E⟩,W⟩⟩⟩);refine jx j λJ L b0 b1 _=>?_;clear j;have M:=p.2.1;simp only[ZvH,beq_iff_eq]at d;unfold yF;simp only[a7,zr,kC,or_false];lia
theorem CK(ps:List Pl)(h:Int)(S:List Int):(eF ps h S).Sublist (rg ps):=Es
theorem oy(q:aA ps h x=be):(aB ps x).iB=be:=by unfold aA at q;cases e:aB ps x with|fin=>rw[e]at q;injection q|say a b cs=>rfl
theorem qd{ps:List Pl}(h:gK m ps)(i:Int):(aB ps i).OK m ps.length:=by cases e:ps[i.toNat]? with|none=>rw[show aB ps i=.fin by simp[aB,e]];trivial|some p=>rw[show aB ps i=p by simp[aB,e]];exact h.2.2.2.2 p (cj e)
section
variable {e:Nat}{m:Int}{ps:List Pl}{h:Int}
structure PI(ps:List Pl)(m h:Int)(e:Nat)(Ks:List (List Int))(i:Nat):Prop where
 g:Gk (aS ps) 'i' (gX e ps h) Ks i
 n:Ks.Nodup
 c:∀G∈Ks,G∈vc ps m h
 a:∀G∈Ks,∃S,G=eF ps h S
 l:i<=Ks.length
theorem Zr_(f:G2 m ps):PI ps m h e [eF ps h [0]] 0:=by
 have g:(0:Int)<=0/\(0:Int)<ps.length:=⟨by exact zm _,by have:=f.2.2.1;grind⟩;refine⟨⟨⟨_,W,λz t=>iC.mpr ⟨CG f g t,0,bE,t⟩⟩,λG b p c q u=>?_,λG b p c v y w=>?_,λj A=>by grind,λj A=>by omega⟩,by simp,λG b=>?_,λG b=>⟨_,aZ.mp b⟩,dQ _⟩;·rw[aZ.mp b]at c u;refine bc (iC.mp c) λ_ a=>a9 a λs i d=>?_;clear a;refine bc (iC.mp u) λ_ a=>a9 a λC r x=>?_;clear a;rw[aZ.mp i]at d;rw[aZ.mp r]at x;exact LX .z d x
 ·rw[aZ.mp b]at c⊢;refine bc (iC.mp c) λB a=>a9 a λs i d=>?_;clear a;exact iC.mpr ⟨CG f B (.s .z v w),s,i,.s d v w⟩
 ·rw[aZ.mp b];exact bE
theorem qe(a:GB ps){Ks:List (List Int)}(p:PI ps m h e Ks i):Ks.length<16777216:=iG (va p.n p.c) (Zo6 a m h)
theorem Zs7(U:G2 m ps)(p:PI ps m h e Ks i){G:List Int}(I:Ks[i]?=Z G){s:List D}(hU:∀x∈G.filter 'i',∀y∈G.filter 'i',¬iD h (aB ps x) (aB ps y))(Y:∀p∈G,∀q∈G,aA ps h q=be->Ah (aS ps) 'i' p/\(aA ps h p=be->gX e ps h p q=be))(B:u=((b7 ps (G.filter 'i')).foldl (bt ps h (G.filter 'i')) (Ks,[])).1):PI ps m h e u (i+1):=by
 have hm:=cj I;obtain⟨S,hS⟩:=p.a G hm;have J:(G.filter 'i').Sublist (rg ps):=Es.trans (hS▸CK ps h S);have new:∀w,∀z∈cH ps h (G.filter 'i') w,(0<=z/\z<ps.length)/\∃x∈G,aA ps h x=be/\∃y,(w,y)∈aS ps x/\Ep (aS ps) 'i' y z:=λw z hz=>by refine bc (iC.mp hz) λC f=>a9 f λs L M=>?_;clear f;obtain⟨c,t,rfl⟩:=aL.mp L;obtain⟨t,ew⟩:=dt.mp t;obtain⟨x,v,t⟩:=nk.mp t;obtain⟨v,E⟩:=dt.mp v;exact⟨C,x,v,E,_,aL.mpr ⟨c,t,by rw[beq_iff_eq.mp ew]⟩,M⟩
 have of:∀d∈u,d∈Ks\/∃w∈b7 ps (G.filter 'i'),d=cH ps h (G.filter 'i') w:=λd h'=>Mo _ _ (B▸h');have N:∀j d,j<i+1->u[j]?=Z d->Ks[j]?=Z d:=λj d Q q=>by
  have hl:j<Ks.length:=by have:=(bF.mp I).1;lia
  have:=yE (ps:=ps) (h:=h) (T:=G.filter 'i') (b7 ps (G.filter 'i')) (Ks,[]) (j:=j) (G:=Ks[j]) (cy hl);rw[<-B,q]at this;rw[ao this];exact cy hl
 refine⟨⟨?_,λd h' a O b hb=>?_,λd h' a O ta y A=>?_,λj Q d h' w=>?_,λj Q d h'=>?_⟩,B▸Mp _ _ p.n,λd h'=>?_,λd h'=>?_,?_⟩;·obtain⟨G0,C,h2⟩:=p.g.hd;exact⟨G0,B▸yE _ _ C,h2⟩
 ·rcases of d h' with q|⟨w,_,rfl⟩;·exact p.g.sd d q a O b hb
  ·refine bc (new w a O) λ_ f=>aM f λx v E r=>a9 r λy A M=>?_;clear f r;refine bc (new w b hb) λ_ f=>aM f λx' A8 tx' r=>a9 r λy' hy' e2=>?_;clear f r;exact ZoV (p.g.sd G hm) v A8 E tx' A hy' M e2
 ·rcases of d h' with q|⟨w,_,rfl⟩;·exact p.g.cl d q a O ta y A
  ·refine bc (iC.mp O) λC f=>a9 f λs L M=>?_;clear f;exact iC.mpr ⟨CG U C (.s .z ta A),s,L,.s M ta A⟩
 ·have h':=N j d Q h';by_cases H:j<i
  ·obtain⟨G2,C,h2⟩:=p.g.on j H d h' w;exact⟨G2,B▸yD _ _ C,h2⟩
  ·have:j=i:=by lia
   subst this;rw[I]at h'
   (obtain rfl:=ao h');by_cases hw:w∈b7 ps (G.filter 'i')
   ·refine⟨_,B▸Mn _ _ hw,λx v E y A=>?_⟩;obtain⟨c,t,ec⟩:=aL.mp A;cases ec;have hr:0<=c.2.2/\c.2.2<ps.length:=by have:=(oi (mS U) x).2 c t;exact⟨this.2.2.2.1,this.2.2.2.2⟩
    exact iC.mpr ⟨hr,_,aL.mpr ⟨c,dt.mpr ⟨nk.mpr ⟨x,dt.mpr ⟨v,E⟩,t⟩,beq_iff_eq.mpr W⟩,W⟩,.z⟩
   ·refine⟨G,B▸yD _ _ hm,λx v E y A=>?_⟩;obtain⟨c,t,ec⟩:=aL.mp A;cases ec;exact(hw (CI.mpr ⟨x,dt.mpr ⟨v,E⟩,c,t,W⟩)).elim
 ·have h':=N j d Q h';by_cases H:j<i
  ·exact p.g.ev j H d h'
  ·have:j=i:=by grind
   subst this;rw[I]at h'
   (obtain rfl:=ao h');exact Y
 ·rcases of d h' with q|⟨w,hw,rfl⟩
  ·exact p.c d q
  ·exact Zrq U J (λs L=>(dt.mp L).2) hU hw
 ·rcases of d h' with q|⟨w,hw,rfl⟩
  ·exact p.a d q
  ·exact⟨_,W⟩
 ·have:=(bF.mp (B▸yE (ps:=ps) (h:=h) (T:=G.filter 'i') (b7 ps (G.filter 'i')) (Ks,[]) I:u[i]?=Z G)).1;assumption
end
theorem Mr{ps:List Pl}(q:z∈rg ps):0<=z/\z<ps.length:=by obtain⟨i,a,rfl⟩:=aL.mp q;have:=lu.mp a;lia
def ib(ps:List Pl)(h:Int)(Ks:List (List Int))(G:List Int):List (List Int)×List D:=(b7 ps (G.filter 'i')).foldl (bt ps h (G.filter 'i')) (Ks,[])
def oz(ps:List Pl)(h:Int)(Ks:List (List Int))(G:List Int):D:=match G.filter 'i'with|[]=>.tup [.str "end"]|t::_=>mV ps h t (ib ps h Ks G).2
def gF(ps:List Pl)(h:Int):Nat->List (List Int)×List D|0=>([eF ps h [0]],[])|i+1=>match (gF ps h i).1[i]? with|some G=>((ib ps h (gF ps h i).1 G).1,(gF ps h i).2++[oz ps h (gF ps h i).1 G])|none=>gF ps h i
theorem ZsU(e:gF ps h i=(Ks,a))(b:Ks[i]?=Z G):gF ps h (i+1)=((ib ps h Ks G).1,a++[oz ps h Ks G]):=by unfold gF;rw[e];show(match Ks[i]? with|some G=>_|none=>_)=_;rw[b]
structure sv(ps:List Pl)(h:Int)(i:Nat):Prop where
 l:(gF ps h i).1.length=i
 b:∀j,j<i->j<(gF ps h j).1.length
theorem Zrr(a:sv ps h i)(b:sv ps h j):i=j:=by
 rcases Nat.lt_trichotomy i j with q|q|q;·have:=b.b i q;rw[a.l]at this;exact absurd this (js _)
 ·exact q
 ·have:=a.b j q;rw[b.l]at this;exact absurd this (js _)
structure PJ(ps:List Pl)(m h:Int)(e i:Nat)(Ks:List (List Int))(Ss:List D):Prop where
 q:gF ps h i=(Ks,Ss)
 p:PI ps m h e Ks i
 l:Ss.length=i
 b:∀j,j<i->j<(gF ps h j).1.length
section
variable {m:Int}{ps:List Pl}{h:Int}{e i:Nat}{Ks:List (List Int)}{Ss:List D}{G:List Int}
theorem Ms(a:G2 m ps):PJ ps m h e 0 [eF ps h [0]] []:=⟨W,Zr_ a,W,λj b=>absurd b (Nat.not_lt_zero j)⟩
theorem PJ.s(q:PJ ps m h e i Ks Ss)(d:G2 m ps)(a:Ks[i]?=Z G)(f:∀x∈G.filter 'i',∀y∈G.filter 'i',¬iD h (aB ps x) (aB ps y))(c:∀p∈G,∀q∈G,aA ps h q=be->Ah (aS ps) 'i' p/\(aA ps h p=be->gX e ps h p q=be)):PJ ps m h e (i+1) (ib ps h Ks G).1 (Ss++[oz ps h Ks G]):=⟨ZsU q.q a,Zs7 d q.p a (s:=[]) f c W,by rw[bB,q.l];rfl,λj g=>by
  by_cases z:j=i;·rw[z,q.q];exact(bF.mp a).1
  ·exact q.b j 'd'⟩
theorem PJ.end(q:PJ ps m h e i Ks Ss)(a:i=Ks.length):sv ps h i/\Ss=(gF ps h i).2:=⟨⟨by rw[q.q];exact a.symm,q.b⟩,by rw[q.q]⟩
end
theorem Zo7{n:Nat}(hn:4<=n)(J:gK m ps)(L:GB ps)(h:Int)(he:2<=e):∃d,Tab n .fP [aJ m ps,.int h]=Z d/\((d=.aC/\∃x y,Sy (aS ps) 'i' 0 x y/\gE e ps h x y)\/(∃i,sv ps h i/\d=.tup (gF ps h i).2)/\∀x y,Sy (aS ps) 'i' 0 x y->¬gE e ps h x y):=by
 obtain⟨k,rfl,Q⟩:=cD (c:=3) hn;have j:=uV J;have U:ps.length<64:=iG J.2.2.2.1 'a';obtain⟨F,hF,M⟩:=Zo1 (n:=k) (fu Q) j U h;have CL:=L6 (n:=k) (fu Q) j U (h:=h) (S:=[0]) (λs Y=>by rw[aZ.mp Y];have:=J.2.2.1;lia) (by exact kB ..);show Ev (Tab (k+1) .fP [aJ m ps,.int h]) _;rw[tab];refine iT (np:=2) (n:=7) (gb:=BZ (Tab k)) ?_;unfold BZ;refine aV (df (x:=.lst (F.map .int)) (cP (aP (aj W 'l') hF)) (aN (aV (f9 (ds:=[eF ps h [0]].map gD) (mO (aj (aP (aj W (aj W (aj (lY 'l') W))) CL) W)) (aN (aV (f9 (ds:=[]) W (aN (aV ?_)))))))));show Ev (eE _ _ _ [_,_,_,_,_,_,_]) _;refine mP (λn r=>∃(Ks:List (List Int))(b:List D)(o5 o6:Option SD),r=[Z (.ak (aJ m ps)),Z (.ak (.int h)),Z (.ak (.lst (F.map .int))),Z (.own (Ks.map gD)),Z (.own b),o5,o6]/\PJ ps m h e b.length Ks b/\n+b.length=16777216) ?_ ?_ 16777216 _ ⟨_,[],am,am,W,Ms j,W⟩;·rintro r ⟨Ks,b,o5,o6,rfl,⟨_,p,_,_⟩,hl⟩;have:=qe L p;have:=p.l;lia
 rintro n r ⟨Ks,b,o5,o6,rfl,pj,hl⟩;have p:=pj.p;have H:cB (ae jX (ax cA (ai [aa 4])) (ax cA (ai [aa 3]))) (fz [Z (.ak (aJ m ps)),Z (.ak (.int h)),Z (.ak (.lst (F.map .int))),Z (.own (Ks.map gD)),Z (.own b),o5,o6])=Z (decide ((b.length:Int)<(Ks.map gD).length)):=aU (au (aP 'l' W) (aP 'l' W) W);rw[aE]at H;by_cases E:b.length=Ks.length;·refine .inl ⟨H.trans (by rw[E];simp),aN (jJ (aP 'l' W) (iS (.inr ⟨⟨_,(pj.end E).1,congrArg D.tup (pj.end E).2⟩,λx y s=>ZoU (E▸p.g) s⟩)))⟩
 have E:b.length<Ks.length:=by have:=p.l;lia
 have hg:Ks[b.length]?=Z Ks[b.length]:=cy E;generalize Ks[b.length]=G at hg;have hm:=cj hg;obtain⟨S,hS⟩:=p.a G hm;have w:G.Sublist (rg ps):=hS▸CK ps h S;have I:∀z∈G,0<=z/\z<ps.length:=λz hz=>Mr (w.subset hz);have Mt:G.length<64:=by have:=w.length_le;unfold rg at this;rw[aE,oH]at this;exact iG this U
 have B:∀s∈G.filter 'i',(0<=s/\s<ps.length)/\aA ps h s=be:=λs Y=>⟨I s (dt.mp Y).1,(dt.mp Y).2⟩;refine .inr ⟨H.trans (by simpa using E),aV (df (x:=gD G) (kh (au W (aP 'l' W) (iA (wo (by rw[bW,hg];rfl)))) (by show cO _=be;exact jL (λ_=>rfl) _)) (aN (aV (f9 (ds:=(G.filter 'i').map .int) ?_ (aN (Ce ?_))))))⟩;·exact pQ (oa (gC (x:=gD G) W W) (small (by rw[aE];lia)) (qc (tl:=[Z (aJ m ps),Z (.int h)]) _ _ λx f=>aU (au (aP (aj W (aj W 'l')) (su (fu Q) (I x f).1 (I x f).2)) W L0))) (jL (λ_=>rfl) _)
 show Ev (aI _ _ [Z (.ak (aJ m ps)),Z (.ak (.int h)),Z (.ak (.lst (F.map .int))),Z (.own (Ks.map gD)),Z (.own b),Z (.ak (gD G)),Z (.ak (.lst ((G.filter 'i').map .int)))]) _;obtain⟨r,r1,r2⟩:=Zo5 (n:=k) (by omega) j (h:=h) (S:=G) (F:=F) Mt B;refine aV (c4 (mM (aU (aP (aj W (aj W (aj W (aj W 'l')))) r1))) ?_);have N:∀x∈G.filter 'i',∀y∈G.filter 'i',(gX e ps h x y=be↔¬iD h (aB ps x) (aB ps y)):=λx f y A=>by unfold gX;rw[(B x f).2,(B y A).2,oJ,oJ];exact yB he (qd J x) (qd J y) (oy (B x f).2) (oy (B y A).2)
 cases r with
 |false=>
  refine eO W (jJ W (uX (Cc (uX (iS (.inl ⟨W,?_⟩))))));have nr:¬_:=λz=>nomatch r2.mpr z;by_cases u:∀x∈G.filter 'i',∀y∈G.filter 'i',¬iD h (aB ps x) (aB ps y)
  ·have n2:¬(G.filter 'i'=[]\/∀z∈G,z∈F):=λz=>nr ⟨u,z⟩;rw[not_or]at n2;obtain⟨y,A⟩:=List.exists_mem_of_ne_nil _ n2.1;obtain⟨z,hz⟩:=OD.mp n2.2;obtain⟨hz,nz⟩:=OE.mp hz;exact⟨z,y,p.g.sd G hm z hz y (dt.mp A).1,(B y A).2,.inl λq=>nz ((M z (I z hz).1 (I z hz).2).mpr q)⟩
  ·obtain⟨x,u⟩:=OD.mp u;obtain⟨f,u⟩:=OE.mp u;obtain⟨y,u⟩:=OD.mp u;obtain⟨A,u⟩:=OE.mp u;refine⟨x,y,p.g.sd G hm x (dt.mp f).1 y (dt.mp A).1,(B y A).2,.inr ⟨(B x f).2,jR.mpr λq=>u ((N x f y A).mp q)⟩⟩
 |true=>
  obtain⟨u,hA⟩:=r2.mp W;have hev:∀p∈G,∀q∈G,aA ps h q=be->Ah (aS ps) 'i' p/\(aA ps h p=be->gX e ps h p q=be):=λx f y A ty=>by have C:y∈G.filter 'i':=dt.mpr ⟨A,ty⟩;refine⟨(M x (I x f).1 (I x f).2).mp (hA.resolve_left (λz=>by rw[z]at C;cases C) x f),λtx=>?_⟩;have O:x∈G.filter 'i':=dt.mpr ⟨f,tx⟩;exact(N x O y C).mpr (u x O y C)
  have v:=pj.s j hg u hev;have q8:=qe L v.p;refine dO W (dN (aN (c4 (pP (x:=.lst ((G.filter 'i').map .int)) W (yz _)) ?_)));have hKs:G.filter 'i'=[]->(ib ps h Ks G).1=Ks:=λq=>by unfold ib;rw[q];rfl
  unfold oz at v;cases q:G.filter 'i'with
  |nil=>
   rw[q,hKs q]at v;refine dO W (k8 W (cP (x:=.tup [.str "end"]) W) (by show b.length<16777216;have:=qe L p;exact l8 E this) (dS ⟨Ks,_,_,_,W,?_,?_⟩))
   ·rw[bB];exact v
   ·rw[bB,bh,jP];lia
  |cons t T=>
   have hd:=ZlU (n:=k) Q j U (S:=G) B (t:=t) (by rw[q];rfl) (Mq L (Es.trans w)) (Ks:=Ks) (du q8);rw[q]at v;change iR (Tab k .fO) [aJ m ps,.int h,gD G,.lst ((G.filter 'i').map .int)] [(am,Ks.map gD)]=Z (mV ps h t (ib ps h Ks G).2,[(am,(ib ps h Ks G).1.map gD)])at hd;rw[q]at hd;refine eO W ⟨_,?_,dS ⟨(ib ps h Ks G).1,b++[mV ps h t (ib ps h Ks G).2],Z (.ak (gD G)),Z (.ak (.lst ((t::T).map .int))),W,?_,?_⟩⟩
   ·show((iR (Tab k .fO) [aJ m ps,.int h,gD G,.lst ((t::T).map .int)] [(am,Ks.map gD)]).bind λx=>if _/\kinds x.2=kinds [(am,Ks.map gD)]/\b.length<aD then _ else am)=_;rw[hd,bx,if_pos ⟨⟨by decide,by decide⟩,W,by show b.length<16777216;have:=qe L p;lia⟩];rfl
   ·rw[bB];exact v
   ·rw[bB,bh,jP];grind
theorem Zrs(ps:List Pl):(rg ps).map (aB ps)=ps:=by
 refine Du λi=>?_;unfold rg;rw[ej,bW];by_cases a:i<ps.length;·rw[Zuy a,cy a];show Z (aB ps (i:Int))=_;unfold aB;rw[show((i:Int)).toNat=i from W,cy a];rfl
 ·rw[sZ (by simpa using a),sZ (by simpa using a)];rfl
theorem Mu(h:BK 13 43 ps):GB ps:=by
 have e:=Zrs ps;refine⟨?_,λa b=>?_⟩;·have:=h.2;rw[<-e,ZvI]at this;exact iG this 'a'
 ·have:=h.1 a b;rw[<-e,List.countP_map,List.countP_eq_length_filter]at this;refine cv (vv ?_) this;refine congrArg qm (List.filter_congr λx _=>?_);show sys ps a b x=sy a b (aB ps x);unfold sys sy;cases aB ps x<;>rfl
theorem CN{n:Nat}(hn:8<=n)(c:Int):∃ps,Tab n .fI [.int c]=Z (aJ 3 ps)/\gK 3 ps/\BK 13 43 ps:=by
 obtain⟨k,rfl,E⟩:=cD (c:=7) hn;obtain⟨w,I,J⟩:=uW (n:=k) E c 0 ⟨by decide,by decide⟩;obtain⟨A,L,M⟩:=uW (n:=k) E c 1 ⟨by decide,by decide⟩;have B:(([(dM c 0,w),(dM c 1,A)]:List Sd).map (·.1)).Nodup:=by simp;intro e;have:=B5 (c:=c) (i:=0) (j:=1) ⟨by decide,by decide⟩ ⟨by decide,by decide⟩ e;lia
 obtain⟨ws,C,N,O,Q⟩:=Ca (ws:=[(dM c 0,w),(dM c 1,A)]) 'k' B;have r:∀x∈ws,kg x:=λx f=>by
  have:=O x f;simp at this;rcases this with rfl|rfl;·exact J
  ·exact M
 obtain⟨x,y,rfl⟩:∃x y,ws=[x,y]:=by match ws,N with|[x,y],_=>exact⟨x,y,W⟩
 have f:=r x 'k';have G:=r y 'k';have C:kQ [.lst [bM (dM c 0,w),bM (dM c 1,A)]]=Z (.lst [bM x,bM y]):=C;have g:∀j:Int,0<j/\j<1073741824->nJ (.int c) (.int j)=Z (.int (c / j)):=λj T=>ZQ T;have hz:∃z:Sd,kg z/\∃i,ay (.lst [bM x,bM y]) (.int (c / 4%2))=Z (bM i)/\ay (.lst [bM x,bM i,.tup [.str x.1,.tup [.str "number",.int 0,.int 1]]]) (.int (c / 8%3))=Z (bM z):=by
  have q:∃i,kg i/\ay (.lst [bM x,bM y]) (.int (c / 4%2))=Z (bM i):=by
   rcases mod2 (c / 4)with h|h<;>rw[h];·exact⟨x,f,cT⟩
   ·exact⟨y,G,c_⟩
  obtain⟨i,U,q⟩:=q;have Y:c / 8%3=0\/c / 8%3=1\/c / 8%3=2:=by lia
  rcases Y with h|h|h<;>rw[h]
  ·exact⟨x,f,i,q,cT⟩
  ·exact⟨i,U,i,q,c_⟩
  ·exact⟨(x.1,.num 0 1),⟨f.1,by simp[Kd.WF],by simp[Kd.dp]⟩,i,q,at2⟩
 obtain⟨z,hz,i,q1,q2⟩:=hz;have hb:0<=c / 2%2/\c / 2%2<2:=by lia
 suffices hh:Ev (Tab (k+1) .fI [.int c]) λd=>∃ps,d=aJ 3 ps/\gK 3 ps/\BK 13 43 ps from by obtain⟨_,e,ps,h,k⟩:=hh;exact⟨ps,h▸e,k⟩
 rw[tab];refine iT (np:=1) (n:=4) (gb:=BV (Tab k)) ?_;unfold BV;refine aV (df (cP (aP (aj (lY (aj (aP (aj W 'l') I) (aj (aP (aj W 'l') L) W))) W) C)) (aN (aV (f9 (ds:=[(Pl.say 0 1 [(x.1,x.2,1),(y.1,y.2,2)]).toD]) (mO (aj (bg (aj W (aj W (aj W (aj (bg (aj (au (au W W (iA cT)) (bg 'l') (l3 x 1)) (aj (au (au W W (iA c_)) (bg 'l') (l3 y 2)) W))) W))))) W)) (aN ?_)))));refine aV (df (x:=bM z) (cP (au (lY (aj (au W W (iA cT)) (aj (au W (au (au W W (g 4 'a')) W (ia 'a')) q1) (aj (bg (aj (au (au W W (iA cT)) W (aX cT)) 'l')) W)))) (au (au W W (g 8 'a')) W (ia 'a')) q2)) (aN ?_));refine aV (k8 (x:=(Pl.say 2 0 [(x.1,x.2,3)]).toD) W (cP (bg (aj W (aj W (aj W (aj (bg (aj (au (au W W (iA cT)) (bg 'l') (l3 x 3)) W)) W)))))) (ig W) (aN ?_));refine aV (k8 (x:=(Pl.say 2 (c / 2%2) [(z.1,z.2,3)]).toD) W (cP (bg (aj W (aj W (aj (au (au W W (g 2 'a')) W (ia 'a')) (aj (bg (aj (au W (bg 'l') (l3 z 3)) W)) W)))))) (ig W) (aN ?_));have fin:∀p:Pl,p.OK 3 4->Ev (eD (aH (ai [cC (.int 3),ax je (ai [ae jh (aa 2) (eT (ai [aH (ai [cC (.str "end")])]))])])) [Z (.ak (.int c)),Z (.ak (.lst [bM x,bM y])),Z (.own [(Pl.say 0 1 [(x.1,x.2,1),(y.1,y.2,2)]).toD,(Pl.say 2 0 [(x.1,x.2,3)]).toD,p.toD]),Z (.ak (bM z))]) (kR λd=>∃ps,d=aJ 3 ps/\gK 3 ps/\BK 13 43 ps):=λp H=>by
  refine jJ (bg (aj W (aj (aP (aj (au W (lY (aj (bg 'l') W)) (K4 (ig W))) W) W) W))) (iS ⟨[.say 0 1 [(x.1,x.2,1),(y.1,y.2,2)],.say 2 0 [(x.1,x.2,3)],p,.fin],W,⟨by decide,by decide,ig W,ig W,λp' t=>?_⟩,λu v=>cv Oz (ig W),?_⟩)
  ·simp only[a7,kC,or_false]at t;rcases t with rfl|rfl|rfl|rfl
   ·exact⟨by decide,by decide,by decide,by decide,by decide,ig W,ig W,by simpa using⟨ck f 'a',ck G 'a'⟩,Q⟩
   ·exact⟨by decide,by decide,by decide,by decide,by decide,ig W,ig W,by simpa using ck f 'a',W⟩
   ·exact H
   ·trivial
  ·have:p.bo.length<=5:=by
    cases p with|fin=>exact dQ _|say a b cs=>exact H.2.2.2.2.2.2.1
   show(_++(_++(p.bo++(_++[])))).length<=43;simp only[bB];show 2+(1+(p.bo.length+0))<=43;lia
 refine aV (c4 (aU (au (au (au W W (g 192 'a')) W (ia 'a')) W eq_int)) ?_);cases c / 192%4==0 with|false=>exact dO W (dN (aN (fin (.say 2 (c / 2%2) [(z.1,z.2,3)]) ⟨by decide,by decide,by lia,by lia,by lia,ig W,ig W,by simpa using ck hz 'a',W⟩)))|true=>
  rcases mod2 (c / 64)with h|h
  ·exact eO W (Ci (x:=Pl.fin.toD) (m:=2) (cP (au (lY (aj (bg 'l') (aj (bg (aj W (aj W (aj W (aj (bg (aj (au (au W W (iA cT)) (bg 'l') (l3 x 2)) W)) W))))) W))) (au (au W W (g 64 'a')) W (ia 'a')) (by rw[h];exact cT))) (cP W) W W (aN (fin .fin trivial)))
  ·exact eO W (Ci (x:=(Pl.say 0 1 [(x.1,x.2,2)]).toD) (m:=2) (cP (au (lY (aj (bg 'l') (aj (bg (aj W (aj W (aj W (aj (bg (aj (au (au W W (iA cT)) (bg 'l') (l3 x 2)) W)) W))))) W))) (au (au W W (g 64 'a')) W (ia 'a')) (by rw[h];exact c_))) (cP W) W W (aN (fin (.say 0 1 [(x.1,x.2,2)]) ⟨by decide,by decide,by decide,by decide,by decide,ig W,ig W,by simpa using ck f 'a',W⟩)))
structure Mv{α:Type}(nx:Int->List (α×Int))(tu:Int->Bool)(ev:Int->Int->Bool)(Lb:Int->Int×Nat->Prop):Prop where
 z:∃l,Lb 0 l
 o:∀{x y l},tu x=bi->Lb x l->Sc nx x y->Lb y l
 t:∀{x y l},tu x=be->tu y=be->Lb x l->Lb y l->ev x y=be/\∀w x' y',(w,x')∈nx x->(w,y')∈nx y->∃l',Lb x' l'/\Lb y' l'
 a:∀{x y l},tu y=be->Lb x l->Lb y l->Ah nx tu x
section
variable {α:Type}{nx:Int->List (α × Int)}{tu:Int->Bool}{ev:Int->Int->Bool}{Lb:Int->Int × Nat->Prop}
theorem Zru(h:Mv nx tu ev Lb)(s:Sy nx tu 0 x y):∃l,Lb x l/\Lb y l:=by induction s with|z=>obtain⟨l,e⟩:=h.z;exact⟨l,e,e⟩|l _ n s c=>obtain⟨l,a,b⟩:=c;exact⟨l,h.o n a s,b⟩|r _ n s c=>obtain⟨l,a,b⟩:=c;exact⟨l,a,h.o n b s⟩|b _ n m s t c=>obtain⟨l,a,b⟩:=c;exact(h.t n m a b).2 _ _ _ s t
end
noncomputable abbrev Tm:=Int×Int×Bool
noncomputable def jN(x0 x:Sd)(t:Tm):Sd:=if t.2.2 then x0 else x
def gY(x0 x:Sd)(g:Int):Int->List Tm->List Pl|_,[]=>[]|b,t::r=>.say t.1 t.2.1 [((jN x0 x t).1,(jN x0 x t).2,if r.isEmpty then g else b+1)]::gY x0 x g (b+1) r
def gM(x0:Sd)(τ:List Tm):Int->List (Sd×Int)->List Pl|_,[]=>[]|b,x::r=>gY x0 x.1 x.2 b τ++gM x0 τ (b+τ.length) r
noncomputable def ic(τ:List Tm):Int->List (Sd×Int)->List Ch|_,[]=>[]|b,x::r=>(x.1.1,x.1.2,if τ.isEmpty then x.2 else b)::ic τ (b+τ.length) r
structure Rn where
 one:Int
 o0:Int
 τ:List Tm
 x0:Sd
 xs:List (Sd×Int)
noncomputable def Rn.pn(r:Rn)(s:Int)(l1:List (Sd×Int))(t1:List Tm):Int:=s+1+((l1.length*r.τ.length+t1.length:Nat):Int)
theorem Mw(r:Rn)(s:Int)(l1:List (Sd×Int))(t1:List Tm)(t:Tm):r.pn s l1 t1+1=r.pn s l1 (t1++[t]):=by unfold Rn.pn;rw[bB,vC];lia
structure Zs8(ps:List Pl)(s:Int)(r:Rn):Prop where
 st:aB ps s=.say r.one r.o0 (ic r.τ (s+1) r.xs)
 ch:∀{l1 x l2 t1 t t2},r.xs=l1++x::l2->r.τ=t1++t::t2->aB ps (r.pn s l1 t1)=.say t.1 t.2.1 [((jN r.x0 x.1 t).1,(jN r.x0 x.1 t).2,if t2.isEmpty then x.2 else r.pn s l1 t1+1)]
 sp:∀t∈r.τ,t.1=r.one\/t.1=r.o0
 nd:(r.xs.map (·.1.1)).Nodup
 ne:r.xs≠[]
noncomputable def inv(h:Int)(t:Tm):Bool:=t.1==h||t.2.1==h
structure GR(ps:List Pl)(m E:Int)(ρ:Int->Option Rn)(α:Int->Option (Int×Int×Int)):Prop where
 b:(ρ 0).isSome\/0=E
 e:aB ps E=.fin
 r:∀{s r},ρ s=Z r->Zs8 ps s r
 g:∀{s r},ρ s=Z r->∀x∈r.xs,(ρ x.2).isSome\/x.2=E\/(α x.2).isSome
 t:∀{s r},ρ s=Z r->∀h,0<=h->h<m->r.one=h\/r.o0=h\/∃t∈r.τ,inv h t=be/\t.2.2=bi
 a:∀{a u v f},α a=Z (u,v,f)->(∃cs,aB ps a=.say u v cs/\(∀c∈cs,c.2.2=a\/c.2.2=f)/\∃c∈cs,c.2.2=f)/\((ρ f).isSome\/f=E)
 k:∀i,(aB ps i).OK m ps.length
def nl(h:Int)(kn fs:Bool)(s:Int)(a:Int):Int->List Tm->Int×Nat|_,[]=>(a,0)|b,t::r=>if inv h t then(if kn then(b,0)else if fs then(s,0)else(s,r.length+1))else nl h kn fs s a (b+1) r
def kn(h:Int)(r:Rn)(t1:List Tm):Bool:=r.one==h||r.o0==h||t1.any λt=>inv h t&&!t.2.2
def fs(h:Int)(t1:List Tm):Bool:=!t1.any (inv h)
section
variable {ps:List Pl}{m E:Int}{ρ:Int->Option Rn}{α:Int->Option (Int × Int × Int)}{h:Int}
def Gl(ρ:Int->Option Rn)(α:Int->Option (Int×Int×Int))(E h g a:Int):Prop:=a=g/\((ρ g).isSome\/g=E)\/∃u v f,α g=Z (u,v,f)/\a=if u=h\/v=h then g else f
inductive Lb(ρ:Int->Option Rn)(α:Int->Option (Int×Int×Int))(E h:Int):Int->Int×Nat->Prop|e:Lb ρ α E h E (E,0)|s {s:Int} (hr:(ρ s).isSome):Lb ρ α E h s (s,0)|i {a u v f:Int} (ha:α a=Z (u,v,f)) (hi:u=h\/v=h):Lb ρ α E h a (a,0)|n {a u v f:Int} (ha:α a=Z (u,v,f)) (hn:¬(u=h\/v=h)):Lb ρ α E h a (f,0)|c {s γ:Int} {r:Rn} {l1 l2:List (Sd×Int)} {x:Sd×Int} {t1 t2:List Tm} {t:Tm} (hr:ρ s=Z r) (hx:r.xs=l1++x::l2) (ht:r.τ=t1++t::t2) (hg:Gl ρ α E h x.2 γ):Lb ρ α E h (r.pn s l1 t1) (nl h (kn h r t1) (fs h t1) s γ (r.pn s l1 t1) (t::t2))
theorem Mx(q:Gl ρ α E h g a):Lb ρ α E h g (a,0):=by
 rcases q with⟨rfl,q|rfl⟩|⟨u,v,f,q,rfl⟩;·exact .s q
 ·exact .e
 ·split;·exact .i q ‹_›
  ·exact .n q ‹_›
theorem My(q:(ρ g).isSome\/g=E\/(α g).isSome):∃a,Gl ρ α E h g a:=by
 rcases q with q|q|q;·exact⟨g,.inl ⟨W,.inl q⟩⟩
 ·exact⟨g,.inl ⟨W,.inr q⟩⟩
 ·obtain⟨⟨u,v,f⟩,e⟩:=ql.mp q;exact⟨_,.inr ⟨u,v,f,e,W⟩⟩
theorem ZsV{kn fs:Bool}{s:Int}{t2:List Tm}(e:kn=bi)(q:t2.any (inv h)=be):nl h kn fs s d b t2=nl h kn fs s a c t2:=by subst e;induction t2 generalizing b c with|nil=>injection q|cons t r f=>
  simp only[nl];split;·rfl
  ·rename_i hn;rw[ky,jR.mpr hn]at q;exact f q
theorem ZsW{s:Int}{t2:List Tm}(q:t2.any (inv h)=be):nl h bi be s a b t2=(s,0):=by induction t2 generalizing b with|nil=>injection q|cons t r c=>
  simp only[nl];split;·rfl
  ·rename_i hn;rw[ky,jR.mpr hn]at q;exact c q
theorem Zs9{kn fs:Bool}{s:Int}{t2:List Tm}(q:t2.any (inv h)=bi):nl h kn fs s a b t2=(a,0):=by induction t2 generalizing b with|nil=>rfl|cons t r c=>rw[ky,Et]at q;simp only[nl,q.1,c q.2];rfl
theorem CO{τ:List Tm}:∀{xs:List (Sd×Int)}{b:Int},c∈ic τ b xs->∃l1 x l2,xs=l1++x::l2/\c=(x.1.1,x.1.2,if τ.isEmpty then x.2 else b+((l1.length*τ.length:Nat):Int)):=by intro xs;induction xs with|nil=>intro b q;cases q|cons x r a=>
  intro b q;rcases a7.mp q with rfl|q;·exact⟨[],x,r,W,by simp⟩
  ·obtain⟨l1,y,l2,rfl,rfl⟩:=a q;refine⟨x::l1,y,l2,W,?_⟩;rw[bh,nq];congr 2;split;·rfl
   ·lia
theorem l6(e:aB ps x=.say a b cs):aA ps h x=(a==h||b==h):=by unfold aA;rw[e]
theorem yG{cs:List Ch}(e:aB ps x=.say a b cs):aS ps x=cs.map λc=>(c.1,c.2.2):=by unfold aS;rw[e];rfl
theorem qf(e:aB ps x=.say a b cs)(q:Sc (aS ps) x y):∃c∈cs,y=c.2.2:=by obtain⟨w,q⟩:=q;rw[yG e]at q;obtain⟨c,d,e⟩:=aL.mp q;exact⟨c,d,(oN e).2.symm⟩
theorem yH{c:Ch}(e:aB ps x=.say a b cs)(d:c∈cs):Sc (aS ps) x c.2.2:=⟨c.1,by rw[yG e];exact aL.mpr ⟨c,d,W⟩⟩
variable (G:GR ps m E ρ α)
include G
theorem GR.aF{s a:Int}{r:Rn}{l1 l2:List (Sd×Int)}{x:Sd×Int}{t1 t2:List Tm}{t:Tm}(d:ρ s=Z r)(f:r.xs=l1++x::l2)(g:r.τ=t1++t::t2)(b:Gl ρ α E h x.2 a):Lb ρ α E h (if t2.isEmpty then x.2 else r.pn s l1 t1+1) (nl h (kn h r (t1++[t])) (fs h (t1++[t])) s a (r.pn s l1 t1+1) t2):=by cases t2 with|nil=>exact Mx b|cons t' t2=>
  have e:r.τ=(t1++[t])++t'::t2:=by rw[g,ju];rfl
  have:=Lb.c d f e b;rw[<-Mw]at this;exact this
theorem GR.told{s:Int}{r:Rn}(c:ρ s=Z r)(d:0<=h)(e:h<m){t2:List Tm}(f:r.τ=t1++t2)(a:kn h r t1=bi):t2.any (λt=>inv h t&&!t.2.2)=be:=by
 simp only[kn,Et,beq_eq_false_iff_ne]at a;rcases G.t c h d e with q|q|⟨t,hm,q,b⟩;·exact absurd q a.1.1
 ·exact absurd q a.1.2
 ·rw[f]at hm;rcases bQ.mp hm with hm|hm;·have:=List.any_eq_false.mp a.2 t hm;rw[q,b]at this;exact absurd W this
  ·exact vR.mpr ⟨t,hm,by rw[q,b];rfl⟩
end
section
variable {ps:List Pl}{m E:Int}{ρ:Int->Option Rn}{α:Int->Option (Int × Int × Int)}{h:Int}
theorem CP{t1 t2:List Tm}(q:t2.any (λt=>inv h t&&!t.2.2)=be):t2.any (inv h)=be:=by obtain⟨t,a,q⟩:=vR.mp q;rw[cJ]at q;exact vR.mpr ⟨t,a,q.1⟩
theorem Mz{t:Tm}:kn h r (t1++[t])=(kn h r t1||(inv h t&&!t.2.2)):=by simp[kn,Bool.or_assoc]
theorem Zs_:fs h (t1++[t])=(fs h t1&&!inv h t):=by simp[fs]
theorem MA(r:Rn)(s:Int)(l1:List (Sd×Int)):r.pn s l1 []=s+1+((l1.length*r.τ.length:Nat):Int):=rfl
variable (G:GR ps m E ρ α)
include G
theorem GR.o(z:0<=h)(A:h<m)(n:aA ps h x=bi)(q:Lb ρ α E h x l)(s:Sc (aS ps) x y):Lb ρ α E h y l:=by cases q with
 |e=>obtain⟨w,s⟩:=s;simp[aS,G.e,Pl.bo]at s|s b=>
  obtain⟨r,b⟩:=ql.mp b;have R:=G.r b;rw[l6 R.st]at n;obtain⟨c,j,rfl⟩:=qf R.st s;obtain⟨l1,x,l2,f,rfl⟩:=CO j;have v:kn h r []=bi:=by simp[kn,n]
  have d:r.τ.any (inv h)=be:=CP (t1:=[]) (G.told b z A (t1:=[]) W v);obtain⟨B,u⟩:=My (h:=h) (G.g b x (by rw[f];simp));cases e:r.τ with|nil=>rw[e]at d;cases d|cons t t2=>have:=Lb.c b f (t1:=[]) e u;rw[<-e,v,show fs h []=be from W,ZsW d,MA,e]at this;exact this
 |i p C=>obtain⟨⟨cs,e,_⟩,_⟩:=G.a p;rw[l6 e]at n;simp at n;lia|n p hn=>
  obtain⟨⟨cs,e,k,_⟩,k2⟩:=G.a p;obtain⟨c,j,rfl⟩:=qf e s;rcases k c j with e|e<;>rw[e];·exact .n p hn
  ·rcases k2 with k2|rfl;·exact .s k2
   ·exact .e
 |@c H B r l1 l2 x t1 t2 t b f d u=>have R:=G.r b;rw[l6 (R.ch f d)]at n;obtain⟨c,j,rfl⟩:=qf (R.ch f d) s;cases aZ.mp j;have:=G.aF b f d u;have e:inv h t=bi:=n;rw[Mz,Zs_,e]at this;simpa [nl,e]using this
theorem GR.own(n:aA ps h x=be)(q:Lb ρ α E h x l):l=(x,0)\/∃(s b:Int)(r:Rn)(l1 l2:List (Sd×Int))(y:Sd×Int)(t1 t2:List Tm)(t:Tm),ρ s=Z r/\r.xs=l1++y::l2/\r.τ=t1++t::t2/\Gl ρ α E h y.2 b/\kn h r t1=bi/\inv h t=be/\x=r.pn s l1 t1/\l=if fs h t1 then(s,0)else(s,t2.length+1):=by cases q with|e=>simp[aA,G.e]at n|s d=>exact .inl W|i f v=>exact .inl W|n f hn=>obtain⟨⟨cs,e,_⟩,_⟩:=G.a f;rw[l6 e]at n;simp at n;exact absurd n hn|@c p b r l1 l2 x t1 t2 t d g j u=>have R:=G.r d;rw[l6 (R.ch g j)]at n;have e:inv h t=be:=n;cases k:kn h r t1 with|true=>exact .inl (by simp[nl,e])|false=>exact .inr ⟨p,b,r,l1,l2,x,t1,t2,t,d,g,j,u,k,e,W,by simp[nl,e]⟩
theorem GR.Zta(q:Lb ρ α E h x l)(s:(w,v)∈aS ps x):∃z,Lb ρ α E h v z:=by have p:Sc (aS ps) x v:=⟨w,s⟩;cases q with
 |e=>simp[aS,G.e,Pl.bo]at s|s b=>obtain⟨r,b⟩:=ql.mp b;have R:=G.r b;obtain⟨c,d,rfl⟩:=qf R.st p;obtain⟨l1,x,l2,f,rfl⟩:=CO d;obtain⟨A,u⟩:=My (h:=h) (G.g b x (by rw[f];simp));cases e:r.τ with
  |nil=>exact⟨_,Mx u⟩|cons t t2=>have:=Lb.c b f (t1:=[]) e u;rw[MA,e]at this;exact⟨_,this⟩
 |i j B=>
  obtain⟨⟨cs,e,k,_⟩,k2⟩:=G.a j;obtain⟨c,d,rfl⟩:=qf e p;rcases k c d with e|e<;>rw[e];·exact⟨_,.i j B⟩
  ·rcases k2 with k2|rfl;·exact⟨_,.s k2⟩
   ·exact⟨_,.e⟩|n j hn=>
  obtain⟨⟨cs,e,k,_⟩,k2⟩:=G.a j;obtain⟨c,d,rfl⟩:=qf e p;rcases k c d with e|e<;>rw[e];·exact⟨_,.n j hn⟩
  ·rcases k2 with k2|rfl
   ·exact⟨_,.s k2⟩
   ·exact⟨_,.e⟩
 |@c p A r l1 l2 x t1 t2 t b f y u=>have R:=G.r b;obtain⟨c,d,rfl⟩:=qf (R.ch f y) ‹_›;cases aZ.mp d;exact⟨_,G.aF b f y u⟩
end
section
theorem Zrx{d:Type}{p:d->Bool}{t t':d}{t2 f:List d}(k:p t=be)(k':p t'=be):∀{t1 c:List d},t1++t::t2=c++t'::f->t1.any p=bi->c.any p=bi->t1=c:=by intro t1;induction t1 with
 |nil=>intro c e _ q;cases c with
  |nil=>rfl|cons a r=>cases e;rw[ky,k]at q;cases q
 |cons a r h=>intro c e q g;cases c with|nil=>cases e;rw[ky,k']at q;cases q|cons b i=>cases(oO e).1;rw[ky,Et]at q g;rw[h (oO e).2 q.2 g.2]
theorem CQ{d i:Type}{f:d->i}{y g:d}{l2 h:List d}:∀{l1 c:List d},l1++y::l2=c++g::h->((l1++y::l2).map f).Nodup->f y=f g->l1=c/\y=g:=by intro l1;induction l1 with
 |nil=>intro c e n k;cases c with
  |nil=>cases e;exact⟨W,W⟩|cons a r=>cases(oO e).1;rw[show l2=_ from(oO e).2]at n;simp[k]at n
 |cons a r j=>intro c e n k;cases c with|nil=>cases(oO e).1;simp[k]at n|cons b q=>cases(oO e).1;obtain⟨m,p⟩:=j (oO e).2 (gf.mp n).2 k;exact⟨by rw[m],p⟩
variable {ps:List Pl}{m E:Int}{ρ:Int->Option Rn}{α:Int->Option (Int × Int × Int)}{h:Int}
theorem ZlX{p:Pl}(n:(p.bo.map (·.1)).Nodup):¬iD h p p:=by cases p with|fin=>exact id|say a b cs=>
  rintro(q|⟨_,q⟩|⟨c,i,u,d,e,k⟩);·exact q W
  ·exact q W
  ·obtain⟨l1,l2,g⟩:=zo i;obtain⟨j,r,t⟩:=zo d;have:=CQ (f:=λc:Ch=>c.1) (g.symm.trans t) (by rw[<-g];exact n) e.symm;exact k (by rw[this.2])
variable (G:GR ps m E ρ α)
include G
theorem GR.nd(x:Int):((aB ps x).bo.map (·.1)).Nodup:=by have:=G.k x;cases e:aB ps x with|fin=>simp[Pl.bo]|say a b cs=>rw[e]at this;exact yf this.2.2.2.2.2.2.2.2
theorem GR.say(t:aA ps h x=be):(aB ps x).iB=be:=by unfold aA at t;cases e:aB ps x with|fin=>rw[e]at t;cases t|say a b cs=>rfl
theorem GR.MB{k:Nat}(c:2<=k)(a:aA ps h x=be)(b:aA ps h y=be)(u:¬iD h (aB ps x) (aB ps y)):gX k ps h x y=be:=by unfold gX;rw[a,b,(yB c (G.k x) (G.k y) (G.say a) (G.say b)).mpr u];rfl
theorem GR.two{k:Nat}(hk:2<=k)(h0:0<=h)(h1:h<m)(J:aA ps h x=be)(ty:aA ps h y=be)(qx:Lb ρ α E h x l)(qy:Lb ρ α E h y l):gX k ps h x y=be/\∀w L M,(w,L)∈aS ps x->(w,M)∈aS ps y->∃l',Lb ρ α E h L l'/\Lb ρ α E h M l':=by
 have one:∀{s r t1 l1 l2 y t t2},ρ s=Z r->r.xs=l1++y::l2->r.τ=t1++t::t2->kn h r t1=bi->¬aA ps h s=be:=by intro s r t1 l1 l2 y t t2 u _ _ k q;rw[l6 (G.r u).st]at q;simp[kn,q]at k
 rcases G.own J qx with e|⟨s,γ,r,l1,l2,b,t1,t2,t,u,v,g,hg,kx,ix,rfl,e⟩
 ·rcases G.own ty qy with d|⟨s',γ',r',z,N,b',O,Q,t',A,i,j,T,U,Y,rfl,d⟩
  ·have:=(oN (e.symm.trans d)).1;subst this;refine⟨G.MB hk J J (ZlX (G.nd x)),λw L M a b=>?_⟩;have:L=M:=by have n:=G.nd x;obtain⟨c,hc,H⟩:=aL.mp a;obtain⟨c',B,I⟩:=aL.mp b;obtain⟨l1,l2,e3⟩:=zo hc;obtain⟨z,N,e4⟩:=zo B;have:=CQ (f:=λc:Ch=>c.1) (e3.symm.trans e4) (by rw[<-e3];exact n) ((oN H).1.trans (oN I).1.symm);rw[this.2]at H;exact(oN (H.symm.trans I)).2
   subst this;obtain⟨l',q⟩:=G.Zta qx a;exact⟨l',q,q⟩
  ·exfalso;rw[e]at d;split at d;·cases d;exact one A i j U J
   ·cases d
 ·rcases G.own ty qy with d|⟨s',γ',r',z,N,b',O,Q,t',A,i,j,T,U,Y,rfl,d⟩
  ·exfalso;rw[e]at d;split at d;·cases d;exact one u v g kx ty
   ·cases d
  ·have es:s=s':=by rw[e]at d;split at d<;>split at d<;>exact(oN d).1
   subst es;cases u.symm.trans A;have et:t1=O:=by
    rw[e]at d;split at d<;>split at d
    ·rename_i f f';exact Zrx ix Y (g.symm.trans j) (by simpa [fs]using f) (by simpa [fs]using f')
    ·cases d
    ·cases d
    ·have:t2.length=Q.length:=by have:=(oN d).2;lia
     exact(List.append_inj' (g.symm.trans j) (by simp[this])).1
   subst et;have:=Zvs (g.symm.trans j);cases this;have R:=G.r u;have p:=R.ch v g;have p':=R.ch i g;have same:t.2.2=bi->b.1.1=b'.1.1->l1=z/\b=b':=λ_ k=>CQ (f:=λx:Sd×Int=>x.1.1) (v.symm.trans i) (by rw[<-v];exact R.nd) k;have hn:t.1≠h:=λq=>by
    simp only[kn,Et,beq_eq_false_iff_ne]at kx;rcases R.sp t (by rw[g];simp)with k|k
    ·exact kx.1.1 (k.symm.trans q)
    ·exact kx.1.2 (k.symm.trans q)
   refine⟨G.MB hk J ty ?_,λw L M a c=>?_⟩
   ·rw[p,p'];rintro(q|⟨q,_⟩|⟨c,hc,c',B,H,I⟩)
    ·exact q W
    ·exact hn q
    ·cases aZ.mp hc;cases aZ.mp B;cases C:t.2.2 with|true=>simp[jN,C]at I|false=>simp only[jN,C]at H I;exact I (by rw[(same C H.symm).2])
   ·rw[yG p]at a;rw[yG p']at c;simp only[br,vu,aZ,zr]at a c;obtain⟨a1,rfl⟩:=a;obtain⟨c1,rfl⟩:=c;cases C:t.2.2 with|true=>
     have MC:kn h r (t1++[t])=bi:=by rw[Mz,kx,C];simp
     have ti:=CP (t1:=[]) (G.told u h0 h1 (t1:=t1++[t]) (t2:=t2) (by rw[g,ju];rfl) MC);refine⟨_,G.aF u v g hg,?_⟩;rw[ZsV MC ti];exact G.aF u i g T|false=>have:=same C (by simpa [jN,C]using a1.symm.trans c1);obtain⟨rfl,rfl⟩:=this;exact⟨_,G.aF u v g hg,G.aF u v g hg⟩
variable (G:GR ps m E ρ α)
include G
theorem GR.CS{s:Int}{r:Rn}(b:ρ s=Z r){x:Sd×Int}(c:r.xs=l1++x::l2):∀{t2 t1:List Tm}{t:Tm},r.τ=t1++t::t2->(t::t2).any (inv h)=be\/Ah (aS ps) 'i' x.2->Ah (aS ps) 'i' (r.pn s l1 t1):=by
 intro t2;induction t2 with|nil=>intro t1 t a q;have p:=(G.r b).ch c a;cases e:inv h t with|true=>exact .t (by rw[l6 p];exact e)|false=>
   rcases q with q|q;·simp[e]at q
   ·exact .s (yH p (aZ.mpr W)) q|cons t' t2 d=>intro t1 t a q;have p:=(G.r b).ch c a;cases e:inv h t with|true=>exact .t (by rw[l6 p];exact e)|false=>refine .s (yH p (aZ.mpr W)) ?_;show Ah _ _ (r.pn s l1 t1+1);rw[Mw r s l1 t1 t];refine d (by rw[a,ju];rfl) (q.imp_left λq=>?_);rw[ky,e]at q;exact q
theorem GR.CU(f:0<=h)(g:h<m){s:Int}(q:(ρ s).isSome):Ah (aS ps) 'i' s:=by obtain⟨r,a⟩:=ql.mp q;have R:=G.r a;cases n:aA ps h s with|true=>exact .t n|false=>
  rw[l6 R.st]at n;have i:kn h r []=bi:=by simp[kn,n]
  have b:r.τ.any (inv h)=be:=CP (t1:=[]) (G.told a f g (t1:=[]) W i);obtain⟨x,l2,d⟩:=Ej R.ne;cases e:r.τ with|nil=>rw[e]at b;injection b|cons t t2=>
   have:=G.CS (h:=h) a (l1:=[]) d (t1:=[]) e (.inl (by rw[<-e];exact b));refine .s (yH R.st (c:=(x.1.1,x.1.2,s+1)) ?_) ?_;·rw[d,e];exact .head _
   ·simpa [Rn.pn]using this
theorem GR.CV(b:0<=h)(d:h<m){g:Int}(q:Gl ρ α E h g j):Ah (aS ps) 'i' g\/j=E:=by
 rcases q with⟨rfl,q|q⟩|⟨u,v,f,q,rfl⟩;·exact .inl (G.CU b d q)
 ·exact .inr q
 ·obtain⟨⟨cs,e,_,c,p,k⟩,k2⟩:=G.a q;split;·rename_i i;exact .inl (.t (by rw[l6 e];simpa using i))
  ·rcases k2 with k2|k2;·exact .inl (.s (by rw[<-k];exact yH e p) (G.CU b d k2))
   ·exact .inr k2
theorem GR.ahE(a:0<=h)(b:h<m)(q:Lb ρ α E h x l):Ah (aS ps) 'i' x\/l=(E,0):=by cases q with|e=>exact .inr W|s d=>exact .inl (G.CU a b d)|i f p=>exact(G.CV a b (.inr ⟨_,_,_,f,W⟩)).imp_right λe=>by rw[if_pos p]at e;rw[e]|n f hn=>exact(G.CV a b (.inr ⟨_,_,_,f,W⟩)).imp_right λe=>by rw[if_neg hn]at e;rw[e]|c d g j r=>rename_i t1 t2 t;cases e:(t::t2).any (inv h)with|true=>exact .inl (G.CS d g j (.inl e))|false=>rw[Zs9 e];exact(G.CV a b r).imp (λq=>G.CS d g j (.inr q)) λe=>by rw[e]
theorem GR.CY{k:Nat}(f:2<=k)(c:0<=h)(d:h<m):Mv (aS ps) 'i' (gX k ps h) (Lb ρ α E h) where
 z:=G.b.elim (λq=>⟨_,.s q⟩) λq=>⟨(E,0),by rw[q];exact .e⟩
 o:=G.o c d
 t:=G.two f c d
 a:=λ{x y l} t g i=>(G.ahE c d g).elim id λe=>by
  subst e;rcases G.own t i with e|⟨s,p,r,l1,l2,b,t1,t2,t',j,u,v,w,kx,ix,rfl,e⟩;·cases e;simp[aA,G.e]at t
  ·split at e;·cases e;have:=(G.r j).st;rw[G.e]at this;injection this
   ·cases e
theorem GR.Ztb{k:Nat}(c:2<=k)(d:0<=h)(e:h<m)(s:Sy (aS ps) 'i' 0 x y):¬gE k ps h x y:=by
 obtain⟨l,a,b⟩:=Zru (G.CY c d e) s;rintro⟨m,f|⟨n,f⟩⟩;·exact f ((G.CY c d e).a m a b)
 ·rw[((G.CY c d e).t n m a b).1]at f;injection f
end
structure Rt where
 r:Rn
 ap:Option (Int×Int×List Ch×Int)
def Rn.cI(r:Rn)(s:Int):List Pl:=.say r.one r.o0 (ic r.τ (s+1) r.xs)::gM r.x0 r.τ (s+1) r.xs
noncomputable def Rt.qg(e:Rt):List Pl:=(e.ap.map λa=>Pl.say a.1 a.2.1 a.2.2.1).toList
noncomputable def Rt.cI(e:Rt)(s:Int):List Pl:=e.r.cI s++e.qg
noncomputable def Rn.n(r:Rn):Nat:=1+r.xs.length*r.τ.length
noncomputable def Rt.n(e:Rt):Nat:=e.r.n+e.qg.length
theorem yI:∀{τ:List Tm}{b:Int},(gY x0 x g b τ).length=τ.length:=by intro τ;induction τ with|nil=>intro b;rfl|cons t r a=>intro b;simp[gY,a]
theorem yJ{τ:List Tm}:∀{xs:List (Sd×Int)}{b:Int},(gM x0 τ b xs).length=xs.length*τ.length:=by intro xs;induction xs with|nil=>intro b;simp[gM]|cons x r a=>intro b;simp[gM,a,yI,nq,zk]
theorem oA(e:Rt)(s:Int):(e.cI s).length=e.n:=by simp[Rt.cI,Rn.cI,yJ,Rt.n,Rn.n];lia
theorem Zry{t:Tm}{t2:List Tm}:∀{t1:List Tm}{b:Int},(gY x0 x g b (t1++t::t2))[t1.length]?=Z (.say t.1 t.2.1 [((jN x0 x t).1,(jN x0 x t).2,if t2.isEmpty then g else b+(t1.length:Int)+1)]):=by intro t1;induction t1 with|nil=>intro b;simp[gY]|cons a r c=>intro b;show(gY x0 x g (b+1) (r++t::t2))[r.length]?=_;rw[c,bh,show b+1+(r.length:Int)+1=b+((r.length+1:Nat):Int)+1 by lia]
theorem Zrz{τ:List Tm}{x:Sd×Int}:∀{l1:List (Sd×Int)}{b:Int},i<τ.length->(gY x0 x.1 x.2 (b+((l1.length*τ.length:Nat):Int)) τ)[i]?=Z p->(gM x0 τ b (l1++x::l2))[l1.length*τ.length+i]?=Z p:=by intro l1;induction l1 with|nil=>intro b c q;simp at q;show(gY x0 x.1 x.2 b τ++_)[_]?=_;rw[jP,Nat.zero_mul,md,iF (by rw[yI];exact c)];exact q|cons a r d=>intro b c q;show(gY x0 a.1 a.2 b τ++gM x0 τ (b+τ.length) (r++x::l2))[_]?=_;rw[bh,nq,m8 (by rw[yI];lia),yI,show r.length*τ.length+τ.length+i-τ.length=r.length*τ.length+i by lia];refine d c ?_;rw[bh,nq]at q;rw[show b+(τ.length:Int)+((r.length*τ.length:Nat):Int)=b+((r.length*τ.length+τ.length:Nat):Int) by lia];exact q
structure vd(m:Int)(st:List Int)(s:Int)(e:Rt):Prop where
 sp:∀t∈e.r.τ,t.1=e.r.one\/t.1=e.r.o0
 nd:(e.r.xs.map (·.1.1)).Nodup
 ne:e.r.xs≠[]
 t:∀h,0<=h->h<m->e.r.one=h\/e.r.o0=h\/∃t∈e.r.τ,inv h t=be/\t.2.2=bi
 g:∀x∈e.r.xs,x.2∈st\/e.ap.isSome/\x.2=s+e.r.n
 a:∀{u v cs f},e.ap=Z (u,v,cs,f)->f∈st/\(∀c∈cs,c.2.2=s+e.r.n\/c.2.2=f)/\∃c∈cs,c.2.2=f
noncomputable def bD:Int->List Rt->List Pl|_,[]=>[]|s,e::L=>e.cI s++bD (s+e.n) L
noncomputable def eW:Int->List Rt->List Int|s,[]=>[s]|s,e::L=>s::eW (s+e.n) L
noncomputable def sA(m:Int)(st:List Int):Int->List Rt->Prop|_,[]=>True|s,e::L=>vd m st s e/\sA m st (s+e.n) L
inductive EA:Int->List Rt->Int->Rt->Prop|h {s:Int} {e:Rt} {L:List Rt}:EA s (e::L) s e|t {s s':Int} {e e':Rt} {L:List Rt} (q:EA (s+e.n) L s' e'):EA s (e::L) s' e'
theorem yK{st:List Int}{s:Int}(q:EA s L a e):sA m st s L->vd m st a e:=by induction q with|h=>exactλq=>q.1|t _ b=>exactλq=>b q.2
theorem MD{s:Int}{e:Rt}(q:EA s L c e):∀{pre post:List Pl},(pre.length:Int)=s->∃a b,pre++bD s L++post=a++e.cI c++b/\(a.length:Int)=c:=by induction q with|@h s e L=>intro pre post d;exact⟨pre,bD (s+e.n) L++post,by simp[bD],d⟩|@t s c e p L q f=>intro pre post d;obtain⟨g,i,j,m⟩:=f (pre:=pre++e.cI s) (post:=post) (by rw[bB,oA];lia);exact⟨g,i,by rw[<-j];simp[bD],m⟩
theorem ZsX:∀{L:List Rt}{s:Int},x∈eW s L->(∃e,EA s L x e)\/x=(eW s L).getLastD 0:=by intro L;induction L with|nil=>intro s q;exact .inr (aZ.mp q)|cons e L a=>
  intro s q;rcases a7.mp q with rfl|q;·exact .inl ⟨e,.h⟩
  ·rcases a q with⟨b,q⟩|q;·exact .inl ⟨b,.t q⟩
   ·refine .inr (q.trans ?_);cases L<;>exact W
theorem ZlZ:∀{L:List Rt}{s:Int},(eW s L).getLastD 0=s+((bD s L).length:Int):=by intro L;induction L with|nil=>intro s;simp[eW,bD]|cons e L a=>
  intro s;have:(eW s (e::L)).getLastD 0=(eW (s+e.n) L).getLastD 0:=by cases L<;>exact W
  rw[this,a];simp[bD,oA];lia
theorem CZ{pre post l:List Pl}{s:Int}{i:Nat}{p:Pl}(a:(pre.length:Int)=s)(q:l[i]?=Z p):aB (pre++l++post) (s+(i:Int))=p:=by have b:=(bF.mp q).1;unfold aB;rw[<-a,show(pre.length+(i:Int)).toNat=pre.length+i by exact W,ju,m8 (by exact Nat.le_add_right ..),Nat.add_sub_cancel_left,iF b,q];rfl
open Classical in
noncomputable def sC{a:Type}(P:a->Prop):Option a:=if h:∃b,P b then Z (choose h)else am
theorem yL{a:Type}{P:a->Prop}{b:a}(q:sC P=Z b):P b:=by
 unfold sC at q;split at q;·rename_i h;(obtain rfl:=ao q);exact Oq h
 ·injection q
theorem ME{a:Type}{P:a->Prop}{b:a}(q:P b):(sC P).isSome:=by unfold sC;rw[dif_pos ⟨b,q⟩];rfl
def MF(L:List Rt)(s:Int):Option Rn:=sC λr=>∃e,EA 0 L s e/\e.r=r
def Ztc(L:List Rt)(a:Int):Option (Int×Int×Int):=sC λt=>∃s e cs,EA 0 L s e/\e.ap=Z (t.1,t.2.1,cs,t.2.2)/\a=s+e.r.n
theorem C0(q:x∈eW 0 L):(MF L x).isSome\/x=((bD 0 L).length:Int):=by
 rcases ZsX q with⟨e,q⟩|q;·exact .inl (ME ⟨e,q,W⟩)
 ·rw[ZlZ]at q;exact .inr (by grind)
theorem ZsY(q:sA m (eW 0 L) 0 L)(C:∀i,(aB (bD 0 L++[.fin]) i).OK m (bD 0 L++[Pl.fin]).length):GR (bD 0 L++[.fin]) m ((bD 0 L).length:Int) (MF L) (Ztc L) where
 b:=C0 (by cases L<;>exact .head _)
 e:=by simp[aB]
 r:=λ{s r} h=>by
  obtain⟨e,d,rfl⟩:=yL h;have K:=yK d q;obtain⟨E,y,j,w⟩:=MD d (pre:=[]) (post:=[Pl.fin]) W;rw[ZvJ]at j;rw[j];refine⟨?_,λ{l1 x l2 t1 t t2} z A=>?_,K.sp,K.nd,K.ne⟩;·have:=CZ (post:=y) w (l:=e.cI s) (i:=0) W;rw[show s+((0:Nat):Int)=s by simp]at this;exact this
  ·have G:t1.length<e.r.τ.length:=by rw[A];simp
   have c:=Zry (x0:=e.r.x0) (x:=x.1) (g:=x.2) (t:=t) (t2:=t2) (t1:=t1) (b:=s+1+((l1.length*e.r.τ.length:Nat):Int));rw[<-A]at c;have:=Zrz (l1:=l1) (l2:=l2) (b:=s+1) G c;rw[<-z]at this;have:=CZ (post:=y) w (l:=e.cI s) (i:=l1.length*e.r.τ.length+t1.length+1) (p:=_) (by show(Pl.say _ _ _::gM e.r.x0 e.r.τ (s+1) e.r.xs++e.qg)[_]?=_;rw[iF (by rw[bh];have:=(bF.mp this).1;grind),qG];exact this);rw[show s+((l1.length*e.r.τ.length+t1.length+1:Nat):Int)=e.r.pn s l1 t1 by unfold Rn.pn;lia]at this;rw[this,show s+1+((l1.length*e.r.τ.length:Nat):Int)+(t1.length:Int)+1=e.r.pn s l1 t1+1 by unfold Rn.pn;lia]
 g:=λ{s r} h x z=>by
  obtain⟨e,d,rfl⟩:=yL h;rcases(yK d q).g x z with k|⟨k,k'⟩;·exact(C0 k).imp_right .inl
  ·obtain⟨⟨u,v,cs,f⟩,k⟩:=ql.mp k;exact .inr (.inr (ME (b:=(u,v,f)) ⟨s,e,cs,d,k,k'⟩))
 t:=λ{s r} h=>by obtain⟨e,d,rfl⟩:=yL h;exact(yK d q).t
 a:=λ{a u v f} h=>by
  obtain⟨s,e,cs,d,B,rfl⟩:=yL h;obtain⟨k1,k2,k3⟩:=(yK d q).a B;refine⟨⟨cs,?_,k2,k3⟩,C0 k1⟩;obtain⟨E,y,j,w⟩:=MD d (pre:=[]) (post:=[Pl.fin]) W;rw[ZvJ]at j;rw[j];refine CZ w ?_;show(e.r.cI s++e.qg)[_]?=_;have:(e.r.cI s).length=e.r.n:=by simp[Rn.cI,yJ,Rn.n,zk]
  rw[m8 (by exact vv this),this,Nat.sub_self];unfold Rt.qg;rw[B];rfl
 k:=C
theorem Zl0{τ:List Tm}{x:Sd×Int}:∀{l:List (Sd×Int)}{b:Int},gM x0 τ b (l++[x])=gM x0 τ b l++gY x0 x.1 x.2 (b+((l.length*τ.length:Nat):Int)) τ:=by intro l;induction l with|nil=>intro b;simp[gM]|cons y r a=>intro b;show gY _ _ _ _ _++gM x0 τ (b+τ.length) (r++[x])=_;rw[a,bh,nq,show b+(τ.length:Int)+((r.length*τ.length:Nat):Int)=b+((r.length*τ.length+τ.length:Nat):Int) by lia];simp[gM]
theorem Zkg{τ:List Tm}{x:Sd×Int}:∀{l:List (Sd×Int)}{b:Int},ic τ b (l++[x])=ic τ b l++[(x.1.1,x.1.2,if τ.isEmpty then x.2 else b+((l.length*τ.length:Nat):Int))]:=by intro l;induction l with|nil=>intro b;simp[ic]|cons y r a=>intro b;show _::ic τ (b+τ.length) (r++[x])=_;rw[a,bh,nq,show b+(τ.length:Int)+((r.length*τ.length:Nat):Int)=b+((r.length*τ.length+τ.length:Nat):Int) by lia];exact W
def mW(x0:Sd)(τ:List Tm)(s:Int)(xs:List (Sd×Int)):List D:=(gM x0 τ (s+1) xs).map Pl.toD
def mX(τ:List Tm)(s:Int)(xs:List (Sd×Int)):List D:=(ic τ (s+1) xs).map aY
noncomputable def ve:List D->List Pl->List D|rs,[]=>rs|rs,p::l=>ve (rs++[p.toD]) l
theorem Zpb:∀{l:List Pl}{a:List D},ve a l=a++l.map Pl.toD:=by intro l;induction l with|nil=>intro a;simp[ve]|cons p l b=>intro a;simp[ve,b]
theorem MG{τ:List Tm}{s:Int}{xs:List (Sd×Int)}{x:Sd×Int}(h:xs[i]?=Z x):mW x0 τ s (xs.take (i+1))=ve (mW x0 τ s (xs.take i)) (gY x0 x.1 x.2 (s+1+((i*τ.length:Nat):Int)) τ):=by rw[Zpb];unfold mW;rw[jv,h];show(gM x0 τ (s+1) (xs.take i++[x])).map _=_;rw[Zl0,bX,kv,Eu (du (bF.mp h).1)]
theorem MH{τ:List Tm}{s:Int}{xs:List (Sd×Int)}{x:Sd×Int}(h:xs[i]?=Z x):mX τ s (xs.take (i+1))=mX τ s (xs.take i)++[aY (x.1.1,x.1.2,if τ.isEmpty then x.2 else s+1+((i*τ.length:Nat):Int))]:=by unfold mX;rw[jv,h];show(ic τ (s+1) (xs.take i++[x])).map _=_;rw[Zkg,bX,kv,Eu (du (bF.mp h).1)];rfl
theorem MI{s:Int}{xs:List (Sd×Int)}(h:i<=xs.length):(mX τ s (xs.take i)).length=i:=by
 have:∀(l:List (Sd×Int))(b:Int),(ic τ b l).length=l.length:=by intro l;induction l with|nil=>intro b;rfl|cons x r a=>intro b;simp[ic,a]
 unfold mX;rw[aE,this,kv,Eu h]
theorem C1{τ:List Tm}{s:Int}{xs:List (Sd×Int)}(h:i<=xs.length):(mW x0 τ s (xs.take i)).length=i*τ.length:=by unfold mW;rw[aE,yJ,kv,Eu h]
theorem MJ{a:Type}{ws:List a}{gs:List Int}{i:Nat}{x:a}(h:ws[i]?=Z x)(b:ws.length<=3)(c:gs.length=3):∃g,gs[i]?=Z g/\(ws.zip gs)[i]?=Z (x,g):=by have d:=(bF.mp h).1;have:gs[i]?=Z gs[i]:=cy 'd';exact⟨_,this,by rw[Ou];exact⟨h,this⟩⟩
noncomputable def i0(one a:Int)(bs:List Int):List Tm:=(one,bs.headD 0,be)::bs.map λb=>(a,b,bi)
theorem Zgt{n:Nat}(hn:1<=n){s one:Int}{bs gs:List Int}(B:bs.length=1\/bs.length=2)(w:gs.length=3)(m:(x0::e).length<=3):Ev (Tab n .fC [.int s,.lst (gs.map .int),.int one,.lst ((a::bs).map .int),.lst ((x0::e).map bM)]) λd=>d=.lst ((Rn.cI ⟨one,a,i0 one a bs,x0,(x0::e).zip gs⟩ s).map Pl.toD):=by
 obtain⟨k,rfl,L⟩:=cD (c:=0) hn;rw[tab];refine iT (np:=5) (n:=13) (gb:=BQ (Tab k)) ?_;unfold BQ
 ac_nf;show Ev (dq _ _ _ [_,_,_,_,_,_,_,_,_,_,_,_,_]) _;refine jl (λR i r=>∃t u f h j,r=R.take 5++Z (.own (mW x0 (i0 one a bs) s (((x0::e).zip gs).take i)))::Z (.own (mX (i0 one a bs) s (((x0::e).zip gs).take i)))::((R.drop 7).take 1++[t,u,f,h,j])) ⟨_,_,_,_,_,W⟩ ?_ ?_;·rintro i d r C ⟨t,u,f,h,j,rfl⟩;obtain⟨y,z,rfl⟩:=ym _ _ _ _ C;rw[bW,bu]at z;obtain⟨x,A,rfl⟩:=z;obtain⟨g,v,hz⟩:=MJ A m w;have E:=u0 v;have G:=(bF.mp A).1;simp only[bh]at G m;have p:=du (bF.mp hz).1;rw[MG hz,MH hz,md];have H:=MI (τ:=i0 one a bs) (s:=s) p;have q:=C1 (x0:=x0) (τ:=i0 one a bs) (s:=s) p;generalize mW x0 (i0 one a bs) s (((x0::e).zip gs).take i)=M at*;generalize mX (i0 one a bs) s (((x0::e).zip gs).take i)=cs at*;refine⟨_,W,?_⟩;match bs,B with
  |[b],_=>
   simp only[i0,bh,aE,jP]at q
   ac_nf;exact⟨_,_,_,_,_,W⟩|[b,c],_=>
   simp only[i0,bh,aE,jP]at q
   ac_nf;exact⟨_,_,_,_,_,W⟩
 ·rintro r ⟨t,u,f,h,j,rfl⟩;have I:((x0::e).zip gs).take ((x0::e).map bM).length=(x0::e).zip gs:=zl (by rw[qt,aE];exact ZvK ..);rw[pd,I];have J:=C1 (x0:=x0) (τ:=i0 one a bs) (s:=s) (xs:=(x0::e).zip gs) (ba _);rw[jS]at J;have hz:((x0::e).zip gs).length*(i0 one a bs).length<=3*3:=Eo (by rw[qt,w];exact ZvL ..) (by simp only[i0,bh,aE];lia)
  ac_nf
structure RK(m:Int)(gs:List Int)(nw lt:Int)(r:Rn):Prop where
 w:∃ws:List Sd,r.xs=ws.zip gs/\(ws.length:Int)=nw/\(∀x∈ws,kg x)/\dY (ws.map (·.1))=be/\kg r.x0
 l:(r.τ.length:Int)=m-2+lt
 h0:mQ m r.one r.o0
 ht:∀t∈r.τ,mQ m t.1 t.2.1
 sp:∀t∈r.τ,t.1=r.one\/t.1=r.o0
 t:∀h,0<=h->h<m->r.one=h\/r.o0=h\/∃t∈r.τ,inv h t=be/\t.2.2=bi
 nd:((r.one,r.o0)::r.τ.map λt=>(t.1,t.2.1)).Nodup
theorem MK{one a h:Int}{τ:List Tm}{bs:List Int}(c:∀b∈bs,(u,b,bi)∈τ)(q:one=h\/a=h\/h∈bs):one=h\/a=h\/∃t∈τ,inv h t=be/\t.2.2=bi:=q.imp_right λq=>q.imp_right λq=>⟨_,c _ q,by simp[inv],W⟩
noncomputable def dP(m one q:Int)(k:Int):Int:=(one+1+(k+q)%(m-1))%m
theorem ZrB{one:Int}(f:2<=m)(i:0<=one)(j:one<m)(a:0<=h)(b:h<m):one=h\/∃k,0<=k/\k<m-1/\dP m one q k=h:=by
 by_cases e:one=h;·exact .inl e
 obtain⟨d,d0,d1,c⟩:∃d,0<=d/\d<m-1/\(one+1+d=h\/one+1+d=h+m):=by
  by_cases g:one<h;·exact⟨h-one-1,by lia,by lia,.inl 'd'⟩
  ·exact⟨h-one-1+m,by lia,by lia,.inr 'd'⟩
 refine .inr ⟨(d-q)%(m-1),qJ _ 'd',qK _ 'd',?_⟩;unfold dP;rw[Int.emod_add_emod,Int.sub_add_cancel,OF d0 d1];rcases c with e|e<;>rw[e];·exact OF a b
 ·rw[Int.add_emod_right];exact OF a b
theorem ML{one:Int}{bs:List Int}(c:0<=one)(d:one<m)(a:0<=h)(b:h<m)(e:m=2/\bs=[]\/m=3/\bs=[dP m one q (0+1)]\/m=4/\bs=[dP m one q (0+1),dP m one q (0+1+1)]):one=h\/dP m one q 0=h\/h∈bs:=by
 refine(ZrB (q:=q) 'd' c d a b).imp_right ?_;rintro⟨k,k0,k1,rfl⟩;rcases e with⟨rfl,rfl⟩|⟨rfl,rfl⟩|⟨rfl,rfl⟩;·exact .inl (by rw[show k=0 by lia])
 ·obtain rfl|rfl:k=0\/k=0+1:=by lia
  ·exact .inl W
  ·exact .inr (by exact .head _)
 ·obtain rfl|rfl|rfl:k=0\/k=0+1\/k=0+1+1:=by lia
  ·exact .inl W
  ·exact .inr (by exact .head _)
  ·exact .inr (by exact .tail _ (.head _))
theorem qh{one k:Int}(a:m=3\/m=4)(e:(k+q)%(m-1)≠(k'+q)%(m-1)):dP m one q k≠dP m one q k':=(yo a ⟨qJ _ 'd',qK _ 'd'⟩ ⟨qJ _ 'd',qK _ 'd'⟩ e).2.2.2.2
theorem ZsZ{one:Int}{bs:List Int}(p:0<=one)(r:one<m)(f:m=2/\bs=[]\/m=3/\bs=[dP m one q (0+1)]\/m=4/\bs=[dP m one q (0+1),dP m one q (0+1+1)])(v:((x0::e).length:Int)=j)(d:∀x∈x0::e,kg x)(w:dY ((x0::e).map (·.1))=be):RK m gs j 0 ⟨one,dP m one q 0,bs.map λb=>(one,b,bi),x0,(x0::e).zip gs⟩:=by
 have g:∀k,mQ m one (dP m one q k):=λk=>La 'd' p r;refine⟨⟨_,W,v,d,w,d x0 'k'⟩,?_,g 0,λt i=>?_,λt i=>?_,λh a b=>MK (bs:=bs) (u:=one) (λb c=>aL.mpr ⟨b,c,W⟩) ?_,?_⟩;·rcases f with⟨rfl,rfl⟩|⟨rfl,rfl⟩|⟨rfl,rfl⟩<;>rfl
 ·obtain⟨b,c,rfl⟩:=aL.mp i;rcases f with⟨rfl,rfl⟩|⟨rfl,rfl⟩|⟨rfl,rfl⟩;·cases c
  ·cases aZ.mp c;exact g _
  ·simp only[a7,kC,or_false]at c;rcases c with rfl|rfl<;>exact g _
 ·obtain⟨b,c,rfl⟩:=aL.mp i;exact .inl W
 ·exact ML p r a b f
 ·rcases f with⟨rfl,rfl⟩|⟨rfl,rfl⟩|⟨rfl,rfl⟩;·simp
  ·simpa using qh (.inl W) 'd'
  ·have y:=qh (m:=4) (one:=one) (q:=q) (k:=0) (k':=0+1) (.inr W) 'd';have z:=qh (m:=4) (one:=one) (q:=q) (k:=0) (k':=0+1+1) (.inr W) 'd';have A:=qh (m:=4) (one:=one) (q:=q) (k:=0+1) (k':=0+1+1) (.inr W) 'd';simp_all
theorem Zpc{one:Int}{bs:List Int}(j:0<=one)(p:one<m)(d:m=3/\bs=[dP m one q (0+1)]\/m=4/\bs=[dP m one q (0+1),dP m one q (0+1+1)])(r:((x0::f).length:Int)=i)(e:∀x∈x0::f,kg x)(v:dY ((x0::f).map (·.1))=be):RK m gs i 1 ⟨one,dP m one q 0,i0 one (dP m one q 0) bs,x0,(x0::f).zip gs⟩:=by
 have c:∀k,mQ m one (dP m one q k):=λk=>La 'd' j p;have w:∀b∈bs,mQ m one b/\mQ m (dP m one q 0) b:=by
  rcases d with⟨rfl,rfl⟩|⟨rfl,rfl⟩;·simp only[a7,kC,or_false,forall_eq];exact⟨c _,yo (.inl W) 'd' 'd' 'd'⟩
  ·simp only[a7,kC,or_false,forall_eq_or_imp,forall_eq];exact⟨⟨c _,yo (.inr W) 'd' 'd' 'd'⟩,c _,yo (.inr W) 'd' 'd' 'd'⟩
 refine⟨⟨_,W,r,e,v,e x0 'k'⟩,?_,c 0,λt ht=>?_,λt ht=>?_,λh a b=>MK (bs:=bs) (u:=dP m one q 0) (λb g=>cx _ (aL.mpr ⟨b,g,W⟩)) ?_,?_⟩;·rcases d with⟨rfl,rfl⟩|⟨rfl,rfl⟩<;>rfl
 ·rcases a7.mp ht with rfl|ht;·rcases d with⟨rfl,rfl⟩|⟨rfl,rfl⟩<;>exact c _
  ·obtain⟨b,g,rfl⟩:=aL.mp ht;exact(w b g).2
 ·rcases a7.mp ht with rfl|ht;·exact .inl W
  ·obtain⟨b,g,rfl⟩:=aL.mp ht;exact .inr W
 ·exact ML j p a b (.inr d)
 ·rcases d with⟨rfl,rfl⟩|⟨rfl,rfl⟩
  ·have y:=qh (m:=3) (one:=one) (q:=q) (k:=0) (k':=0+1) (.inl W) 'd';have e0:=(c 0).2.2.2.2;simp_all[i0]
  ·have y:=qh (m:=4) (one:=one) (q:=q) (k:=0) (k':=0+1) (.inr W) 'd';have z:=qh (m:=4) (one:=one) (q:=q) (k:=0+1) (k':=0+1+1) (.inr W) 'd';have e0:=(c 0).2.2.2.2;simp_all[i0]
theorem MM{n:Nat}(hn:9<=n){s:Int}{gs:List Int}(Y:gs.length=3)(hm:m=2\/m=3\/m=4):Ev (Tab n .fD [.int c,.int s,.int m,.lst (gs.map .int)]) λd=>∃r:Rn,d=.lst ((r.cI s).map Pl.toD)/\RK m gs (iW c) (iV c m) r:=by
 obtain⟨k,rfl,I⟩:=cD (c:=8) hn;have J:=gA (c:=c) (p:=9929) (m:=m) 'd';have L:=gB (c:=c) (p:=9929) (m:=m) 'd';have hmx:=eN (n:=k) (fu I) (c:=c) (p:=9929) (m:=m) 'a' (by exact Zvu J L);generalize mix c 9929 m=one at J L hmx;have hmq:=eN (n:=k) (fu I) (c:=c) (p:=9901) (m:=m-1) 'a' (by grind);generalize mix c 9901 (m-1)=q at hmq;have hmn:=eN (n:=k) (fu I) (c:=c) (p:=9949) (m:=3) 'a' 'a';have hw:=yn c;refine aM (KR (k:=k) (fu I) (c:=c) (iW c).toNat 0 am 'd') λM h1 h2 h3=>?_;have hlen:M.length=(iW c).toNat:=by simpa using congrArg qm h2
 refine d6 (Ca (ws:=M) (by grind) (by rw[h2];exact Zgs 'd')) λws s1 s2 s3 hr=>?_;have z:=λx hx=>h3 x (s3 x hx);have j:=K_ (n:=k) (fu I) c m;rw[tab];refine iT (np:=4) (n:=13) (gb:=BR (Tab k)) ?_;unfold BR;have t:∀{r Q q},r=Z (.ak (.int c))::r.tail->kS q Q (.aF (r.set 6 (Z (.ak (.lst (ws.map bM))))))->Ev (cg 6 (vH (ax kQ (ai [cf [am,Z 0] (dJ (ai [ae aQ 'c' (ax (Tab k .fv) (ai [aa 0,cC (.int 9949),cC (.int 3)]))])) (gN 0) (λ_=>Z be) (ax (Tab k .fy) (ai [aa 1,aa 0]))]))) r) (kS q Q):=λ{r Q q} e h=>by refine df (cP (aP (aj (gz (ds:=(nj 0 (iW c).toNat).map λ(i:Nat)=>D.int (i:Int)) ?_ (small (by simp;lia)) (by rw[e];exact h1)) W) s1)) h;rw[<-vT,<-pR,e];exact si (by ac_nf) 'd' 'd'
 have u:(ws.length:Int)=iW c:=by grind
 obtain⟨x0,f,rfl⟩:=Ej (l:=ws) (by intro e;rw[e]at u;simp at u;lia);have A:(x0::f).length<=3:=by grind
 cases B:sj c m with|true=>
  rw[B]at j;have e1:iV c m=1:=by unfold iV;rw[B];rfl
  have hm':m=3\/m=4:=by simp[sj]at B;lia
  have a:∀bs,(m=3/\bs=[dP m one q (0+1)]\/m=4/\bs=[dP m one q (0+1),dP m one q (0+1+1)])->Ev (Tab k .fC [.int s,.lst (gs.map .int),.int one,.lst ((dP m one q 0::bs).map .int),.lst ((x0::f).map bM)]) λd=>∃r:Rn,d=.lst ((r.cI s).map Pl.toD)/\RK m gs (iW c) (iV c m) r:=λbs w=>(Zgt (fu I) (by rcases w with⟨_,rfl⟩|⟨_,rfl⟩;exact .inl W;exact .inr W) Y A).imp λd e=>⟨_,e,by rw[e1];exact Zpc J L w u z hr⟩;obtain rfl|rfl:=hm'
  ·obtain⟨d,N,hp⟩:=a _ (.inl ⟨W,W⟩)
   ac_nf;refine t W ?_
   ac_nf;exact jJ (aP (by ac_nf) N) hp
  ·obtain⟨d,N,hp⟩:=a _ (.inr ⟨W,W⟩)
   ac_nf;refine t W ?_
   ac_nf;exact jJ (aP (by ac_nf) N) hp|false=>
  rw[B]at j;have e1:iV c m=0:=by unfold iV;rw[B];rfl
  have a:=λbs w=>ZsZ (m:=m) (one:=one) (q:=q) (gs:=gs) (bs:=bs) J L w u z hr;clear z hr s1 s2 s3 h1 h2 h3 J L;have Lm:=qt (l₁:=x0::f) (l₂:=gs);rw[Y]at Lm;obtain⟨bs,w⟩:∃bs,m=2/\bs=[]\/m=3/\bs=[dP m one q (0+1)]\/m=4/\bs=[dP m one q (0+1),dP m one q (0+1+1)]:=by
   rcases hm with rfl|rfl|rfl
   ·exact⟨_,.inl ⟨W,W⟩⟩
   ·exact⟨_,.inr (.inl ⟨W,W⟩)⟩
   ·exact⟨_,.inr (.inr ⟨W,W⟩)⟩
  have a:=a bs w;obtain⟨τ,C⟩:∃τ:List Tm,τ=bs.map λb=>(one,b,bi):=⟨_,W⟩
  rw[<-C]at a;have ht:((x0::f).zip gs).take ((x0::f).map bM).length=(x0::f).zip gs:=zl (by rw[qt,aE];exact ZvK ..);have O:=λi=>MI (τ:=τ) (s:=s) (xs:=(x0::f).zip gs) (i:=i);have v:=λi=>C1 (x0:=x0) (τ:=τ) (s:=s) (xs:=(x0::f).zip gs) (i:=i);have T:τ.length<=2:=by rw[C,aE];rcases w with⟨_,rfl⟩|⟨_,rfl⟩|⟨_,rfl⟩<;>exact kB ..
  clear hm;rcases w with⟨rfl,rfl⟩|⟨rfl,rfl⟩|⟨rfl,rfl⟩;all_goals
   ac_nf
   refine t W ?_
   ac_nf;show Ev (dq _ _ _ [_,_,_,_,_,_,_,_,_,_,_,_,_]) _;refine jl (λR i r=>∃o9 E G H,r=R.take 7++Z (.own (mW x0 τ s (((x0::f).zip gs).take i)))::[Z (.own (mX τ s (((x0::f).zip gs).take i))),o9,E,G,H]) ⟨_,_,_,_,W⟩ ?_ ?_
   ·rintro i d r N ⟨o9,E,G,H,rfl⟩;obtain⟨y,hy,rfl⟩:=ym _ _ _ _ N;rw[bW,bu]at hy;obtain⟨x,hx,rfl⟩:=hy;obtain⟨g,Au,hz⟩:=MJ hx A Y;have hga:=u0 Au;have hi:=(bF.mp hx).1;have U:=du (bF.mp hz).1;have O:=O i U;have v:=v i U;simp only[bh]at hi A;rw[MG hz,MH hz,md];generalize mW x0 τ s (((x0::f).zip gs).take i)=rs at*;generalize mX τ s (((x0::f).zip gs).take i)=cs at*;subst C;simp only[bh,aE,jP]at v;refine⟨_,W,?_⟩
    ac_nf;simp only[Int.add_zero,Ow];exact⟨_,_,_,_,W⟩
   ·rintro r ⟨o9,E,G,H,rfl⟩;rw[pd,ht];have B:=v _ (ba _);rw[jS]at B;have hz:((x0::f).zip gs).length*τ.length<=3*2:=Eo (by rw[qt,Y];exact ZvL ..) T
    ac_nf;exact⟨_,W,by rw[e1];exact a⟩
theorem Zl1{n:Nat}(hn:8<=n){c:Int}(hm:m=2\/m=3\/m=4)(Y:0<=d/\d<N)(E:0<=b/\b<N):∃u v cs,Tab n .fE [.int c,.int d,.int m,.int b]=Z (Pl.say u v cs).toD/\(Pl.say u v cs).OK m N/\cs.length<=2/\(∀c∈cs,c.2.2=d\/c.2.2=b)/\∃c∈cs,c.2.2=b:=by
 obtain⟨k,rfl,B⟩:=cD (c:=7) hn;have I:=gA (c:=c) (p:=9871) (m:=m) 'd';have J:=gB (c:=c) (p:=9871) (m:=m) 'd';have b0:=gA (c:=c) (p:=9859) (m:=m-1) 'd';have b1:=gB (c:=c) (p:=9859) (m:=m-1) 'd';have f:=eN (n:=k) (fu B) (c:=c) (p:=9871) (m:=m) 'a' 'd';have g:=eN (n:=k) (fu B) (c:=c) (p:=9859) (m:=m-1) 'a' 'd';have t:=eN (n:=k) (fu B) (c:=c) (p:=9931) (m:=3) 'a' 'a';generalize mix c 9871 m=one at I J f;generalize mix c 9859 (m-1)=q at b0 b1 g;generalize mix c 9931 3=r at t;obtain⟨L,M,w0⟩:=uW (n:=k) B (c+1) 0 ⟨by decide,by decide⟩;obtain⟨O,Q,w1⟩:=uW (n:=k) B (c+1) 1 ⟨by decide,by decide⟩;have T:(([(dM (c+1) 0,L),(dM (c+1) 1,O)]:List Sd).map (·.1)).Nodup:=by simp;intro e;have:=B5 (c:=c+1) (i:=0) (j:=1) ⟨by decide,by decide⟩ ⟨by decide,by decide⟩ e;lia
 refine d6 (Ca (ws:=[(dM (c+1) 0,L),(dM (c+1) 1,O)]) 'k' T) λws e1 e2 e3 e4=>?_;have C:∀x∈ws,kg x:=λx w=>by
  have:=e3 x w;simp at this;rcases this with rfl|rfl;·exact w0
  ·exact w1
 obtain⟨x,y,rfl⟩:∃x y,ws=[x,y]:=by match ws,e2 with|[x,y],_=>exact⟨x,y,W⟩
 have w:=C x 'k';have U:=C y 'k';have z:kQ [.lst [bM (dM (c+1) 0,L),bM (dM (c+1) 1,O)]]=Z (.lst [bM x,bM y]):=e1;have a:0<=(one+1+q)%m/\(one+1+q)%m<m/\one≠(one+1+q)%m:=by rcases hm with rfl|rfl|rfl<;>refine⟨by lia,by lia,by lia⟩
 have A:fW (.int (one+1+q)) (.int m)=Z (.int ((one+1+q)%m)):=ia 'd';rw[tab];by_cases G:r=1
 ·subst G;refine⟨one,(one+1+q)%m,[(x.1,x.2,b)],?_,⟨I,J,a.1,a.2.1,a.2.2,by simp,by simp,λch H=>?_,W⟩,by simp,by simp,by simp⟩;·dsimp! [x9,f,g,t,M,Q,z,A,eq_int,l3,Pl.toD]
  ·have:ch=(x.1,x.2,b):=by simpa using H
   subst this;exact⟨w.1,w.2.1,w.2.2,E.1,E.2⟩
 ·have GH:(r==1)=bi:=by simpa using G
  have main:∀u v:Int,(0<=u/\u<N)->(0<=v/\v<N)->(Pl.say one ((one+1+q)%m) [(x.1,x.2,u),(y.1,y.2,v)]).OK m N:=λu v hu hv=>by
   refine⟨I,J,a.1,a.2.1,a.2.2,by simp,by simp,λch H=>?_,e4⟩;simp at H;rcases H with rfl|rfl
   ·exact⟨w.1,w.2.1,w.2.2,hu.1,hu.2⟩
   ·exact⟨U.1,U.2.1,U.2.2,hv.1,hv.2⟩
  rcases mod2 c with h|h
  ·refine⟨_,_,_,?_,main d b Y E,by simp,by simp,by simp⟩;dsimp! [x9,f,g,t,M,Q,z,A,eq_int,G,l3,Pl.toD,ia,h]
  ·refine⟨_,_,_,?_,main b d E Y,by simp,by simp,by simp⟩;dsimp! [x9,f,g,t,M,Q,z,A,eq_int,G,l3,Pl.toD,ia,h]
theorem MN:∀{τ:List Tm}{b:Int},p∈gY x0 x g b τ->∃t1 t t2,τ=t1++t::t2/\p=.say t.1 t.2.1 [((jN x0 x t).1,(jN x0 x t).2,if t2.isEmpty then g else b+(t1.length:Int)+1)]:=by intro τ;induction τ with|nil=>intro b q;cases q|cons t r a=>
  intro b q;rcases a7.mp q with rfl|q;·exact⟨[],t,r,W,by simp⟩
  ·obtain⟨t1,u,t2,rfl,rfl⟩:=a q;exact⟨t::t1,u,t2,W,by rw[bh,show b+1+(t1.length:Int)+1=b+((t1.length+1:Nat):Int)+1 by lia]⟩
theorem MO{τ:List Tm}:∀{xs:List (Sd×Int)}{b:Int},p∈gM x0 τ b xs->∃x∈xs,∃a,b<=a/\a+τ.length<=b+((xs.length*τ.length:Nat):Int)/\p∈gY x0 x.1 x.2 a τ:=by intro xs;induction xs with|nil=>intro b q;cases q|cons x r c=>
  intro b q;rw[bh,nq];rcases bQ.mp q with q|q;·exact⟨x,bE,b,zm b,by lia,q⟩
  ·obtain⟨y,d,a,e,f,q⟩:=c q;exact⟨y,cx _ d,a,by lia,by grind,q⟩
noncomputable def vf(t:Tm):Int×Int:=(t.1,t.2.1)
theorem Zpd:∀{τ:List Tm}{b:Int},(gY x0 x g b τ).countP (sy u v)=(τ.map vf).count (u,v):=by intro τ;induction τ with|nil=>intro b;rfl|cons t r a=>intro b;show ZvM _ (_::gY x0 x g (b+1) r)=_;rw[ZvN,a,br,ZvO];congr 1
theorem Zpe{τ:List Tm}:∀{xs:List (Sd×Int)}{b:Int},(gM x0 τ b xs).countP (sy u v)=xs.length*(τ.map vf).count (u,v):=by intro xs;induction xs with|nil=>intro b;simp[gM]|cons x r a=>intro b;show ZvM _ (gY _ _ _ _ _++_)=_;rw[Ox,a,Zpd,bh,nq,zk]
theorem Zs0{l:List Pl}(h:∀p∈l,p.bo.length=1):(l.flatMap Pl.bo).length=l.length:=by induction l with|nil=>rfl|cons p l a=>rw[qM,bB,h p (by exact .head _),a λq b=>h q (by simp[b]),bh,zk]
theorem C5:∀{xs:List (Sd×Int)}{b:Int},(ic τ b xs).map (·.1)=xs.map (·.1.1):=by intro xs;induction xs with|nil=>intro b;rfl|cons x r a=>intro b;simp[ic,a]
section
variable {m:Int}{gs:List Int}{nw lt:Int}{r:Rn}
theorem yM(K:RK m gs nw lt r)(h:gs.length=3)(hn:1<=nw/\nw<=3):(r.xs.length:Int)=nw/\(∀x∈r.xs,kg x.1/\x.2∈gs)/\dY (r.xs.map (·.1.1))=be:=by
 obtain⟨ws,e,g,a,f,_⟩:=K.w;have b:ws.length<=gs.length:=by lia
 have c:r.xs.map (·.1)=ws:=by rw[e];exact List.map_fst_zip b
 refine⟨by rw[<-g,<-c,aE],λx d=>⟨a _ (by rw[<-c];exact aL.mpr ⟨x,d,W⟩),?_⟩,?_⟩;·rw[e]at d;exact(vo d).2
 ·rw[<-c,ej]at f;exact f
theorem MP(K:RK m gs nw lt r)(C:gs.length=3)(hn:1<=nw/\nw<=3){s:Int}(I:0<=s)(h:s+r.n<=N)(d:∀g∈gs,0<=g/\g<N):∀p∈r.cI s,p.OK m N:=by
 obtain⟨J,z,E⟩:=yM K C hn;obtain⟨_,_,_,_,_,i⟩:=K.w;unfold Rn.n at h;intro p hp;rcases a7.mp hp with rfl|hp
 ·have G:(ic r.τ (s+1) r.xs).length=r.xs.length:=by have:=congrArg qm (C5 (τ:=r.τ) (xs:=r.xs) (b:=s+1));simpa using this
  refine⟨K.h0.1,K.h0.2.1,K.h0.2.2.1,K.h0.2.2.2.1,K.h0.2.2.2.2,by lia,by lia,λc j=>?_,by rw[C5];exact E⟩;obtain⟨l1,x,l2,e,rfl⟩:=CO j;obtain⟨q,a⟩:=z x (by rw[e];simp);refine ck q ?_;cases A:r.τ with|nil=>exact d _ a|cons t t2=>show 0<=s+1+((l1.length*(t::t2).length:Nat):Int)/\s+1+((l1.length*(t::t2).length:Nat):Int)<N;have:(l1.length+1)*r.τ.length<=r.xs.length*r.τ.length:=ZvG _ (by rw[e];simp);rw[A,nq,bh]at this;rw[A,bh]at h;rw[bh];lia
 ·obtain⟨x,u,B,H,v,hp⟩:=MO hp;obtain⟨t1,t,t2,e,rfl⟩:=MN hp;obtain⟨q,a⟩:=z x u;have f:=K.ht t (by rw[e];simp);refine⟨f.1,f.2.1,f.2.2.1,f.2.2.2.1,f.2.2.2.2,by exact ba _,by exact kB ..,λc j=>?_,W⟩;cases aZ.mp j;refine ck (y:=(jN r.x0 x.1 t)) ?_ ?_
  ·unfold jN;split;·exact i
   ·exact q
  ·cases t2 with|nil=>exact d _ a|cons t' t2=>show 0<=B+(t1.length:Int)+1/\B+(t1.length:Int)+1<N;rw[e,bB,bh,bh]at v;rw[e,bB,bh,bh]at h;lia
theorem MQ(K:RK m gs nw lt r)(d:gs.length=3)(hn:1<=nw/\nw<=3)(h:m<=4)(f:lt<=1){s:Int}:BK 3 12 (r.cI s):=by
 obtain⟨i,_⟩:=yM K d hn;have g:=K.l;have hz:r.xs.length*r.τ.length<=3*3:=Eo 'd' (by grind);refine⟨λu v=>?_,?_⟩
 ·unfold Rn.cI;rw[ZvN,Zpe];have c:=List.nodup_iff_count.mp K.nd (u,v);rw[ZvO]at c;have e:(if sy u v (Pl.say r.one r.o0 (ic r.τ (s+1) r.xs))=be then 1 else 0)=if((r.one,r.o0)==(u,v))=be then 1 else 0:=by exact W
  rw[e];have c:(r.τ.map vf).count (u,v)+(if((r.one,r.o0)==(u,v))=be then 1 else 0)<=1:=c;generalize(if((r.one,r.o0)==(u,v))=be then 1 else 0)=z at*;have:(r.τ.map vf).count (u,v)=0\/(r.τ.map vf).count (u,v)=1:=by grind
  rcases this with e|e<;>rw[e]at c⊢ <;>lia
 ·show((Pl.say _ _ _::gM r.x0 r.τ (s+1) r.xs).flatMap Pl.bo).length<=12;rw[qM,bB,Zs0,yJ];·have:=congrArg qm (C5 (τ:=r.τ) (xs:=r.xs) (b:=s+1));rw[aE,aE]at this;show(ic r.τ (s+1) r.xs).length+_<=_;lia
  ·intro p a;obtain⟨x,_,j,_,_,a⟩:=MO a;obtain⟨_,_,_,_,rfl⟩:=MN a;rfl
theorem MR(K:RK m gs nw lt r)(h:gs.length=3)(hn:1<=nw/\nw<=3){st:List Int}{s:Int}{a:Option (Int×Int×List Ch×Int)}(b:∀g∈gs,g∈st\/a.isSome/\g=s+r.n)(i:∀{u v cs f},a=Z (u,v,cs,f)->f∈st/\(∀c∈cs,c.2.2=s+r.n\/c.2.2=f)/\∃c∈cs,c.2.2=f):vd m st s ⟨r,a⟩:=by obtain⟨d,j,p⟩:=yM K h hn;exact⟨K.sp,yf p,λe=>by rw[show r.xs=[] from e]at d;simp at d;lia,K.t,λx q=>b _ (j x q).2,i⟩
end
theorem Zl3{e:Rt}:∀{L:List Rt}{s:Int},bD s (L++[e])=bD s L++e.cI (s+((bD s L).length:Int)):=by intro L;induction L with|nil=>intro s;simp[bD]|cons d L a=>intro s;show d.cI s++bD (s+d.n) (L++[e])=(d.cI s++bD (s+d.n) L)++e.cI (s+((d.cI s++bD (s+d.n) L).length:Int));rw[a,bB,oA,ju,show s+(d.n:Int)+((bD (s+d.n) L).length:Int)=s+((d.n+(bD (s+d.n) L).length:Nat):Int) by lia]
theorem Zl4{e:Rt}:∀{L:List Rt}{s:Int},eW s (L++[e])=eW s L++[s+((bD s L).length:Int)+e.n]:=by intro L;induction L with|nil=>intro s;simp[bD,eW]|cons d L a=>intro s;show s::eW (s+d.n) (L++[e])=s::(eW (s+d.n) L++[s+((d.cI s++bD (s+d.n) L).length:Int)+e.n]);rw[a,bB,oA,show s+(d.n:Int)+((bD (s+d.n) L).length:Int)=s+((d.n+(bD (s+d.n) L).length:Nat):Int) by lia]
theorem Zkm{st:List Int}:∀{L:List Rt}{s:Int},sA m st s L->vd m st (s+((bD s L).length:Int)) e->sA m st s (L++[e]):=by intro L;induction L with|nil=>intro s _ q;exact⟨by simpa [bD]using q,trivial⟩|cons d L a=>
  intro s h q;refine⟨h.1,a h.2 ?_⟩;have:s+((bD s (d::L)).length:Int)=s+d.n+((bD (s+d.n) L).length:Int):=by show s+((d.cI s++bD (s+d.n) L).length:Int)=_;rw[bB,oA];lia
  rw[<-this];exact q
structure IL(m:Int)(st:List Int)(N:Int)(i:Nat)(x:Int)(L:List Rt):Prop where
 s:eW 0 L=st.take (i+1)
 l:((bD 0 L).length:Int)=x
 e:sA m st 0 L
 o:∀p∈bD 0 L,p.OK m N
 b:BK (4*i) (14*i) (bD 0 L)
theorem IL.snoc{st:List Int}(h:IL m st N i x L){e:Rt}(d:st[i+1]?=Z (x+e.n))(f:vd m st x e)(g:∀p∈e.cI x,p.OK m N)(j:BK 4 14 (e.cI x)):IL m st N (i+1) (x+e.n) (L++[e])/\bD 0 (L++[e])=bD 0 L++e.cI x:=by
 have c:(0:Int)+((bD 0 L).length:Int)=x:=by rw[h.l];simp
 have a:bD 0 (L++[e])=bD 0 L++e.cI x:=by rw[Zl3,c]
 refine⟨⟨?_,?_,Zkm h.e (by rw[c];exact f),?_,?_⟩,a⟩;·rw[Zl4,c,h.s,jv (i:=i+1),d];rfl
 ·rw[a,bB,oA];have:=h.l;lia
 ·rw[a];intro p hp;rcases bQ.mp hp with hp|hp;·exact h.o p hp
  ·exact g p hp
 ·rw[a];exact(h.b.app j).mono (by exact ba _) (by exact ba _)
theorem vg{m:Int}{st:List Int}{r:Rn}:(Rt.cI ⟨r,am⟩ x)=r.cI x/\(Rt.n ⟨r,am⟩)=r.n:=⟨by exact eZ _,by simp[Rt.n,Rt.qg]⟩
theorem Zs1{m:Int}{st:List Int}{r:Rn}:(Rt.cI ⟨r,Z (u,v,cs,f)⟩ x)=r.cI x++[.say u v cs]/\(Rt.n ⟨r,Z (u,v,cs,f)⟩)=r.n+1:=⟨by simp[Rt.cI,Rt.qg],by exact W⟩
theorem Zl5{n:Nat}(hn:8<=n){c:Int}(f:m=2\/m=3\/m=4)(g:0<=b/\b<N)(i:0<=a/\a<N):Ev (Tab n .fE [.int c,.int b,.int m,.int a]) λd=>∃u v cs,d=(Pl.say u v cs).toD/\(Pl.say u v cs).OK m N/\cs.length<=2/\(∀c∈cs,c.2.2=b\/c.2.2=a)/\∃c∈cs,c.2.2=a:=by obtain⟨u,v,cs,e,h⟩:=Zl1 hn f g i;exact⟨_,e,u,v,cs,W,h⟩
theorem MS{gs:List Int}{lt:Int}{r:Rn}(K:RK m gs a lt r)(b:gs.length=3)(hn:1<=a/\a<=3):(r.n:Int)=1+a*(m-2+lt):=by obtain⟨c,_⟩:=yM K b hn;rw[<-c,<-K.l];unfold Rn.n;simp
theorem Zs2{n:Nat}(hn:10<=n)(A:m=2\/m=3\/m=4){cells:List Int}(h3:cells.length<=3):
  Ev (Tab n .fG [.int m,.lst (cells.map .int)]) (λd=>∃L,d=aJ m (bD 0 L++[.fin])/\IL m (eW 0 L) ((bD 0 L).length+1) cells.length ((bD 0 L).length:Int) L/\(bD 0 L).length<=39):=by
 obtain⟨k,rfl,Y⟩:=cD (c:=9) hn;have hle:=Lf A cells 0;have hsl:=pV m cells 0;generalize hT:(cu m 0 cells).getLastD 0=T at hle;have G:∀(i:Nat)(y:Int),(cu m 0 cells)[i]?=Z y->0<=y/\y<T+1:=λi y hy=>by have:=Cr A cells 0 i y hy;lia
 rw[tab];refine iT (np:=2) (n:=8) (gb:=BS (Tab k)) ?_;unfold BS
 ac_nf;show Ev (dq _ _ _ [_,_,_,_,_,_,_,_]) _;refine jl (λR i r=>∃q st,r=R.take 2++Z (.own st)::q::R.drop 4/\st=(cu m 0 (cells.take i)).map .int) ⟨_,_,W,W⟩ ?_ ?_
 ·rintro i d r hd ⟨q,st,rfl,rfl⟩;rw[bW,bu]at hd;obtain⟨c,B,rfl⟩:=hd;have hl:=pV m (cells.take i) 0;have hla:=ZoH (xs:=cu m 0 (cells.take i)) 'd';have hs:=ZqP (n:=k) (fu Y) (c:=c) (m:=m) 'd' 'd';have hz:(cells.take i).length<=3:=by rw[kv];lia
  refine⟨_,W,?_⟩
  ac_nf;refine⟨_,_,W,?_⟩;rw[jv,B];show _=(cu m 0 (cells.take i++[c])).map D.int;rw[Lg,bX];rfl
 rintro r ⟨q,st,rfl,rfl⟩;rw[aE,jS];have hnx:=λi c=>Ld (m:=m) cells 0 i c;have H:(cu m 0 cells)[0]?=Z 0:=by cases cells<;>rfl
 have I:=Le (m:=m) cells 0;generalize cu m 0 cells=st at*
 ac_nf;show Ev (dq _ _ _ [_,_,_,_,_,_,_,_]) _;refine jl (λR i r=>∃q o5 o6 o7 x L,r=R.take 3++[q,Z (SD.own ((bD 0 L).map Pl.toD)),o5,o6,o7]/\IL m st (T+1) i x L/\st[i]?=Z x) ⟨_,_,_,_,0,[],W,⟨by rw[jv,H];rfl,W,trivial,by simp[bD],by simp[bD,BK]⟩,H⟩ ?_ ?_
 ·rintro i d r hd ⟨q,o5,o6,o7,x,L,rfl,hR,t⟩;obtain⟨y,hy,rfl⟩:=ym _ _ _ _ hd;rw[bW,bu]at hy;obtain⟨c,B,rfl⟩:=hy;obtain⟨_,e,b⟩:=hnx i c B;rw[t]at e
  (obtain rfl:=ao e);have hi:=(bF.mp B).1;have J:=G _ _ t;have kO:=G _ _ b;have Zv5:=u0 t;have M:=u0 b;rw[show((i+1:Nat):Int)=(i:Int)+1 by rfl]at M;have hsz:=Cq (c:=c) A;have q8:((bD 0 L).map Pl.toD).length=(bD 0 L).length:=aE ..;have Gz:=hR.l;rw[md];have hL:(st.map D.int).length=st.length:=aE ..;have C:=λz=>ZqQ (xs:=st) (v:=mix z 9907 (st.map D.int).length) (gA 'd') (by have:=gB (c:=z) (p:=9907) (m:=(st.map D.int).length) 'd';lia);have a0:=(C (c+7*0)).1;have a1:=(C (c+7*(0+1))).1;have a2:=(C (c+7*(0+1+1))).1;have b0:=(C (c+7*0)).2;have b1:=(C (c+7*(0+1))).2;have b2:=(C (c+7*(0+1+1))).2;generalize st.getD (mix (c+7*0) 9907 (st.map D.int).length).toNat 0=g0 at*;generalize st.getD (mix (c+7*(0+1)) 9907 (st.map D.int).length).toNat 0=g1 at*;generalize st.getD (mix (c+7*(0+1+1)) 9907 (st.map D.int).length).toNat 0=g2 at*;refine⟨_,W,?_⟩;have hex:mR c=if decide (0<mix c 9931 3)=be then 1 else 0:=by simp[mR]
  have hsI:cV c m=1+iW c*(m-2+iV c m)+mR c:=rfl;have a:=yn c;have O:=Cp c m;have c0:=G _ _ b0;have c1:=G _ _ b1;have c2:=G _ _ b2;cases Q:decide (0<mix c 9931 3)
  ·simp only[Q,ll,if_false]at hex
   ac_nf;refine K0 (K1 (K2 W (Cg (by ac_nf) ?_)));refine(MM (gs:=[_,_,_]) Y W A).imp ?_;rintro d ⟨r,rfl,K⟩;have hrn:=MS K W a;obtain⟨w,U⟩:=vg (m:=m) (st:=st) (x:=x) (r:=r);obtain⟨E,j⟩:=hR.snoc (e:=⟨r,am⟩) (by rw[U,b];congr 1;lia) (MR K W a (λg j=>.inl (by
    simp only[a7,kC,or_false]at j;rcases j with rfl | rfl | rfl<;>exact cj ‹_›)) λh=>by injection h) (by
     rw[w];exact MP K W a J.1 'd' (by simpa using⟨c0,c1,c2⟩)) (by rw[w];exact(MQ K W a 'd' O.2).mono (by exact i7 _) (by exact kB ..));rw[w]at j;rw[U]at E;refine⟨_,W,?_,by rw[<-bX];exact jL yl _,?_⟩
   ·rw[<-bB,<-bX,<-j,aE];have:=E.l;lia
   ac_nf
   exact⟨_,_,_,_,_,_,by rw[j,bX];rfl,E,by rw[b];congr 1;lia⟩
  ·simp only[Q,if_true]at hex
   ac_nf;refine K0 (K1 (K2 W (Cg (by ac_nf) ?_)));refine(MM (gs:=[_,_,_]) Y W A).imp ?_;rintro d ⟨r,rfl,K⟩;have hrn:=MS K W a;have hK:=MP K W a (N:=T+1) J.1 (by grind) (by simpa using⟨by lia,c1,c2⟩);refine⟨_,W,?_,by rw[<-bX];exact jL yl _,?_⟩
   ·rw[aE,aE];have:(r.cI x).length=r.n:=by rw[<-(vg (m:=m) (st:=st) (x:=x) (r:=r)).1,oA,(vg (m:=m) (st:=st) (x:=x) (r:=r)).2]
    lia
   have hl1:((bD 0 L).map Pl.toD++(r.cI x).map Pl.toD).length<1000:=by
    rw[bB,aE,aE];have:(r.cI x).length=r.n:=by rw[<-(vg (m:=m) (st:=st) (x:=x) (r:=r)).1,oA,(vg (m:=m) (st:=st) (x:=x) (r:=r)).2]
    lia
   ac_nf
   refine ZqK W (small (by exact du hl1)) (Zd_ (Cg (by ac_nf) ((Zl5 (N:=T+1) (fu Y) A 'd' c0).imp ?_)));rintro d ⟨u,v,cs,rfl,hp,hp2,hp3,hp4⟩;obtain⟨w,U⟩:=Zs1 (m:=m) (st:=st) (x:=x) (u:=u) (v:=v) (f:=g0) (cs:=cs) (r:=r);obtain⟨E,j⟩:=hR.snoc (e:=⟨r,Z (u,v,cs,g0)⟩) (by rw[U,b];congr 1;lia) (MR K W a (λg j=>by
    simp only[a7,kC,or_false]at j;rcases j with rfl | rfl | rfl
    ·exact .inr ⟨W,by lia⟩
    ·exact .inl (cj b1)
    ·exact .inl (cj b2)) λh=>by
     cases h;exact⟨cj b0,λc B=>(hp3 c B).imp_left λe=>by grind,hp4⟩) (by
     rw[w];intro p h;rcases bQ.mp h with h | h
     ·exact hK p h
     ·cases aZ.mp h;exact hp) (by rw[w];exact((MQ K W a 'd' O.2).app (show BK 1 2 [Pl.say u v cs] from⟨λu v=>Oz,by simpa [Pl.bo]using hp2⟩)).mono (by exact ba _) (by exact ba _));rw[w]at j;rw[U]at E;refine⟨yl _,?_⟩
   ac_nf;exact⟨_,_,_,_,_,_,by rw[j,bX,bX,<-ju];rfl,E,by rw[b];congr 1;lia⟩
 ·rintro r ⟨q,o5,o6,o7,x,L,rfl,hR,t⟩;rw[pd,aE]at t hR;rw[I,hT]at t
  (obtain rfl:=ao t);have es:eW 0 L=st:=hR.s.trans (zl (by exact vv hsl));have hl:=hR.l;have q8:((bD 0 L).map Pl.toD).length=(bD 0 L).length:=aE ..
  ac_nf;refine⟨L,by simp[aJ,Pl.toD],?_,by lia⟩;rw[es,hl];exact hR
def MT(m:Int)(ps:List Pl):Prop:=∀h,0<=h->h<m->∀e:Nat,2<=e->∀x y,Sy (aS ps) 'i' 0 x y->¬gE e ps h x y
theorem Zpf{n:Nat}(hn:10<=n)(d:m=2\/m=3\/m=4){cells:List Int}(f:cells.length<=3):∃ps:List Pl,Tab n .fG [.int m,.lst (cells.map .int)]=Z (aJ m ps)/\gK m ps/\BK 12 42 ps/\MT m ps:=by
 obtain⟨_,e,L,rfl,a,g⟩:=Zs2 hn d f;have hz:((bD 0 L++[Pl.fin]).length:Int)=((bD 0 L).length:Int)+1:=by simp
 have c:gK m (bD 0 L++[.fin]):=⟨by lia,by lia,by simp,by simp;exact fo g,λp i=>by
  rw[hz];rcases bQ.mp i with h|h;·exact a.o p h
  ·cases aZ.mp h;trivial⟩;exact⟨_,e,c,(a.b.app (show BK 0 0 [Pl.fin] from⟨λu v=>by exact dQ _,by exact dQ _⟩)).mono 'd' 'd',λh j q e r x y s=>(ZsY a.e (qd c)).Ztb r j q s⟩
theorem Zpg(F:List Int):(F.map kI).map kD=F.map D.int:=by rw[ej];rfl
theorem Zph{ks:List Key}(h:ks.length<64)(e:intsOf (ks.map kD)=Z ns):mI [.aW ks vs]=Z (.lst ((sortI ns).map .int)):=by simp only[mI,k1,if_pos h,e]
theorem Zpi{ks:List Key}(h:ks.length<64)(e:intsOf (ks.map kD)=am)(a:strsOf (ks.map kD)=Z ns):mI [.aW ks vs]=Z (.lst ((d8 ns).map .str)):=by simp only[mI,k1,if_pos h,e,a]
theorem MV{n:Nat}(hn:2<=n){ps:List Pl}(J:G2 m ps)(M:ps.length<64){S:List Int}(N:∀s∈S,0<=s/\s<ps.length)(O:S.length<=900):Tab n .fo [.tup (ps.map Pl.toD),.int h,.lst (S.map .int)]=Z (gD (eF ps h S)):=by
 obtain⟨k,rfl,H⟩:=cD (c:=1) hn;refine Ev.eq ?_;rw[tab];refine iT (np:=3) (n:=6) (gb:=BJ (Tab k)) ?_;unfold BJ;refine aV (yp (aN (aV (f9 (ds:=S.map .int) W (aN (aV ?_))))));show Ev (eE _ _ _ [_,_,_,_,_,_]) _;refine mP (λn r=>∃(F L:List Int)(i:Option SD),r=[Z (.ak 'e'),Z (.ak (.int h)),Z (.ak (.lst (S.map .int))),Z (.ow (Z (F.map kI)) (F.map λ_=>.bl be)),Z (.own (L.map .int)),i]/\AI ps h S F L/\L.length+6*(ps.length-F.length)+1<=n/\L.length<=900+5*F.length) ?_ ?_ 99999 _ ⟨[],S,am,W,L5 N,by simp;lia,by simpa using O⟩;·rintro r ⟨F,L,i,rfl,_,w,_⟩;lia
 rintro n r ⟨F,L,i,rfl,a,w,A⟩;have B:=a.len;rcases OB L with rfl|⟨C,y,rfl⟩
 ·have E:mI [.aW (F.map kI) (F.map λ_=>.bl be)]=Z (.lst ((eF ps h S).map .int)):=by rw[<-a.end];exact Zph (by rw[aE];exact iG B M) (by rw[Zpg];exact u4 F)
  exact .inl ⟨(by rfl),aN (Cn (Cj (aP (aj (aP 'l' E) W) W) (Lj _)) (iS W))⟩
 rw[OC]at a w A⊢;refine .inr ⟨aU (au (aP 'l' W) W (by show Z (D.bl (decide _))=_;rw[decide_eq_true (by simp<;>omega)])),?_⟩;obtain⟨⟨Q,T⟩,_⟩:=iC.mp (a.l y 'k');rw[bB]at w A;simp only[vC]at w A;have p:=jk (m:=m) Q T;have G:lR (.int y) (.aW (F.map kI) (F.map λ_=>.bl be))=Z (.bl (!decide (y∈F))):=by show Z (D.bl (!(atK (F.map kI) (F.map λ_=>.bl be) (.inl y)).isSome))=_;rw[show(atK (F.map kI) (F.map λ_=>D.bl be) (.inl y)).isSome=decide (y∈F) from jQ.mpr (((yq 'k').trans (by simp[kI])).trans decide_eq_true_iff.symm)]
 refine aV (yk (xs:=C.map .int) (x:=.int y) (by show Z _=_;rw[bX];rfl) (aN (Cm (Ck (aU (au W W G))) ?_)));by_cases t:y∈F;·exact dO (by simpa using t) (dN (dS ⟨F,C,Z (.ak (.int y)),W,a.old t,by lia,by lia⟩))
 obtain⟨I,f⟩:=a.new J t;have u:=I.len;rw[bB]at u;obtain⟨U,Y⟩:=yr (d:=.bl be) (j:=.inl y) (ks:=F.map kI) (ds:=F.map λ_=>.bl be) (λz=>by obtain⟨_,h,e⟩:=aL.mp z;exact t (Zvy e▸h)) 'k';have b:∃(v L2:List Int)(i:Option SD),[Z (SD.ak 'e'),Z (.ak (.int h)),Z (.ak (.lst (S.map .int))),Z (.ow (Z (gy (F.map kI) (.inl y))) (DL.gJ (F.map kI) (F.map λ_=>.bl be) (.inl y) (.bl be))),Z (.own (C.map .int++(jr ps h y).map .int)),Z (.ak (.int y))]=[Z (SD.ak 'e'),Z (.ak (.int h)),Z (.ak (.lst (S.map .int))),Z (.ow (Z (v.map kI)) (v.map λ_=>.bl be)),Z (.own (L2.map .int)),i]/\AI ps h S v L2/\L2.length+6*(ps.length-v.length)+1<=n/\L2.length<=900+5*v.length:=⟨F++[y],_,_,by rw[U,Y];simp only[bX];rfl,I,by simp at u⊢;lia,by simp;lia⟩;refine eO (by simpa using t) (aV (uZ W W W W (by rw[aE];lia) (aN (c4 (mM (aU (aP (aj (au W W (aX p)) 'l') (pW H _ h)))) ?_))));cases q:aA ps h y with|true=>rw[show jr ps h y=[] from if_pos q,vu,eZ]at b;exact dO (by rw[<-u5,q];rfl) (dN (dS b))|false=>
  have ex:jr ps h y=iX ps y:=if_neg (by rw[q];exact ei);rw[ex]at b f;unfold iX at f b;rw[aE]at f;have g:bT (gN 0) (λ_=>Z be) (ae ay (aa 0) (cC (.int 2))) [am] ((aB ps y).bo.map aY)=Z (((aB ps y).bo.map λc=>c.2.2).map .int):=by rw[sr (tl:=[]) (h:=λc:Ch=>D.int c.2.2) _ _ λc _=>au W W (aX at2),ej]<;>rfl
  exact eO (by rw[<-u5,q];rfl) (Mf W (es:=((aB ps y).bo.map λc:Ch=>c.2.2).map D.int) (mO (oa (gC (aP (aj (au W W (aX p)) W) (KP H _)) W) (small (by rw[aE];exact fo f)) g)) (du (big (by simp;lia))) (dS b))
def gZ(cs:List Ch)(w:Str):D:=.tup [((cs.filter λc=>c.1==w).head?.map vW).getD .aC,.lst ((cs.filter λc=>c.1==w).map λc=>.int c.2.2)]
def gO(cs:List Ch):List Str:=c9 (cs.map (·.1))
def ldK(cs:List Ch):List Key:=(gO cs).map .inr
def i4(cs:List Ch):List D:=(gO cs).map (gZ cs)
theorem MW(cs:List Ch)(c:Ch):gO (cs++[c])=gI (gO cs) c.1:=by unfold gO c9;rw[bX,DV];rfl
theorem MX{c:Ch}(h:c.1≠w):gZ (cs++[c]) w=gZ cs w:=by unfold gZ;rw[ZvP,show [c].filter (λc=>c.1==w)=[] by simp[h],eZ]
theorem MY{f:Str->D}:∀{l:List Str},w∈l->gW (l.map (km:Str->Key)) (.inr w)<l.length/\(l.map f)[gW (l.map (km:Str->Key)) (.inr w)]?=Z (f w)/\(l.Nodup->∀g:Str->D,(∀x∈l,x≠w->g x=f x)->(l.map f).set (gW (l.map (km:Str->Key)) (.inr w)) (g w)=l.map g)
 |x::l,h=>by
  rw[br];unfold gW;by_cases e:x=w;·subst e;rw[if_pos W];refine⟨oI _,W,λhn g a=>?_⟩;show g x::l.map f=g x::l.map g;exact congrArg (g x:: ·) (qF λy b=>(a y (.tail _ b) λz=>(gf.mp hn).1 (z▸b)).symm)
  ·rw[if_neg λz=>e (vV z)];obtain⟨c,d,i⟩:=MY (f:=f) ((a7.mp h).resolve_left λz=>e z.symm);exact⟨Oa c,d,λhn g a=>by show f x::_=g x::l.map g;rw[<-a x (.head _) e,i (gf.mp hn).2 g λy b=>a y (.tail _ b)]⟩
theorem MZ:∀{l:List Str},w∉l->gW (l.map (km:Str->Key)) (.inr w)=l.length|[],_=>rfl|x::l,h=>by rw[br];unfold gW;rw[if_neg λz=>h (by rw[vV z];exact .head _),MZ λz=>h (.tail _ z)];rfl
theorem Zpj(xs:List Str):(c9 xs).Nodup:=by
 have:∀(xs l:List Str),l.Nodup->(xs.foldl gI l).Nodup:=λxs=>by induction xs with|nil=>exactλl h=>h|cons x xs a=>
   intro l h;refine a _ ?_;unfold gI;split;·exact h
   ·rename_i z;exact oP.mpr ⟨h,by simp,λu b v c e=>z (by rw[<-aZ.mp c,<-e];exact b)⟩
 exact this xs [] .nil
theorem ZrE{cs:List Ch}{c:Ch}(A:cs.length<64):uQ (ldK cs) (i4 cs) (.inr c.1) (vW c) (.int c.2.2)=Z (ldK (cs++[c]),i4 (cs++[c])):=by
 have hz:(gO cs).length<=cs.length:=by have:=rC (cs.map (·.1));rw[aE]at this;exact this
 have i:(ldK cs).length<aD:=by unfold ldK;rw[aE];exact small 'd'
 unfold uQ;rw[if_pos i];have fl:(cs++[c]).filter (λx=>x.1==c.1)=cs.filter (λx=>x.1==c.1)++[c]:=by rw[ZvP];simp
 by_cases a:c.1∈gO cs
 ·obtain⟨j,m,p⟩:=MY (f:=gZ cs) a;obtain⟨x,d,r⟩:=aL.mp ((uv _ _).mp a);have b:x∈cs.filter λx=>x.1==c.1:=dt.mpr ⟨d,beq_iff_eq.mpr r⟩;have g:gO (cs++[c])=gO cs:=by rw[MW];exact if_pos a
  unfold ldK i4;rw[g,if_pos (by rw[aE];exact j),m];have hf:=ZvE (λx:Ch=>x.1==c.1) cs;show(if((cs.filter λx=>x.1==c.1).map λc:Ch=>D.int c.2.2).length<aD then _ else am)=_;rw[if_pos (by rw[aE];exact small 'd')];have t:=p (Zpj _) (gZ (cs++[c])) λy _ h=>MX (b6 h);refine congrArg (λz=>Z ((gO cs).map (km:Str->Key),z)) (Eq.trans ?_ t);congr 1;unfold gZ;rw[fl,bX];cases q:cs.filter λx=>x.1==c.1 with|nil=>rw[q]at b;cases b|cons y l=>rfl
 ·have g:gO (cs++[c])=gO cs++[c.1]:=by rw[MW];exact if_neg a
  unfold ldK i4;have u:cs.filter (λx=>x.1==c.1)=[]:=Er.mpr λx d e=>a ((uv _ _).mpr (aL.mpr ⟨x,d,beq_iff_eq.mp e⟩));rw[g,if_neg (by rw[MZ a,aE];exact js _),bX,bX];have v:(gO cs).map (gZ (cs++[c]))=(gO cs).map (gZ cs):=qF λy h=>MX λz=>a (z▸h);rw[v];have w:gZ (cs++[c]) c.1=.tup [vW c,.lst [.int c.2.2]]:=by unfold gZ;rw[fl,u];rfl
  show _=Z (_,(gO cs).map (gZ cs)++[gZ (cs++[c]) c.1]);rw[w];rfl
theorem ZrF{r:ar}{k n:Nat}{Q:aK->Prop}{z:List Key×List D}(a:r[i]?=Z (Z (.xt (.s ks) ds)))(b:aa w (pv r)=Z dw)(c:aa k (pv r)=Z dk)(d:aa n (pv r)=Z dn)(e:lF dw=Z j)(f:uQ ks ds j dk dn=Z z)(g:l≠n/\l<r.length)(q:Q (.aF ((r.set i (Z (.xt (.s z.1) z.2))).set l am))):Ev (uR i l w k n r) Q:=⟨_,by unfold uR;rw[a,b,c,d];show(lF dw).bind _=_;rw[e,bx,f,bx,if_pos g],q⟩
theorem Zpk{n:Nat}(hn:1<=n){T:List Pl}(u:∀p∈T,p.iB=be)(y:(T.flatMap Pl.bo).length<64):Tab n .fp [.lst (T.map Pl.toD)]=Z (.aW (ldK (T.flatMap Pl.bo)) (i4 (T.flatMap Pl.bo))):=by
 obtain⟨k,rfl,z⟩:=cD (c:=0) hn;refine Ev.eq ?_;rw[tab];refine iT (np:=1) (n:=7) (gb:=BL (Tab k)) ?_;unfold BL;refine aV ⟨_,W,aN (aV (ki (ds:=T.map Pl.toD) W ?_))⟩;show Ev (dq _ _ _ [_,Z (.xt (.s []) []),_,_,_,_,_]) _;refine jl (λR (j:Nat) r=>∃o2 e f g,r=[Z (.ak (.lst (T.map Pl.toD))),Z (.xt (.s (ldK ((T.take j).flatMap Pl.bo))) (i4 ((T.take j).flatMap Pl.bo))),o2,e,f,g,am]) ⟨am,am,am,am,W⟩ ?_ ?_
 ·rintro j d r h ⟨o2,e,f,g,rfl⟩;rw[bW,bu]at h;obtain⟨p,i,rfl⟩:=h;have v:=u p (cj i);obtain⟨a,b,cs,rfl⟩:=qb v;have m:(T.take (j+1)).flatMap Pl.bo=(T.take j).flatMap Pl.bo++cs:=by rw[jv,i,En,vU];simp[Pl.bo]
  have w:((T.take j).flatMap Pl.bo).length+cs.length<=(T.flatMap Pl.bo).length:=by
   rw[<-bB,<-m];conv=>rhs;rw[<-Em (j+1) T]
   rw[vU,bB];lia
  rw[m];generalize(T.take j).flatMap Pl.bo=bs at w⊢;refine⟨_,W,ki (ds:=cs.map aY) (gC (au W W (aX iz)) W) ?_⟩;show Ev (dq _ _ _ [_,Z (.xt (.s (ldK bs)) (i4 bs)),Z (.ak (Pl.say a b cs).toD),_,_,_,am]) _;refine jl (λR (t:Nat) r=>∃e f g,r=[Z (.ak (.lst (T.map Pl.toD))),Z (.xt (.s (ldK (bs++cs.take t))) (i4 (bs++cs.take t))),Z (.ak (Pl.say a b cs).toD),e,f,g,am]) ⟨_,_,_,by rw[List.take_zero,eZ]⟩ ?_ ?_
  ·rintro t d r h ⟨e,f,g,rfl⟩;rw[bW,bu]at h;obtain⟨c,q,rfl⟩:=h;have A:=(bF.mp q).1;have x:bs++cs.take (t+1)=bs++cs.take t++[c]:=by rw[jv,q,ju];rfl
   rw[x];refine⟨_,W,ZrF (dw:=.str c.1) (dk:=vW c) (dn:=.int c.2.2) W W W W W (ZrE (by rw[bB,kv];lia)) ⟨by decide,ba 7⟩ (dS ⟨_,_,_,W⟩)⟩
  ·rintro r ⟨e,f,g,rfl⟩;rw[aE,jS];exact dS ⟨_,_,_,_,W⟩
 rintro r ⟨o2,e,f,g,rfl⟩;rw[aE,jS];exact aN ⟨_,W,iS W⟩
theorem M0{c:Type}{g u:c->D}{f:c->Bool}{d:ag->Option Bool}{h:ag->Option D}{tl:ag}:∀(l:List c)(o:Option D),(∀a∈l,d (Z (g a)::tl)=Z (f a)/\h (Z (g a)::tl)=Z (u a))->bT (gN 0) d h (o::tl) (l.map g)=Z ((l.filter f).map u)|[],_,_=>rfl|a::r,o,hf=>by have i:=M0 r (Z (g a)) λx j=>hf x (cx _ j);obtain⟨b,m⟩:=hf a bE;cases e:f a with|true=>rw[e]at b;rw[ZvB e];exact jK (ρ':=Z (g a)::tl) W b m i|false=>rw[e]at b;rw[br,ZvC (by simp[e])];simp only[bT,gN,qI,bx,b,ll,if_false];exact i
noncomputable def f_(n:Nat):List D:=(eG n).map λ(i:Nat)=>.int i
theorem Zpl(n:Nat):f_ (n+1)=f_ n++[.int n]:=by unfold f_;rw[List.range_succ,bX];rfl
theorem M1(n:Nat):(f_ n).length=n:=by unfold f_;rw[aE,oH]
theorem M3(h:gD G=gD c):G=c:=(Ei λa b z=>D.int.inj z).mp (D.tup.inj h)
theorem M4{Ks:List (List Int)}:gD G∈Ks.map gD↔G∈Ks:=⟨λh=>by obtain⟨_,h,e⟩:=aL.mp h;exact M3 e▸h,λh=>aL.mpr ⟨G,h,W⟩⟩
theorem yN(G:List Int):h_ 8 (gD G)=be:=by show(G.map D.int).all (h_ 7)=be;rw[Zum];exact g7.mpr λ_ _=>rfl
theorem Zs3(G:List Int)(Ks:List (List Int)):rW (gD G) (.tab (Ks.map gD) (f_ Ks.length))=Z (.bl (!decide (G∈Ks))):=by refine(if_pos ⟨yN G,by rw[aE,M1]⟩).trans ?_;exact congrArg (λb=>Z (D.bl (!b))) (decide_eq_decide.mpr M4)
theorem M5:∀{Ks:List (List Int)}{a:Nat},G∈Ks->atT (Ks.map gD) ((nj a Ks.length).map λ(i:Nat)=>D.int i) (gD G)=Z (.int ((a+Ks.idxOf G:Nat):Int))
 |K::Ks,a,h=>by
  rw[bh,vS];show(if gD K=gD G then Z (D.int (a:Int))else atT (Ks.map gD) _ (gD G))=_;by_cases e:K=G;·subst e;rw[if_pos W,List.idxOf_cons_self];rfl
  ·rw[if_neg λz=>e (M3 z),M5 ((a7.mp h).resolve_left λz=>e z.symm),Zvk,show(K==G)=bi from beq_eq_false_iff_ne.mpr e];simp only[Bool.cond_false];congr 2;lia
theorem Ztd{Ks:List (List Int)}(h:G∈Ks):lS (.tab (Ks.map gD) (f_ Ks.length)) (gD G)=Z (.int (Ks.idxOf G:Nat)):=by refine(if_pos ⟨yN G,by rw[aE,M1]⟩).trans ?_;unfold f_;rw[vT];exact(M5 h).trans (by rw[md])
theorem Zte{t:ag->Option Bool}{Q:D×List (Addr×ET)->Prop}(h:t (fz r)=Z b)(k:bif b then Ev (u r) Q else Ev (w r) Q):Ev (uO t u w r) Q:=by cases b<;>simpa [Ev,uO,h]using k
theorem Zs4(h:w∈gO cs):atK (ldK cs) (i4 cs) (.inr w)=Z (gZ cs w):=by
 unfold ldK i4;have:∀{l:List Str},w∈l->atK (l.map (km:Str->Key)) (l.map (gZ cs)) (.inr w)=Z (gZ cs w):=λ{l}=>by induction l with|nil=>exactλh=>nomatch h|cons x l a=>
   intro h;show(if(km x:Key)=.inr w then Z (gZ cs x)else atK (l.map (km:Str->Key)) (l.map (gZ cs)) (.inr w))=_;by_cases e:x=w;·rw[e,if_pos W]
   ·rw[if_neg λz=>e (vV z)];exact a ((a7.mp h).resolve_left λz=>e z.symm)
 exact this h
theorem Zpm{n:Nat}(hn:3<=n){ps:List Pl}(hG:G2 m ps)(hp:ps.length<64){G:List Int}(A:∀z∈G,0<=z/\z<ps.length)(Mt:G.length<64)(i:(bp ps (G.filter 'i')).length<64){Ks:List (List Int)}(hz:(ib ps h Ks G).1.length<=aD):iR (Tab n .fr) [.tup (ps.map Pl.toD),.int h,gD G] [(am,Ks.map gD),(Z (Ks.map gD),f_ Ks.length)]=Z (oz ps h Ks G,[(am,(ib ps h Ks G).1.map gD),(Z ((ib ps h Ks G).1.map gD),f_ (ib ps h Ks G).1.length)]):=by
 obtain⟨k,rfl,Y⟩:=cD (c:=2) hn;rw[show Tab (k+1) .fr=encM (runM 10 (BM (Tab k)) 3 2) from W,Bx];refine Jv ⟨W,W⟩ W λas ha=>Ev.eq ?_;obtain⟨a,as,rfl⟩:=List.exists_cons_of_length_eq_add_one ha;obtain⟨b,rfl⟩:=ZvF.mp (Eh ha);unfold BM;have hT:∀s∈G.filter 'i',(0<=s/\s<ps.length)/\aA ps h s=be:=λs B=>⟨A s (dt.mp B).1,(dt.mp B).2⟩;refine ov (f9 (ds:=((G.filter 'i').map (aB ps)).map Pl.toD) (pQ (oa (gC (x:=gD G) W W) (small (by rw[aE];lia)) ?_) (jL yl _)) (ou ?_));·rw[ej];exact M0 (tl:=[Z 'e',Z (.int h)]) _ _ λx u=>⟨aU (aP (aj (au W W (aX (jk (m:=m) (A x u).1 (A x u).2))) 'l') (pW (fu Y) _ h)),au W W (aX (jk (m:=m) (A x u).1 (A x u).2))⟩
 show Ev (uO _ _ _ [Z (.ak 'e'),Z (.ak (.int h)),Z (.ak (gD G)),Z (.xt (.x a) (Ks.map gD)),Z (.xt (.t (Z b) (Ks.map gD)) (f_ Ks.length)),Z (.ak (.lst (((G.filter 'i').map (aB ps)).map Pl.toD))),am,am,am,am]) _;unfold ib at hz;unfold oz ib;refine Zte (aU (au (aP 'l' W) W eq_int)) ?_;generalize G.filter 'i'=T at hz hT i⊢;cases T with|nil=>exact⟨_,W,W⟩|cons t T0=>
 generalize f:t::T0=T at hz hT i⊢;have h0:T[0]?=Z t:=f▸rfl;have uo:T≠[]:=f▸zj _ _;have ht:=hT t (cj h0);obtain⟨a1,b1,g,e1⟩:=qb (oy ht.2);have ec:(T.map (aB ps)).flatMap Pl.bo=bp ps T:=by unfold bp;rw[ZvI]
 have C:=Zpk (n:=k) (fu Y) (T:=T.map (aB ps)) (λp hp=>by obtain⟨x,u,rfl⟩:=aL.mp hp;exact oy (hT x u).2) (by rw[ec];exact i);rw[ec]at C;have hnn:bp ps T≠[]:=λz=>by have ho:=mL hG t;rw[e1]at ho;obtain⟨c,l,e⟩:=List.exists_cons_of_length_pos ho.2.2.2.2.2.1;have:c∈bp ps T:=nk.mpr ⟨t,cj h0,by rw[e1];show c∈g;rw[e];exact .head _⟩;rw[z]at this;cases this
 have hb:(((((T.map (aB ps)).map Pl.toD).length:Nat):Int)==0)=bi:=by rw[<-f];rfl
 rw[hb];refine(ov (df (cP (aP 'l' C)) (ou (ov (f9 (ds:=[]) W (ou (ov (ki (ds:=(b7 ps T).map .str) ?_ ?_))))))))
 ·refine gC (x:=.lst ((b7 ps T).map .str)) (aP 'l' ?_) W;have es:(ldK (bp ps T)).map kD=(gO (bp ps T)).map .str:=by unfold ldK;rw[ej];rfl
  have el:(gO (bp ps T)).length<64:=by have:=rC ((bp ps T).map (·.1));rw[aE]at this;exact iG this i
  refine Zpi (by unfold ldK;rw[aE];exact el) ?_ (by rw[es];exact uT _);rw[es];cases q:gO (bp ps T)with|cons w l=>rfl|nil=>obtain⟨c,l,e⟩:=Ej hnn;have:=(uv ((bp ps T).map (·.1)) c.1).mpr (aL.mpr ⟨c,by rw[e];exact .head _,W⟩);rw[show c9 ((bp ps T).map (·.1))=[] from q]at this;cases this
 show Ev (dq _ _ _ [_,_,_,Z (.xt (.x a) (Ks.map gD)),Z (.xt (.t (Z b) (Ks.map gD)) (f_ Ks.length)),_,Z (.ak (.aW (ldK (bp ps T)) (i4 (bp ps T)))),Z (.own []),_,_]) _;refine jl (λR (j:Nat) r=>∃E H,r=[Z (.ak 'e'),Z (.ak (.int h)),Z (.ak (gD G)),Z (.xt (.x a) ((((b7 ps T).take j).foldl (bt ps h T) (Ks,[])).1.map gD)),Z (.xt (.t (Z b) ((((b7 ps T).take j).foldl (bt ps h T) (Ks,[])).1.map gD)) (f_ (((b7 ps T).take j).foldl (bt ps h T) (Ks,[])).1.length)),Z (.ak (.lst ((T.map (aB ps)).map Pl.toD))),Z (.ak (.aW (ldK (bp ps T)) (i4 (bp ps T)))),Z (.own (((b7 ps T).take j).foldl (bt ps h T) (Ks,[])).2),E,H]) ⟨am,am,W⟩ ?_ ?_
 ·rintro j d r hd ⟨E,H,rfl⟩;rw[bW,bu]at hd;obtain⟨w,hw,rfl⟩:=hd;obtain⟨e2,l1,l2,n2⟩:=Mj (h:=h) i hz hw;rw[e2]at l1 n2⊢;generalize((b7 ps T).take j).foldl (bt ps h T) (Ks,[])=s at l1 l2 n2⊢;have I:=cj hw;obtain⟨c0,l0,J⟩:=Mk I;have hhl:=Mm (w:=w) i;have CL:=MV (n:=k) (fu Y) hG hp (h:=h) (S:=(eP ps T w).map λc:Ch=>c.2.2) (Ml hG) (by rw[aE];lia);have L:atK (ldK (bp ps T)) (i4 (bp ps T)) (.inr w)=Z (.tup [vW c0,.lst (((eP ps T w).map (·.2.2)).map .int)]):=by rw[Zs4 ((iM _).mem_iff.mp I),ej];show Z (D.tup [((eP ps T w).head?.map vW).getD .aC,.lst ((eP ps T w).map _)])=_;rw[J];rfl
  refine⟨_,W,aV (df (x:=gD (cH ps h T w)) (cP (aP (aj W (aj W (aj (au (au W W (oh W L)) W (aX c_)) W))) CL)) (aN (aV (c4 (aU (au W W (Zs3 _ _))) ?_))))⟩;have M:∀(Q:aK->Prop)(K:List (List Int)),K=(bt ps h T s w).1->cH ps h T w∈K->Ev (eM 7 (vZ (aH (ai [aa 8,ae ay (ae ir (aa 6) (aa 8)) 'g',ae lS (aa 4) (aa 9)]))) [Z (.ak 'e'),Z (.ak (.int h)),Z (.ak (gD G)),Z (.xt (.x a) (K.map gD)),Z (.xt (.t (Z b) (K.map gD)) (f_ K.length)),Z (.ak (.lst ((T.map (aB ps)).map Pl.toD))),Z (.ak (.aW (ldK (bp ps T)) (i4 (bp ps T)))),Z (.own s.2),Z (.ak (.str w)),Z (.ak (gD (cH ps h T w)))]) (kL (λr=>∃E H,r=[Z (.ak 'e'),Z (.ak (.int h)),Z (.ak (gD G)),Z (.xt (.x a) ((bt ps h T s w).1.map gD)),Z (.xt (.t (Z b) ((bt ps h T s w).1.map gD)) (f_ (bt ps h T s w).1.length)),Z (.ak (.lst ((T.map (aB ps)).map Pl.toD))),Z (.ak (.aW (ldK (bp ps T)) (i4 (bp ps T)))),Z (.own (bt ps h T s w).2),E,H]) Q):=λQ K N hK=>by
   have e2:(bt ps h T s w).2=s.2++[.tup [.str w,vW c0,.int (K.idxOf (cH ps h T w):Nat)]]:=by rw[N];unfold bt;rw[J];rfl
   refine k8 W (x:=.tup [.str w,vW c0,.int (K.idxOf (cH ps h T w):Nat)]) (kh (bg (aj W (aj (au (au W W (oh W L)) W (aX cT)) (aj (au W W (Ztd hK)) W)))) (by simp[cG,cO,vW,pU])) l2 (dS ⟨Z (.ak (.str w)),Z (.ak (gD (cH ps h T w))),?_⟩);rw[e2,<-N];rfl
  by_cases v:cH ps h T w∈s.1
  ·exact dO (by simpa using v) (dN (aN (M _ s.1 (by unfold bt;rw[if_pos v]) v)))
  ·have N:s.1++[cH ps h T w]=(bt ps h T s w).1:=by unfold bt;rw[if_neg v]
   have B:s.1.length<aD:=by rw[<-N,bB]at l1;exact l1
   refine eO (by simpa using v) (aV (LP (d:=.int (s.1.length:Nat)) (kk:=(cH ps h T w).map .int) (kh (aP 'l' (by show Z (D.int ((s.1.map gD).length:Nat))=_;rw[aE])) W) W W (yN _) (λz=>v (M4.mp z)) (by rw[aE];exact B) (aN ⟨_,?_,aN (M _ _ N 'k')⟩)));show(if(s.1.map gD).length<aD then Z (aK.aF (List.set _ 3 (Z (SD.xt (.x a) (s.1.map gD++[gD (cH ps h T w)])))))else am)=_;rw[if_pos (by rw[aE];exact B),bX,bB,vC,Zpl];rfl
 rintro r ⟨E,H,rfl⟩;rw[aE,jS];have nl:=yC (ps:=ps) (h:=h) (T:=T) (b7 ps T) (Ks,[]) W;have O:jo h (aB ps t)=bZ h a1 b1:=by have q:=ht.2;unfold aA at q;rw[e1]at q⊢;exact if_pos q
 obtain⟨x,y,Am,nx,ny⟩:∃x y,bZ h a1 b1=.tup [x,y]/\cG x=be/\cG y=be:=by
  unfold bZ;split
  ·exact⟨_,_,W,W,W⟩
  ·exact⟨_,_,W,W,W⟩
 have U:=CA (n:=k) (fu Y) a1 b1 h g;rw[Am]at U O;refine ou ⟨_,?_,W⟩;show(vZ _ _).bind _=_;rw[kh (x:=.tup [x,y,.tup ((b7 ps T).foldl (bt ps h T) (Ks,[])).2]) (au (aP (aj (au W W (iA (x:=(Pl.say a1 b1 g).toD) ?_)) 'l') U) (bg (aj (aP 'l' W) W)) W) (by simp[cG,cO,nx,ny,nl])]
 ·subst f;show _=Z (mV ps h t _,_);unfold mV;rw[O];rfl
 ·subst f;rw[<-e1];exact cT
theorem M6{n:Nat}{gb:ar->Option fZ}{ds:List D}(h:Ev (gb (jH n ds)) λo=>(match o with|.inl (.ret d)=>Z (.inl d)|.inl (.aF _)=>Z (.inl .aC)|.inr c=>Z (.inr c)|_=>am)=Z d)(a:ds.length=np):kU np n gb ds=Z d:=by obtain⟨o,h,k⟩:=h;unfold kU;rw[if_pos a,h];exact k
theorem Zpn(b:3<=q)(a:Tab q .fh [aJ m ps,.int h]=Z (.tup xs)):Tab (q+1) .fq [aJ m ps,.int h]=Z (.str "NoPart"):=by
 show(kU 2 6 (r6 (Tab q)) _).map rN=_;rw[M6 (np:=2) (d:=.inr "NoPart") (n:=6) ?_ W];·rfl
 unfold r6;refine K7 (aU (au (aP (aj W 'l') a) W W)) ?_;exact⟨_,W,W⟩
theorem Zpo{r:ar}{a:ar->Option D}{Q:aK->Prop}(h:a r=Z (.tup kk))(b:h_ 8 (.tup kk)=be/\r.all mE=be)(k:Q (.aF (r.set i (Z (.xt (.t am [.tup kk]) [.int z]))))):Ev (x4 i a z r) Q:=⟨_,by unfold x4;rw[h,bx];exact if_pos b,k⟩
theorem Zpp(U:3<=q)(w:gK m ps)(I:GB ps)(he:2<=e)(hr:Tab q .fh [aJ m ps,.int h]=Z .aC)(hf:∀x y,Sy (aS ps) 'i' 0 x y->¬gE e ps h x y):∃i,sv ps h i/\Tab (q+1) .fq [aJ m ps,.int h]=Z (.tup [.tup (gF ps h i).2]):=by
 have f:=uV w;have M:ps.length<64:=iG w.2.2.2.1 'a';have N:=MV (n:=q) (fu U) f M (h:=h) (S:=[0]) (λs hs=>by rw[aZ.mp hs];have:=w.2.2.1;lia) (by exact kB ..);suffices hh:Ev (r6 (Tab q) (jH 6 [aJ m ps,.int h])) λo=>∃i,sv ps h i/\o=.inl (.ret (.tup (gF ps h i).2)) by obtain⟨o,e,i,a,rfl⟩:=hh;refine⟨i,a,?_⟩;show(kU 2 6 (r6 (Tab q)) _).map rN=_;rw[M6 (np:=2) (d:=.inl (.tup (gF ps h i).2)) (n:=6) ⟨_,e,W⟩ W];rfl
 unfold r6;refine K7 (aU (au (aP (aj W 'l') hr) W W)) (wx (dN (K6 (K8 ?_))));refine aV (df (cP (au W W (aX c_))) (aN (aV (f9 (ds:=[eF ps h [0]].map gD) (mO (aj (aP (aj W (aj W (aj (lY 'l') W))) N) W)) (aN (aV (Zpo (kk:=(eF ps h [0]).map .int) (kh (au W W (iA cT)) (jL (λ_=>rfl) _)) ⟨yN _,W⟩ (aN (aV (f9 (ds:=[]) W (aN (aV ?_))))))))))));show Ev (eE _ _ _ [_,_,_,_,_,_]) _;refine mP (λn r=>∃(Ks:List (List Int))(b:List D),r=[Z (.ak (aJ m ps)),Z (.ak (.int h)),Z (.ak 'e'),Z (.own (Ks.map gD)),Z (.xt (.t am (Ks.map gD)) (f_ Ks.length)),Z (.own b)]/\PJ ps m h e b.length Ks b/\n+b.length=16777216) ?_ ?_ 16777216 _ ⟨[eF ps h [0]],[],W,Ms f,W⟩;·rintro r ⟨Ks,b,rfl,⟨_,p,_,_⟩,hl⟩;have:=qe I p;have:=p.l;lia
 rintro n r ⟨Ks,b,rfl,J,hl⟩;have p:=J.p;have j:cB (ae jX (ax cA (ai [aa 5])) (ax cA (ai [aa 3]))) (fz [Z (.ak (aJ m ps)),Z (.ak (.int h)),Z (.ak 'e'),Z (.own (Ks.map gD)),Z (.xt (.t am (Ks.map gD)) (f_ Ks.length)),Z (.own b)])=Z (decide ((b.length:Int)<(Ks.map gD).length)):=aU (au (aP 'l' W) (aP 'l' W) W);rw[aE]at j;by_cases u:b.length=Ks.length;·exact .inl ⟨j.trans (by rw[u];simp),aN (jJ (aP 'l' W) ⟨_,(J.end u).1,by rw[<-(J.end u).2]⟩)⟩
 have u:b.length<Ks.length:=by have:=p.l;lia
 have L:Ks[b.length]?=Z Ks[b.length]:=cy u;generalize Ks[b.length]=G at L;have Y:=cj L;obtain⟨S,hS⟩:=p.a G Y;have c:G.Sublist (rg ps):=hS▸CK ps h S;have O:∀z∈G,0<=z/\z<ps.length:=λz hz=>Mr (c.subset hz);have Q:G.length<64:=by have:=c.length_le;unfold rg at this;rw[aE,oH]at this;exact iG this M
 have A:∀p∈G,∀q∈G,aA ps h q=be->Ah (aS ps) 'i' p/\(aA ps h p=be->gX e ps h p q=be):=λx B y C v=>by have:=hf x y (p.g.sd G Y x B y C);refine⟨zp λz=>this ⟨v,.inl z⟩,λE=>?_⟩;cases q:gX e ps h x y with|true=>rfl|false=>exact(this ⟨v,.inr ⟨E,q⟩⟩).elim
 have hU:∀x∈G.filter 'i',∀y∈G.filter 'i',¬iD h (aB ps x) (aB ps y):=λx B y C=>by obtain⟨B,E⟩:=dt.mp B;obtain⟨C,v⟩:=dt.mp C;have:=(A x B y C v).2 E;unfold gX at this;rw[E,v,oJ,oJ]at this;exact(yB he (qd w x) (qd w y) (oy E) (oy v)).mp this
 have H:=J.s f L hU A;have T:=qe I H.p;have hd:=Zpm (n:=q) U f M (h:=h) O Q (Mq I (Es.trans c)) (Ks:=Ks) (du T);refine .inr ⟨j.trans (by simpa using u),⟨_,?_,dS ⟨(ib ps h Ks G).1,b++[oz ps h Ks G],W,?_,?_⟩⟩⟩
 ·have ha:r0 [vH (aa 2),vH (aa 1),vZ (ae ay (aa 3) (ax cA (ai [aa 5])))] [Z (.ak (aJ m ps)),Z (.ak (.int h)),Z (.ak 'e'),Z (.own (Ks.map gD)),Z (.xt (.t am (Ks.map gD)) (f_ Ks.length)),Z (.own b)]=Z [.tup (ps.map Pl.toD),.int h,gD G]:=by have hv:vZ (ae ay (aa 3) (ax cA (ai [aa 5]))) [Z (.ak (aJ m ps)),Z (.ak (.int h)),Z (.ak 'e'),Z (.own (Ks.map gD)),Z (.xt (.t am (Ks.map gD)) (f_ Ks.length)),Z (.own b)]=Z (gD G):=kh (au W (aP 'l' W) (iA (wo (by rw[bW,L];rfl)))) (jL (λ_=>rfl) _);show(Z _).bind (λd=>((Z _).bind λd=>((vZ _ _).bind λd=>_).map _).map _)=_;rw[hv];rfl
  show((r0 _ _).bind λds=>(iR (Tab q .fr) ds [(am,Ks.map gD),(Z (Ks.map gD),f_ Ks.length)]).bind λx=>if _/\kinds x.2=kinds [(am,Ks.map gD),(Z (Ks.map gD),f_ Ks.length)]/\b.length<aD then _ else am)=_;rw[ha,bx,hd,bx,if_pos ⟨⟨by decide,by decide⟩,W,by show b.length<16777216;have:=qe I p;lia⟩];rfl
 ·rw[bB];exact H
 ·rw[bB,bh,jP];lia
theorem M7(h:Tab q .fq [a,b]=Z r)(d:r=.tup [x]\/(r=.str "NoPart"/\x=.aC)):Tab (q+1) .fQ [a,b]=Z x:=by
 have c:pq (λds=>(Tab q .fq ds).bind nZ) (ai [aa 0,aa 1]) [Z a,Z b,Z (.str "none"),am]=nZ r:=by unfold pq;rw[rz,rz,Ha];show(Tab q .fq [a,b]).bind nZ=_;rw[h];rfl
 show c8 2 4 (B0 (Tab q)) [a,b]=Z x;refine oq (n:=4) (g:=B0 (Tab q)) (eX W (eX (ρ':=[Z a,Z b,Z x,am]) ?_ W)) W;unfold uE A_;rcases d with rfl|⟨rfl,rfl⟩;·show((pq _ _ [Z a,Z b,Z (.str "none"),am]).bind _).bind _=_;rw[c];rfl
 ·show((pq _ _ [Z a,Z b,Z (.str "none"),am]).bind _).bind _=_;rw[c];rfl
theorem Zpq{n:Nat}(hn:11<=n)(ns:List Int)(J:1<=most)(L:most<=3):∃(m:Int)(ps:List Pl),Tab n .fF [.bJ ns,.int most]=Z (aJ m ps)/\gK m ps/\BK 12 42 ps/\MT m ps:=by
 obtain⟨k,rfl,q⟩:=cD (c:=10) hn;obtain⟨b,g⟩:=B4 (n:=k) (fu q) (ns:=ns) (i:=0) 'd';have h:=eN (n:=k) (fu q) (c:=b) (p:=9973) (m:=3) 'a' 'a';have y:=gA (c:=b) (p:=9973) (m:=3) 'a';have z:=gB (c:=b) (p:=9973) (m:=3) 'a';have j:=eN (n:=k) (fu q) (c:=b) (p:=9967) (m:=most) 'a' (by assumption);have b0:=gA (c:=b) (p:=9967) (m:=most) (by assumption);have b1:=gB (c:=b) (p:=9967) (m:=most) (by assumption);generalize mix b 9973 3=u at h y z;generalize mix b 9967 most=v at j b0 b1;have cells:∀(t a:Nat)(o:Option D),∃cs:List Int,bT (gN 0) (λ_=>Z be) (ax (Tab k .fu) (ai [aa 1,ae aQ 'c' (aa 0)])) [o,Z (.bJ ns)] ((nj a t).map λ(i:Nat)=>D.int (0+(i:Int)))=Z (cs.map .int)/\cs.length=t:=by intro t;induction t with|zero=>intro a o;exact⟨[],W,W⟩|succ t A=>intro a o;obtain⟨cs,r,w⟩:=A (a+1) (Z (.int (0+(a:Int))));obtain⟨c,B⟩:=B4 (n:=k) (fu q) (ns:=ns) (i:=1+(0+(a:Int))) 'd';refine⟨c::cs,?_,by simp[w]⟩;rw[vS,br,br];simp! only[bT,gN,qI,bx,if_true,qL,qG,B,r,zi]
 obtain⟨cs,r,w⟩:=cells (1+v).toNat 0 am;refine aM (Zpf (n:=k) (by omega) (m:=2+u) 'd' (cells:=cs) 'd') λps C E G=>?_;refine⟨2+u,ps,?_,E,G⟩;rw[tab];have f:cf [am,Z 0] (dJ (ai [ae aQ 'c' (ax (Tab k .fv) (ai [ax (Tab k .fu) (ai [aa 0,cC (.int 0)]),cC (.int 9967),aa 1]))])) (gN 0) (λ_=>Z be) (ax (Tab k .fu) (ai [aa 1,ae aQ 'c' (aa 0)])) [Z (.bJ ns),Z (.int most),Z (.int (2+u))]=Z (.lst (cs.map .int)):=by
  refine gz (ds:=cq 0 (1+v).toNat) ?_ (small (by simp[cq];lia)) ?_;·simp! only[qL,qG,bx,g,j];exact yb 'd' 'd'
  ·have e:cq 0 (1+v).toNat=(nj 0 (1+v).toNat).map λ(i:Nat)=>D.int (0+(i:Int)):=by unfold cq;rw[vT]
   rw[e];exact r
 have H:x_ (Tab k) [Z (.bJ ns),Z (.int most),am]=Z (.ret (aJ (2+u) ps)):=by
  unfold x_;rw[iy (ρ':=[Z (.bJ ns),Z (.int most),Z (.int (2+u))]) (by rw[pJ (d:=.int (2+u)) (by simp! only[qL,qG,bx,g,h])];rfl)];refine n9 ?_;unfold ax;have I:ai [aa 2,cf [am,Z 0] (dJ (ai [ae aQ 'c' (ax (Tab k .fv) (ai [ax (Tab k .fu) (ai [aa 0,cC (.int 0)]),cC (.int 9967),aa 1]))])) (gN 0) (λ_=>Z be) (ax (Tab k .fu) (ai [aa 1,ae aQ 'c' (aa 0)]))] [Z (.bJ ns),Z (.int most),Z (.int (2+u))]=Z [.int (2+u),.lst (cs.map .int)]:=by rw[rz,rz,f];rfl
  have x:=I;unfold ax at x;rw[x,bx,C]
 simp only[body,c8,kJ,bh,jP,if_true,br,vu];show(x_ (Tab k) [Z (.bJ ns),Z (.int most),am]).bind _=_;rw[H];rfl
def PN(n:Nat)(ds:List D):Prop:=∀d∈ds,pT n d=be
theorem PN.app{n:Nat}(h:PN n a)(q:pT n d=be):PN n (a++[d]):=λx b=>(bQ.mp b).elim (h x) λz=>aZ.mp z▸q
theorem M8{n:Nat}(d:pT n a=be)(e:pT n b=be)(f:pT n c=be):pT (n+1) (.tup [a,b,c])=be:=by show(pT n a&&(pT n b&&(pT n c&&be)))=be;rw[d,e,f];rfl
section
variable {m:Int}{ps:List Pl}{h:Int}
theorem M9(b:G2 m ps):∀(ws:List Str)(s:List (List Int)×List D),PN 61 s.2->PN 61 (ws.foldl (bt ps h T) s).2|[],_,q=>q|w::ws,s,q=>by refine M9 b ws _ (PN.app q (M8 (n:=60) W ?_ W));cases e:eP ps T w with|nil=>rfl|cons c l=>have a:c∈eP ps T w:=e▸ .head _;obtain⟨x,_,a⟩:=nk.mp (dt.mp a).1;have:=((oi (mS b) x).2 c a).2.2.1;exact pK c.2.1 (by omega)
theorem Zl7(p:Pl):jo h p=.aC\/∃s i,jo h p=.tup [.str s,.int i]:=by
 unfold jo;split
 ·split;·unfold bZ;split<;>exact .inr ⟨_,_,W⟩
  ·exact .inl W
 ·exact .inl W
theorem C6(c:G2 m ps):∀i,PN 63 (gF ps h i).2
 |0=>λd f=>nomatch f|i+1=>by
  unfold gF;split
  ·rename_i G _;refine PN.app (C6 c i) ?_;unfold oz;split;·rfl
   ·rename_i t _ _;have g:=g7.mpr (M9 c (h:=h) (T:=G.filter 'i') (b7 ps (G.filter 'i')) ((gF ps h i).1,[]) λd f=>nomatch f);unfold mV;rcases Zl7 (h:=h) (aB ps t)with e|⟨a,b,e⟩;·rw[e];rfl
    ·rw[e];exact M8 W W g
  ·exact C6 c i
theorem M_(a:gK m ps)(d:2<=e)(b:aA ps h x=be)(c:aA ps h y=be):gX e ps h x y=be↔¬iD h (aB ps x) (aB ps y):=by unfold gX;rw[b,c,oJ,oJ];exact yB d (qd a x) (qd a y) (oy b) (oy c)
theorem Na(d:gK m ps)(i:2<=e)(a:2<=g):gE e ps h x y->gE g ps h x y:=by rintro⟨b,f⟩;exact⟨b,f.imp_right<|by rintro⟨c,q⟩;exact⟨c,jR.mpr λz=>jR.mp q ((M_ d i c b).mpr ((M_ d a c b).mp z))⟩⟩
theorem Zs5(a:8<=q)(b:gK m ps)(u:BK 13 43 ps)(h:Int):∃d,Tab (q+4) .fP [aJ m ps,.int h]=Z d/\Tab (q+4) .fQ [aJ m ps,.int h]=Z d/\eB 64 d d=Z (.bl bi)/\(kN d .aC=bi↔∀x y,kj ps h x y->¬gE (q+1) ps h x y):=by
 have g:=uV b;obtain⟨r,v,p⟩:=LS (k:=q) (fu a) g h;obtain⟨d,A,w⟩:=Zo7 (n:=q+4) 'd' b (Mu u) h (e:=q) (fu a);have B:(∀x y,kj ps h x y->¬gE q ps h x y)↔∀x y,kj ps h x y->¬gE (q+1) ps h x y:=⟨λz x y c f=>z x y c (Na b 'd' (fu a) f),λz x y c f=>z x y c (Na b (fu a) 'd' f)⟩;rw[<-B];refine⟨d,A,?_⟩;rcases p with⟨rfl,p⟩|⟨⟨xs,rfl⟩,x,y,c,f⟩
 ·rcases w with⟨_,x,y,s,f⟩|⟨⟨i,C,rfl⟩,t⟩;·exact(ZsN p s f).elim
  ·obtain⟨j,E,e⟩:=Zpp (q:=q+2) 'd' b (Mu u) (h:=h) (e:=q) (fu a) v t;rw[Zrr E C]at e;exact⟨M7 e (.inl W),ZoG (g7.mpr (C6 g (h:=h) i)),⟨λ_=>p,λ_=>rfl⟩⟩
 ·rcases w with⟨rfl,_⟩|⟨_,t⟩;·exact⟨M7 (Zpn (q:=q+2) 'd' v) (.inr ⟨W,W⟩),W,⟨λz=>(nomatch z),λz=>(z x y c f).elim⟩⟩
  ·exact(t _ _ (Lp .z c) f).elim
end
theorem Nb{d:Type}{f:d->D}{e:D->ag->Option ag}{gb:ag->Option Out}{I:List d->ag->Prop}:∀(l dn:List d){b:ag},I dn b->(∀dn a b,I dn b->∃r,e (f a) b=Z r/\∃s,gb r=Z (.aF s)/\I (dn++[a]) s)->∃s,iN e gb (l.map f) b=Z (.aF s)/\I (dn++l) s|[],dn,b,i,_=>⟨b,W,by rw[eZ];exact i⟩|a::l,dn,b,i,h=>by refine a9 (h dn a b i) λr g c=>a9 c λs m j=>?_;clear c;rw[show dn++a::l=dn++[a]++l by simp];simpa only[br,iN,g,m,bx]using Nb l (dn++[a]) j h
theorem Nc{e:D->ag->Option ag}{gb:ag->Option Out}{I:ag->Prop}:∀(l:List D){b:ag},I b->(∀d∈l,∀b,I b->∃r,e d b=Z r/\∃s,gb r=Z (.aF s)/\I s)->∃s,iN e gb l b=Z (.aF s)/\I s|[],b,i,_=>⟨b,W,i⟩|a::l,b,i,h=>by refine a9 (h a bE b i) λr f c=>a9 c λs g j=>?_;clear c;simpa only[iN,f,g,bx]using Nc l j λx m=>h x (cx _ m)
section
variable {α:Type}{f:α->D}{l:List α}{fi:ag->Option (List D)}{gt:D->ag->Option ag}{gb u:ag->Option Out}{ρ:ag}{o:Out}{ds:List D}{P:ag->Prop}{d:D}{fv:ag->Option D}{n:Nat}
theorem Zps(I:ag->Prop)(h:fi ρ=Z ds)(i:I ρ)(k:∀s,I s->u s=Z o)(s:∀d∈ds,∀ρ,I ρ->∃r,gt d ρ=Z r/\∃s,gb r=Z (.aF s)/\I s):a8 (hY fi gt gb) u ρ=Z o:=by obtain⟨_,e,j⟩:=Nc ds i s;exact eX (by unfold hY;rw[h];exact e) (k _ j)
theorem Ztf(I:List α->ag->Prop)(h:fi ρ=Z (l.map f))(i:I [] ρ)(k:∀r,I l r->∃s,u r=Z (.aF s)/\P s)(s:∀dn a ρ,I dn ρ->∃r,gt (f a) ρ=Z r/\∃s,gb r=Z (.aF s)/\I (dn++[a]) s):∃s,a8 (hY fi gt gb) u ρ=Z (.aF s)/\P s:=by obtain⟨_,e,j⟩:=Nb l [] i s;exact by obtain⟨_,b,p⟩:=k _ j;exact⟨_,eX (by unfold hY;rw[h];exact e) b,p⟩
theorem yO(h:fv ρ=Z d)(k:∃s,u (ρ.set n (Z d))=Z (.aF s)/\P s):∃s,a8 (cc n fv) u ρ=Z (.aF s)/\P s:=by obtain⟨_,e,p⟩:=k;exact⟨_,eX (n_ h) e,p⟩
end
abbrev GP(q:Int×List Pl):Prop:=gK q.1 q.2/\BK 13 43 q.2
theorem Nd{k:Nat}(d:2<=k)(e:gK m ps)(f:BK 12 42 ps):∀(cs:List Int)(o:Option D),∃a:List (Int×List Pl),bT (gN 0) (λ_=>Z be) (ax (Tab k .fH) (ai [aa 1,aa 0])) [o,Z (aJ m ps)] (cs.map .int)=Z (a.map λq=>aJ q.1 q.2)/\a.length=cs.length/\∀q∈a,GP q|[],_=>⟨[],W,W,λq g=>nomatch g⟩|c::cs,o=>by refine d6 (ZlI d e f c) λb h i j _=>?_;refine aM (Nd d e f cs (Z (.int c))) λa p r t=>?_;exact⟨(m,b)::a,jK (ρ':=[_,_]) W W (aP (aj W 'l') h) p,by simp[r],zq.mpr ⟨⟨i,j⟩,t⟩⟩
theorem Nf{k:Nat}(d:8<=k):∀(cs:List Int)(o:Option D),∃a:List (Int×List Pl),bT (gN 0) (λ_=>Z be) (ax (Tab k .fI) (ai [aa 0])) [o] (cs.map .int)=Z (a.map λq=>aJ q.1 q.2)/\a.length=cs.length/\∀q∈a,GP q|[],_=>⟨[],W,W,λq e=>nomatch e⟩|c::cs,o=>by obtain⟨b,f,g⟩:=CN d c;refine aM (Nf d cs (Z (.int c))) λa h i j=>?_;exact⟨(3,b)::a,jK (ρ':=[_]) W W (aP 'l' f) h,by simp[i],zq.mpr ⟨g,j⟩⟩
theorem Ztg{n:Nat}(hn:17<=n)(ns:List Int)(J:ns.length<=63):Tab n .fR [.bJ ns]=Z (.bl be):=by
 obtain⟨k,rfl,v⟩:=cD (c:=16) hn;obtain⟨m,ps,M,hG,hB,hF⟩:=Zpq (n:=k) (fu v) ns (most:=3) 'a' (by exact zm _);obtain⟨c7,N⟩:=B4 (n:=k) (fu v) (ns:=ns) (i:=7) 'a';obtain⟨O,s8,g8⟩:=CN (n:=k) (fu v) c7;obtain⟨Q,s9,g9⟩:=CN (n:=k) (fu v) 204;have w:∀a b,(bU ns a b).length<=63:=λa b=>cv (AJ _ _ _) J;have A:=w (Z 4) (Z 7);have B:=w (Z 8) (Z 12);refine aM (Nd (k:=k) (fu v) hG hB (bU ns (Z 4) (Z 7)) am) λT e1 e2 e3=>?_;refine aM (Nf (k:=k) (fu v) (bU ns (Z 8) (Z 12)) am) λU f1 f2 f3=>?_;have j:∀q∈(m,ps)::(T++U++[((3:Int),O),(3,Q)]),GP q:=λq C=>by
  simp only[a7,bQ,kC,or_false]at C;rcases C with rfl|(z|z)|rfl|rfl;·exact⟨hG,hB.mono (by exact i7 _) (by exact i7 _)⟩
  ·exact e3 q z
  ·exact f3 q z
  ·exact g8
  ·exact g9
 generalize hL:T++U++[((3:Int),O),(3,Q)]=L at j;have hLl:L.length<=200:=by rw[<-hL];simp;lia
 rw[tab];refine oq (n:=9) (eX (n_ (aP (aj W 'l') M)) (eX (n_ (gz (ds:=(bU ns (Z 4) (Z 7)).map .int) (by rfl) (small (by rw[aE];exact fo A)) e1)) (eX (n_ (x:=.lst (L.map λq=>aJ q.1 q.2)) ?_) (Zps (λE=>∃Y o4 o5 t u p,E=[Z (.bJ ns),Z (aJ m ps),Z (.lst (L.map λq=>aJ q.1 q.2)),Y,o4,o5,t,u,p]) (ZsP (xs:=((m,ps)::L).map λq=>aJ q.1 q.2) (au (lY 'l') W (uY (by simp;lia)))) ⟨_,_,_,_,_,_,W⟩ (by rintro s ⟨Y,o4,o5,t,u,p,e⟩;rw[e];rfl) ?_)))) W;·rw[show L.map (λq=>aJ q.1 q.2)=T.map (λq=>aJ q.1 q.2)++U.map (λq=>aJ q.1 q.2)++[aJ 3 O,aJ 3 Q] by rw[<-hL,bX,bX];rfl];exact au (au W (gz (ds:=(bU ns (Z 8) (Z 12)).map .int) (by rfl) (small (by rw[aE];exact fo B)) f1) (uY (by simp;lia))) (lY (aj (aP (aj (aP (aj W 'l') N) W) s8) (aj (aP 'l' s9) W))) (uY (by simp;lia))
 rintro d hd _ ⟨Y,o4,o5,t,u,p,rfl⟩;obtain⟨i,hi⟩:=zh hd;obtain⟨y,hy,rfl⟩:=L3 hi;rw[bW,bu]at hy;obtain⟨q,C,rfl⟩:=hy;obtain⟨G,bq⟩:=j q (cj C);obtain⟨k',rfl,j7⟩:∃k',k=k'+4/\12<=k':=⟨k-4,by lia,by lia⟩;obtain⟨bb,kO,ur⟩:=Zrc (k:=k'+1) 'd' (uV G)
 have g:=λh:Int=>Zs5 (q:=k') (fu j7) G bq h;refine⟨_,W,yO W (Ztf (I:=λ(dn:List Nat) E=>∃(b:Bool)(t u p:Option D),E=[Z (.bJ ns),Z (aJ m ps),Z (.lst (L.map λq=>aJ q.1 q.2)),Z (.int (i:Int)),Z (aJ q.1 q.2),Z (.bl b),t,u,p]/\(b=be↔∀h∈dn,∀x y,kj q.2 (h:Int) x y->¬gE (k'+1) q.2 (h:Int) x y)) (l:=eG q.1.toNat) (f:=λ(i:Nat)=>D.int (i:Int)) (by rw[<-pR];exact si (au W W (aX cT)) (by have:=G.1;lia) (by have:=G.2.1;lia)) ⟨be,_,_,_,W,by simp⟩ ?_ ?_)⟩
 ·rintro r ⟨b,t,u,p,rfl,H⟩;have ebb:bb=b:=jQ.mpr (ur.trans (Iff.trans ?_ H.symm))
  ·refine yO (aP 'l' kO) ⟨_,k7 ?_ W,_,_,_,_,_,_,W⟩;subst ebb;refine yj (mM (b:=be) (aU W)) (yj (aU (au W W (by cases bb<;>rfl))) ?_);by_cases z:i=0
   ·subst z;have hq':(m,ps)=q:=ao C;subst hq';have:bb=be:=H.mpr λh g x y c=>hF (h:Int) (Int.natCast_nonneg h) (by have:=lu.mp g;lia) (k'+1) 'd' x y (Lp .z c);subst this;exact yi (aU (au W W eq_int)) (mM (b:=be) (aU W))
   ·exact Cb (aU (au W W (eq_int.trans (by rw[show((i:Int)==0)=bi from beq_eq_false_iff_ne.mpr 'd']))))
  ·exact⟨λz h g=>z h (by have:=lu.mp g;lia),λz h g=>z h (lu.mpr 'd')⟩
 ·rintro dn h E ⟨b,t,u,p,rfl,H⟩;obtain⟨d,d1,d2,d3,d4⟩:=g (h:Int);refine⟨_,W,yO (aP (aj W 'l') d1) (yO (d:=.bl (b&&!kN d .aC)) ?_ ⟨_,k7 (aU (au (aP (aj W 'l') d2) W d3)) W,_,_,_,_,W,?_⟩)⟩
  ·cases b with|true=>exact(show ae jY (aa 7) (cC .aC) [Z (.bJ ns),Z (aJ m ps),Z (.lst (L.map λq=>aJ q.1 q.2)),Z (.int (i:Int)),Z (aJ q.1 q.2),Z (.bl be),Z (.int h),Z d,p]=_ from au W W (KI ..))|false=>rfl
  ·rw[cJ,H,sX,d4];exact⟨by rintro⟨z1,z2⟩ h' g;exact(bQ.mp g).elim (z1 h') λe=>aZ.mp e▸z2,λz=>⟨λh' g=>z h' (d_ _ g),z h (dV _ (aZ.mpr W))⟩⟩
end PM
namespace mY
open PySem PySem.Spec PyProof.Rows L2 DL PT
noncomputable def top(i:Nat):Stmt:=PySem.Challenge.pw_parleyturn_k05_parts.main.body.getD i (.Pass ⟨0,0,0,0⟩)
structure GF(K:av)(mg:Str->Option Value):Prop where
 Zth:mg "all"=am
 Zti:mg "bool"=am
 Ztj:mg "enumerate"=am
 Ztk:mg "int"=am
 yP:mg "isinstance"=am
 Ztl:mg "len"=am
 Ztm:mg "list"=am
 Ztn:mg "range"=am
 Zto:mg "reversed"=am
 Ztp:mg "set"=am
 Ng:mg "sorted"=am
 Nh:mg "tuple"=am
 mJ:wg K mg "END" mJ
 Ztq:Be K mg "NoPart"
 Ni:xE K mg "NoPart"
 Ztr:xE K mg "TalkError"
 Zts:xE K mg "NoMove"
 Ztt:Bf K mg "NoPart" "NoMove" bi
 Ztu:Bf K mg "NoPart" "TalkError" be
 Ztv:IX K mg "NoPart" "ValueError" be
 Ztw:mg "ValueError"=am
noncomputable def ix:Fn->Nat|.fa=>5|.fb=>8|.fc=>10|.fd=>11|.fe=>12|.ff=>13|.fg=>14|.fh=>15|.fi=>16|.fj=>17|.fk=>18|.fm=>19|.fo=>20|.fp=>21|.fq=>22|.fr=>23|.ft=>24|.fu=>26|.fv=>27|.fw=>28|.fx=>29|.fy=>30|.fA=>31|.fB=>32|.fC=>33|.fD=>34|.fE=>35|.fF=>36|.fG=>37|.fH=>38|.fI=>39|.fJ=>40|.fK=>41|.fL=>42|.fM=>43|.fN=>44|.fO=>45|.fP=>46|.fQ=>47|.fR=>48
def jO(q:Fn):List Str:=match q with|.fg=>["places","hand","sources","number","place","choice","ahead","waiting"]|.fD=>["_law_cell_here","_law_start","_law_many","_law_goals","_law_one","_law_others","_law_some","_law_rows","_law_choices","_law_j","_law_said_here","_law_afters","_law_k"]|.fL=>["_law_grammar_here","_law_hand","_law_found","_law_size_here","_law_place","_law_thing"]|_=>(de (top (ix q))).names.filterMap λx=>match x.2 with|.local|.cell=>Z x.1|_=>am
def kl(q:Fn):List Str:=(oY (top (ix q))).args.map (·.arg)
theorem sc:∀q,nG (jO q) (kl q) (de (top (ix q))):=by intro q;cases q<;>exact⟨W,W,W,by decide+kernel,W,by decide+kernel,by decide+kernel⟩
abbrev sD(K:av)(q:Fn)(f:Addr)(fd:dF):Prop:=kH K (Fn.nm q) (Fn.nm q) (top (ix q)) f fd
def qi(P:a6)(w:World)(q:Fn):iJ:=match q with|.fq=>gw P w|_=>eu
def qj(K:av)(a:Str->Option Value)(k:Nat)(q:Fn):Sp:=match q with|.fq=>rJ K a λds=>(Tab k q ds).bind nZ|.fO|.fr=>pF K (iR (Tab k q))|_=>lJ K (Tab k q)
structure Al(P:a6)(w:World)(K:av)(mg:Str->Option Value)(base:Heap)(k:Nat):Prop where c:∀q,∃(f:Addr)(fd:dF)(ps:List Str),mg (Fn.nm q)=Z (.ref f)/\m3 K (.ref f)=be/\jC K fd ps []/\dm P w K mg base (qi P w q) k f fd ps (qj K mg k q)
structure FF(K:av)(mg:Str->Option Value)(x:Str)(st:Stmt)(ps:List Str):Prop where ex:∃f fd,kH K x x st f fd/\mg x=Z (.ref f)/\jC K fd ps []
abbrev FQ(K:av)(mg:Str->Option Value)(q:Fn):Prop:=FF K mg (Fn.nm q) (top (ix q)) (kl q)
section
variable {P:a6}{w:World}{K:av}{mg:Str->Option Value}{base:Heap}{k:Nat}
theorem Zs6(A:FQ K mg q):∃(f:Addr)(a:dF)(ps:List Str),mg (Fn.nm q)=Z (.ref f)/\m3 K (.ref f)=be/\jC K a ps []/\dm P w K mg base (qi P w q) 0 f a ps (qj K mg 0 q):=by obtain⟨f,a,F,m,b⟩:=A.ex;exact⟨f,a,_,m,F.kp,b,by cases q<;>first|exact TH|exact Zi|exact XQ⟩
theorem cal(A:FQ K mg q)(ok:∀f a,sD K q f a->dm P w K mg base (qi P w q) (k+1) f a (kl q) (qj K mg (k+1) q)):∃(f:Addr)(a:dF)(ps:List Str),mg (Fn.nm q)=Z (.ref f)/\m3 K (.ref f)=be/\jC K a ps []/\dm P w K mg base (qi P w q) (k+1) f a ps (qj K mg (k+1) q):=by obtain⟨f,a,F,m,b⟩:=A.ex;exact⟨f,a,_,m,F.kp,b,ok f a F⟩
theorem fB{g:ag->Option Out}(F:sD K q f c)(d:Tab (k+1) q=c8 np ns g)(e:(kl q).length=np)(hn:(jO q).length=ns)(body:∀{f b A a s H E},bI k (A.deeper (g6 (Fn.nm q) (de (top (ix q))) s.heap.objs.size f b))->(jO q).Nodup->JB (dA eu P w K mg base (jO q) (Fn.nm q) (de (top (ix q))) f b A a s H E).lB (iL (top (ix q))) g):dm P w K mg base eu (k+1) f c (kl q) (lJ K (Tab (k+1) q)):=d▸TF F (sc q) e hn λb A a s H E i=>(body i (sc q).nd).h
theorem fO{g:ar->Option aK}(F:sD K q f c)(d:Tab (k+1) q=fY np ns g)(e:(kl q).length=np)(hn:(jO q).length=ns)(body:∀{f b A a s H E},bI k (A.deeper (g6 (Fn.nm q) (de (top (ix q))) s.heap.objs.size f b))->(jO q).Nodup->KB (dA eu P w K mg base (jO q) (Fn.nm q) (de (top (ix q))) f b A a s H E).lB (iL (top (ix q))) g):dm P w K mg base eu (k+1) f c (kl q) (lJ K (Tab (k+1) q)):=d▸Vg F (sc q) e hn λb A a s H E h=>body h (sc q).nd
theorem fM(F:sD K q f e)(h:Tab (k+1) q=encM (runM ns g np c))(i:(kl q).length=np+c)(hn:(jO q).length=ns)(d:np+c<=ns)(body:∀{f b A a s H E},bI k (A.deeper (g6 (Fn.nm q) (de (top (ix q))) s.heap.objs.size f b))->(jO q).Nodup->lT (dA eu P w K mg base (jO q) (Fn.nm q) (de (top (ix q))) f b A a s H E).lB (iL (top (ix q))) g):dm P w K mg base eu (k+1) f e (kl q) (pF K (iR (Tab (k+1) q))):=by rw[h,Bx];exact YZ F (sc q) i hn d λb A a s H E j=>body j (sc q).nd
theorem fX{g:ar->Option fZ}(F:sD K q f c)(d:Tab (k+1) q=λds=>(kU np ns g ds).map rN)(e:(kl q).length=np)(hn:(jO q).length=ns)(body:∀{f b A a s H E},bI k (A.deeper (g6 (Fn.nm q) (de (top (ix q))) s.heap.objs.size f b))->(jO q).Nodup->nX (dA (gw P w) P w K mg base (jO q) (Fn.nm q) (de (top (ix q))) f b A a s H E) (xq mg E) (iL (top (ix q))) g):dm P w K mg base (gw P w) (k+1) f c (kl q) (rJ K mg λds=>(Tab (k+1) q ds).bind nZ):=by rw[d,show(λds=>((kU np ns g ds).map rN).bind nZ)=kU np ns g from funext λds=>XP _];exact XJ F (sc q) e hn λb A a s H E h=>body h (sc q).nd
theorem Zl8(G:GF K mg):∃a,mg "TalkError"=Z (.ref a)/\∀c∈(["NoPart"]:List Str),∀C,mg c=Z (.ref C)->jj K C/\Oh K (.ref C) (.ref a)=Z be:=by obtain⟨a,b⟩:=G.Ztr;obtain⟨p,d⟩:=G.Ni;obtain⟨q,r,e,i,j⟩:=G.Ztu;refine⟨a,b.bound,λc f C m=>?_⟩;rw[aZ]at f;subst f;have g:=d.bound;have h:=b.bound;rw[m]at g e;rw[i]at h;cases g;cases e;cases h;exact⟨d.exc,Xr b.exc.Bb b.ty j⟩
theorem Zl9(G:GF K mg)(f:mg "NoPart"=Z (.ref C)){D:Addr}(h:ClsAt K mg y D)(u:Bf K mg "NoPart" y b):vE K (.ref C) (.ref D)=Z b:=by obtain⟨j,a⟩:=G.Ni;obtain⟨m,p,c,g,i⟩:=u;have d:=a.bound;have e:=h.bound;rw[f]at d c;rw[g]at e;cases d;cases c;cases e;exact Xt a.self h.exc.Bb h.ty i
theorem Zma(G:GF K mg)(b:mg "NoPart"=Z (.ref C)):vE K (.ref C) (.type "ValueError")=Z be:=by obtain⟨d,a,c⟩:=G.Ztv;rw[b]at a;cases a;exact Xu (by decide+kernel) c
theorem jq{X:Cx}{fs:List (ag->Option D)}(h:Al X.prog X.w X.K X.mg X.base k)(a:bI k X.A)(b:JA X (e::es) fs (ai fs))(d:Fn.nm q=x)(f:Gl X x)(g:'f'=bi)(i:qj X.K X.mg k q=lJ X.K (Tab k q))(j:qi X.prog X.w q=eu):JE X (.Call (.Name x p) (e::es) [] pos) (ax (Tab k q) (ai fs)):=Ud ⟨by have:=h.c q;rw[i,j,d]at this;exact this⟩ a b f g
theorem jm{X:Cx}{fs:List (ar->Option D)}(h:Al X.prog X.w X.K X.mg X.base k)(a:bI k X.A)(b:mG X (e::es) fs is)(d:Fn.nm q=x)(f:Gl X x)(g:'f'=bi)(i:qj X.K X.mg k q=pF X.K (iR (Tab k q)))(j:qi X.prog X.w q=eu):KM X (.Call (.Name x p) (e::es) [] pos) is (iR (Tab k q)) fs:=Y8 ⟨by have:=h.c q;rw[i,j,d]at this;exact this⟩ a b f g
set_option hygiene false in
local macro_rules
 | `(tactic| exists $l) => `(tactic| (first | ((with_reducible show JE _ _ (cf _ _ _ _ _)); refine Uj (N' := $l) ?_ (fun _ _ _ _ => have nd : qN ($l : List Str) := 'a'; ⟨?_, ?_, ?_⟩) rfl 'a' rfl 'a' ?_ ?_ ?_ ?_) | ((with_reducible show JS _ _ (cc _ (cf _ _ _ _ _))); refine Wm (N' := $l) _ nd ?_ (fun _ _ _ _ => have nd : qN ($l : List Str) := 'a'; ⟨?_, ?_, ?_⟩) ?_ ?_ rfl 'a' rfl 'a' ?_ ?_ ?_ ?_ rfl ?_) | ((with_reducible show KS _ _ (cS _ (lZ (eC _ _ _ _ _)))); refine WC (N' := $l) _ nd ?_ (fun _ _ _ _ => have nd : qN ($l : List Str) := 'a'; ⟨?_, ?_, ?_⟩) ?_ ?_ rfl 'a' rfl 'a' ?_ ?_ ?_ ?_ rfl ?_) | ((with_reducible show KS _ _ (rY _ _)); refine YD (N' := $l) _ nd ?_ (fun _ _ _ _ => have nd : qN ($l : List Str) := 'a'; ⟨?_, ?_⟩) ?_ ?_ rfl 'a' rfl 'a' ?_ ?_ ?_ ?_ rfl ?_) | ((with_reducible show JL _ _ (eC _ _ _ _ _)); refine V9 (N' := $l) ?_ (fun _ _ _ _ => have nd : qN ($l : List Str) := 'a'; ⟨?_, ?_, ?_⟩) rfl 'a' rfl 'a' ?_ ?_ ?_ ?_)); (any_goals ((with_reducible show gq _ _ _ _); (repeat' first | exact kz | refine ⟨⟨rfl, ?_, ?_⟩, ?_⟩ | exact .inl rfl | exact .inr rfl); done)); (any_goals ((with_reducible show JG _ _ _); (repeat' first | ((with_reducible show qN _); exact nd) | ((with_reducible first | show Loc _ _ | show _ \/ _); first | exact .inl rfl | exact .inr rfl | exact .inr (.inl rfl)) | ((with_reducible show _ = _); exact rfl) | (with_reducible first | apply Hd | apply Hg | apply Hf | apply He)); done)))
theorem Nj(G:GF K mg)(h:Al P w K mg base k)(F:sD K q f g):dm P w K mg base (qi P w q) (k+1) f g (kl q) (qj K mg (k+1) q):=by
 cases q<;>first|refine fB F W W W λb nd=>?_|refine fO F W W W λb nd=>?_|refine fM F W W W 'a' λb nd=>?_|refine fX F W W W λb nd=>?_
 all_goals (repeat' first|((with_reducible show KM _ _ _ _ _);refine jm h b ?_ W W W W W)|((with_reducible show JS _ _ (uE _ _ _ _));refine XY 3 ["NoPart"] nd (hf:=λ_=>Kc) (Zl8 G) (λpn E ad p=>XO (XX 2 nd (XM p ⟨h.c .fq⟩ b ?_ W W (bP W) (plain_any W)) W (.inl W) W (.inl W))) (λc i C d a pn e=>by rw[aZ]at i;subst i;obtain⟨CM,m⟩:=G.Zts;have k1:=Zl9 G d m G.Ztt;have kV:=Zma G d;exact ID (Xc (W_ (IC (Bc (IF e W (sS W) d Xs W W G.yP)) (IC (Xa (Bc (IF e W (sS W) m.bound k1 W W G.yP))) (W9 (Bc (Xf e W (sS W) G.Ztw Ym kV W W G.yP)))))) (ID (Xd (j:=2) nd W (sS W) (W8 Hb.h))) Xb)))|((with_reducible show rM _ _ _ _);refine XW WR G.Ztq ?_ 'a' W W W (bP W) (plain_any W))|((with_reducible show∀_,_∈_->_/\_);decide)|((with_reducible first|show _=_|show Gl _ _);first|exact W|decide|exact G.Ztj|exact G.Ztm|exact G.Ztn|exact G.Ztp|exact G.Ng)|((with_reducible first|show Loc _ _|show dv _ _|show _\/_);first|exact .inl W|exact .inr W|exact .inr (.inl W)|exact .inr (.inr W))|((with_reducible show bI _ _);exact b)|((with_reducible show qN _);exact nd)|((with_reducible show _<_);exact q9 b)|((with_reducible show _<=_);decide)|((with_reducible show PassesOwn _ _ _ _);first|exact Zva|exact PassesOwn.leaving)|((with_reducible first|show JE _ _ (cf _ _ _ _ _)|show JS _ _ (cc _ (cf _ _ _ _ _))|show KS _ _ (cS _ (lZ (eC _ _ _ _ _)))|show KS _ _ (rY _ _)|show JL _ _ (eC _ _ _ _ _));first|exists ["_law_cell_here","_law_grammar_here"]|exists ["_law_cell_here"]|exists ["word","kinds","others"]|exists ["place"]|exists ["number","hand","places"]|exists ["word","kind","number","pair"]|exists ["word","kind","number","nexts"]|exists ["choice"]|exists ["number","places","hand"]|exists ["hand","grammar"]|exists ["_law_k","_law_letters","_law_cell_here"]|exists ["_law_j","_law_cell_here"]|exists ["_law_k","_law_many","_law_one","_law_cell_here"]|exists ["_law_k","_law_start","_law_j","_law_many"]|exists ["_law_k","_law_script"]|exists ["_law_j","_law_starts","_law_cell_here"]|exists ["_law_choice"]|exists ["_law_place","_law_grammar_here","_law_hand"]|exists ["_law_choice","_law_found"]|exists ["_law_pair"]|exists ["_law_choice","_law_word_here","_law_kind_here"]|exists ["_law_place","_law_near_here"]|exists ["_law_choice","_law_word_here"])|((with_reducible show True);exact trivial)|((with_reducible show _≠_);decide)|((with_reducible show jb _ _);repeat' first|exact kz|refine⟨W,?_⟩)|((with_reducible show jc _ _);repeat' first|exact kz|refine⟨.inl W,?_⟩|refine⟨.inr (.inl W),?_⟩|refine⟨.inr (.inr ⟨_,W⟩),?_⟩)|(with_reducible first|(show JE ..;first|apply TJ|apply TK|apply T_|apply TR|apply T8|apply TM|apply T9|apply Hb|apply Uc|apply TL|apply TU|apply TQ|apply Wn|apply TX|apply X3|apply Yy|apply TY|apply TZ|apply Wl|apply Ug|apply V8|apply Zd)|(show JA ..;first|apply T7|apply T6)|(show dW ..;first|apply Us|apply Uz|apply Uv|apply Ut|apply Ux|apply Uy|apply Uu|apply UC|apply UA|apply Wq|apply Uw|apply Yl|apply Yk|apply Ws|apply YQ|apply Yx|apply UB|apply Ys|apply Zg|apply UD|apply Zf|apply Za)|(show KS ..;first|apply UX|apply UY|apply UW|apply UU|apply UZ|apply Ve|apply WJ|apply Yh|apply Yf|apply Yj|apply Ya|apply YB|apply Yb|apply U0|apply Y9|apply YY|apply U1|apply Vf|apply YE|apply YH|apply YA|apply WI|apply ZE|apply ZG|apply ZH)|(show JS ..;first|apply Hh|apply Up|apply Uo|apply Uq)|(show JT ..;first|apply TV|apply T3|apply T4|apply Wj|apply T5)|(show eL ..;first|apply UN|apply X9|apply UO)|(show JG ..;first|apply Hd|apply Hg)|(show KG ..;first|apply U8|apply Va)|(show JC ..;first|apply UE|apply UH|apply WD|apply WB|apply k_all|apply Zm|apply UG|apply Ze)|(show uk ..;first|apply U_|apply U9)|(show JO ..;first|apply Ub|apply Ua)|(show JI ..;first|apply Wg|apply Wh|apply Yt|apply Wf)|(show JF ..;first|apply Uh|apply Ui)|apply Uk|apply UR|(show KF ..;first|apply UP|apply UQ)|(show JW ..;first|apply w_and|apply T1|apply w_or|apply T2)|(show JL ..;first|apply V_|apply Wb|apply Wa)|(show uh ..;first|apply Hf|apply He)|(show JK ..;first|apply Wi|apply We|apply Wd|apply Wc)|(show mG ..;first|apply Y2|apply Y1|apply Y0)|apply Yg|apply X_)|((with_reducible show JE _ _ (ax _ _));first|refine jq h b ?_ W W W W W|refine AR ?_ G.Ztl PySem.boot_len ?_ ?_ ?_ ?_|refine Hc ?_ G.Nh DL.GQ ?_ ?_ ?_ ?_|refine AR ?_ G.Ng DL.boot_sorted ?_ ?_ ?_ ?_|refine Hc ?_ G.Ztk DL.SW ?_ ?_ ?_ ?_|refine AR ?_ G.Zth DL.boot_all ?_ ?_ ?_ ?_)|refine Ue .bool G.yP G.Zti DL.SX ?_ ?_ ?_ ?_ ?_ ?_|refine YP G.Nh G.Zto ?_ ?_ ?_ ?_ ?_|refine TN G.mJ ?_ ?_|apply XF|apply XC|apply XG|apply XH|apply XI|apply Zp|apply YU|apply YX|apply YW|apply YT|apply Yi|apply WE|apply Ul|apply US|apply Um|apply UT|apply Hh|exactλ_=>rfl)
theorem st(G:GF K mg)(A:∀q,FQ K mg q)(h:Al P w K mg base k):Al P w K mg base (k+1):=⟨λq=>cal (A q) λ_ _ F=>Nj G h F⟩
theorem al(G:GF K mg)(A:∀q,FQ K mg q):∀k,Al P w K mg base k|0=>⟨λq=>Zs6 (A q)⟩|k+1=>st G A (al G A k)
noncomputable def Nk(K:av):Sp:=λvs H Q _=>∃(a:Addr)(ns:List Int),vs=[.ref a]/\b9 K H a (ns.map V.int)/\ns.length<=63/\∀H',Q (.bl be) H'
theorem ZrJ(d:∀ns:List Int,ns.length<=63->Tab (k+1) .fR [.bJ ns]=Z (.bl be))(G:GF K mg)(A:∀q,FQ K mg q):∃f c,mg "law"=Z (.ref f)/\(∀(s:aq)(u:Value),yW s c ⟨[u],[]⟩ [("_law_script",u)])/\∀(P:a6)(w:World)(base:Heap),dm P w K mg base eu (k+1) f c ["_law_script"] (Nk K):=by
 obtain⟨f,c,F,m,b⟩:=(A .fR).ex;refine⟨f,c,m,λs u=>?_,λP w base=>?_⟩;·obtain⟨y,z,kV,doc,B,C,g,I,i,rfl,lk,j⟩:=F.ex;exact .of_eq W
 ·have h:=al (P:=P) (w:=w) (base:=base) G A k;refine(Nj G h F).imp λvs H Q E p=>?_;obtain⟨a,ns,e,t,x,q⟩:=p;subst e;show lJ K (Tab (k+1) .fR) _ H Q E;exact⟨[.bJ ns],.bl be,.cons (.bJ t) .nil,d ns x,λv H' _ r=>by cases r;exact q H'⟩
end
noncomputable def Bd:List Str->(List Value->Prop)->Prop|[],P=>P []|_::l,P=>∀a,Bd l λb=>P (a::b)
theorem bd{ps:List Str}:∀{P:List Value->Prop},Bd ps P->∀b:List Value,b.length=ps.length->P b:=by induction ps with
 |nil=>exactλh b e=>by cases b with
  |nil=>exact h|cons=>cases e
 |cons _ _ c=>exactλh b e=>by cases b with|nil=>cases e|cons a t=>exact c (h a) t (Eh e)
theorem Ztx{K:av}{h:Heap}{q:Str->Option Value}(X:K.In h)(G:h.Ns dU q){st:Stmt}{ps:List Str}{kV:Value}(a:tf K dU x=Z (Z (.ref f)))(l:K.lookup f=Z ⟨w,u,.func (qo x x (oY st) (iL st) (de st) .none kV y j i r m),v⟩)(c:Dh K r x=be)(k:m3 K (.ref f)=be) (b:∀(kV doc j:Value)(i:Option Addr)(p m:Value),Bd ps λt=>bindArgs (qo x x (oY st) (iL st) (de st) .none kV doc j i p m) ⟨t,[]⟩=pure (ps.zip t)):FF K q x st ps:=⟨_,_,FD (st:=st) l c k,Ee X G a,(FD (st:=st) l c k).binds λa c d e f g=>bd (b a c d e f g)⟩
theorem Zty{K:av}{h:Heap}{b:Str->Option Value}(X:K.In h)(G:h.Ns dU b)(y:K.lookup a=Z ⟨.type "tuple",c,.seq #[.str "end" t] d,ys⟩)(z:tf K dU "END"=Z (Z (.ref a))):wg K b "END" mJ:=⟨.ref a,_,Ee X G z,W,λH=>.tup (xs:=[.str "end"]) (.inr ⟨_,_,_,y,W,W,w6 W,(.cons ⟨_,W⟩ .nil)⟩) (.cons (.str _ 'a') .nil)⟩
theorem walk{k:Nat}(j:∀ns:List Int,ns.length<=63->Tab (k+1) .fR [.bJ ns]=Z (.bl be))(p:bI (k+1) qr){l:Zt2}{r:(Str->Option Value)->Heap->Prop}{i:World->Heap->Prop}{d:DefRec}{K:Params->av}(hn:l.most=Z 63)(g:d.params.defaults=[])(t:d.name="law") (u:∀(w:World)(h:Heap),i w h->(K w.params).In h) (F:∀(w:World)(c:Str->Option Value)(h:Heap),(K w.params).In h->h.Ns dU c->GF (K w.params) c/\∀q,FQ (K w.params) c q):Zt3 q b r i l.row.toRowW d [] (λf vs=>NL f vs):=L2.Q8 (n:=63) (k:=k+1) (x:="_law_script") (CX:=λ_=>eu) (sp:=λw=>Nk (K w.params)) hn 'a' g p u (λw c I h KX G e=>by obtain⟨v,y⟩:=F w c h KX G;obtain⟨f,A,m,B,C⟩:=ZrJ j v y;rw[t,m]at e;cases e;exact⟨A,B,λbase _ _=>C l.prog w base⟩) (λ_ _ a ns E _ H=>⟨a,ns,W,H,E,λ_=>rfl⟩) λ_ _ _ _ _ z=>z
end mY
namespace mY
open PySem L2 DL PT
theorem main:∀ns:List Int,ns.length<=63->Tab (99+1) .fR [.bJ ns]=Z (.bl be):=PM.Ztg 'a'
end mY
namespace PySem.W.Fast
def tw10100190132926003875:=0
def tw10173145485936714201:=0
def tw10431531108217089866:=0
def tw10466539840156533815:=0
def tw10575186755478082020:=0
def tw10688275092471861729:=0
def tw10745951005733660518:=0
def tw10764504190776003933:=0
def tw10818740762264758940:=0
def tw10888736068060913773:=0
def tw10961682185910819345:=0
def tw11016571718761139472:=0
def tw11188147592893449728:=0
def tw1121464934105538553:=0
def tw11659695292649941356:=0
def tw11733900395881748108:=0
def tw11899153940220132783:=0
def tw11977951283272457137:=0
def tw12054672692854397132:=0
def tw12100393367719597229:=0
def tw12269991704280942514:=0
def tw12370325891514832814:=0
def tw12385288331358232676:=0
def tw12405805910912359149:=0
def tw12442665421234513938:=0
def tw12471171279717910370:=0
def tw12491749043247851984:=0
def tw12547405655736653431:=0
def tw12548462084238931063:=0
def tw12712497542738885293:=0
def tw12754812825873022864:=0
def tw12822308337211963351:=0
def tw12830485109497920369:=0
def tw12896063254229901106:=0
def tw12954728971318654724:=0
def tw12971868335900368620:=0
def tw13062013211429347576:=0
def tw1307217940780193280:=0
def tw13183095271382063781:=0
def tw13296223790251237967:=0
def tw13307743940821654686:=0
def tw13373127125150654212:=0
def tw1350111479308820689:=0
def tw1353324673163467055:=0
def tw1359875415634337509:=0
def tw13717660364166437971:=0
def tw1375325065669970325:=0
def tw13763405433195422682:=0
def tw13849774739411024876:=0
def tw13862839883259290051:=0
def tw14027098152783974771:=0
def tw14141448981953808900:=0
def tw14167348228313571160:=0
def tw14804498077441078007:=0
def tw14917896506134243187:=0
def tw15031051215116418478:=0
def tw15040435481972227128:=0
def tw15071846791215262972:=0
def tw15184222001670168734:=0
def tw152868200594164062:=0
def tw15421223613119236257:=0
def tw15429876639770076093:=0
def tw15447613281968124339:=0
def tw1551086762260014901:=0
def tw15545041538508654226:=0
def tw15588525303145274125:=0
def tw15619908922948616536:=0
def tw15622898801353955927:=0
def tw15747431705516608142:=0
def tw15870913076519333532:=0
def tw15882926422719549135:=0
def tw16102085603554575691:=0
def tw164196144991466420:=0
def tw1657933784165917953:=0
def tw16584402988549928874:=0
def tw16651482669464157745:=0
def tw16849822089173565222:=0
def tw16850168674132901312:=0
def tw16923930139553084637:=0
def tw17186139474059001972:=0
def tw17226413992882108984:=0
def tw17230119259176189718:=0
def tw175079218713358873:=0
def tw17516850327070800448:=0
def tw17646189038943889639:=0
def tw17721789433011621166:=0
def tw17734713881887825889:=0
def tw17749181747727454376:=0
def tw17898603726144962790:=0
def tw18050668831253502244:=0
def tw18144641878009194616:=0
def tw18145047524120296713:=0
def tw18220450413030674152:=0
def tw18225484433755059893:=0
def tw18280654989080255572:=0
def tw18290385866019714599:=0
def tw18360236447556828404:=0
def tw1847100836991041893:=0
def tw1922619190712376708:=0
def tw2136700389801701822:=0
def tw2149935560412528301:=0
def tw2216129833872488369:=0
def tw221819417248991288:=0
def tw2235807290617502059:=0
def tw2258128777875837789:=0
def tw2296420407619052799:=0
def tw2334987877921416475:=0
def tw2364636378465875020:=0
def tw2584552618223777519:=0
def tw258646893501423655:=0
def tw2592440558234906895:=0
def tw2822670278838531244:=0
def tw3102112671880583349:=0
def tw3343617247262594523:=0
def tw3404836046408447308:=0
def tw3510679676527814269:=0
def tw3673647085290754213:=0
def tw3806004578096979125:=0
def tw3966147213657868156:=0
def tw4040674039404361317:=0
def tw4367428591589891517:=0
def tw4752119450326004012:=0
def tw4768248117743692194:=0
def tw486769983007597286:=0
def tw5002295486870187307:=0
def tw5211354662362195216:=0
def tw531194695466915640:=0
def tw5378735955396578392:=0
def tw5546559553200996076:=0
def tw5600673557551139417:=0
def tw5657789987621725610:=0
def tw5720196055833643917:=0
def tw5975360568447044178:=0
def tw5978411398327063417:=0
def tw6059938214234404739:=0
def tw6086150586760121410:=0
def tw613782938518885805:=0
def tw6156884984901202217:=0
def tw6165406745452694934:=0
def tw6181397794742134316:=0
def tw6499436532869615167:=0
def tw6601668318280354860:=0
def tw6628117027734189968:=0
def tw6670374938422490036:=0
def tw6820904682366976433:=0
def tw6890725573435516328:=0
def tw6927628537402929221:=0
def tw701994508148087624:=0
def tw715369673830695328:=0
def tw7166244971652130488:=0
def tw7166425511741667319:=0
def tw7201354997336531526:=0
def tw7270633824658110774:=0
def tw7335971972181643875:=0
def tw7351460887499862530:=0
def tw7357684673129262076:=0
def tw7468251713160243276:=0
def tw7529897746893927627:=0
def tw7669488950892236772:=0
def tw7669878915945950942:=0
def tw7675706150010004865:=0
def tw7712596128072786294:=0
def tw7786872212362669330:=0
def tw7876785855270250094:=0
def tw7928596813302476379:=0
def tw7981935504394128563:=0
def tw7997960283045793981:=0
def tw8014933383657478641:=0
def tw8159926371458699364:=0
def tw8226481759483033902:=0
def tw8419693929777048619:=0
def tw8484305212914337077:=0
def tw8607898655215310786:=0
def tw8632131108114552378:=0
def tw8742869169757930618:=0
def tw8991291028950280851:=0
def tw9243221191921247442:=0
def tw9406555743362734942:=0
def tw9538349189716003801:=0
def tw9569409471205102904:=0
def tw9593425254163723013:=0
def tw9617482418319661643:=0
def tw9753445153031812940:=0
def tw9802785713576218177:=0
def tw9946052661682568771:=0
end PySem.W.Fast
open PySem PySem.W PyProof.Rows
set_option maxRecDepth 100000 in
set_option maxHeartbeats 0 in
theorem PySem.Challenge.cw_parleyturn_k05_parts_holds : PySem.Challenge.rw_parleyturn_k05_parts.Holds := by
  w_on;o_law;k_head;(case hw=>w_witness2)
  k_fill
  refine mY.walk (k:=99) mY.main ⟨rfl,by decide,by decide⟩ (l:=PySem.Challenge.rw_parleyturn_k05_parts) rfl rfl rfl (λw h Y=>PySem.W.kIn_of Y) ?F
  case F=>
    intro w mg h KX G
    refine' ⟨?_,λq=>?_⟩
    ·constructor
     all_goals first | (refine' PySem.W.mg_none_of KX G ?_;k_is) | (refine' DL.Xw KX G ?a ?b ?c;case a | b | c=>k_is) | (refine' DL.XT KX G ?a ?b ?c ?d ?e ?f ?g ?h ?i ?j;case a | b | c | d | e | f | g | h | i | j=>k_is) | (refine' DL.XU KX G ?a ?b;case a | b=>k_is) | (refine' DL.XR KX G ?a ?b;(case a=>k_is);(case b=>k_exc)) | (refine' mY.Zty KX G ?a ?b;(case b=>k_is);(case a=>k_is))
    ·cases q<;>(delta mY.FQ PT.Fn.nm mY.ix;dsimp only)<;>(refine' mY.Ztx KX G ?a ?b ?c ?d (λ_ _ _ _ _ _=>?e);(case a | b | c | d=>k_is);case e=>first | exactλ_=>rfl | exactλ_ _=>rfl | exactλ_ _ _=>rfl | exactλ_ _ _ _=>rfl | exactλ_ _ _ _ _=>rfl)
#print axioms PySem.Challenge.cw_parleyturn_k05_parts_holds