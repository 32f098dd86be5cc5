import PyProof.Rows.All
import Wide.All
import OpenK.AllK
import Wide.FinOn
import Lean
import PyProof.EqAt
import PyProof.EqKinds
import PyProof.TupleCall
import KE.KSortTup
import PyProof.ExcAttrAll.ValueError
import PyProof.ExcArgsOwn
import KE.KTryMore
import KE.KIsNot
import KE.KPairComp
import KE.KDictSum
import KE.KEqDict
import KE.KRevIter
import PyProof.CollectIter
import PyProof.TupleOfGen
import PyProof.Rows.TupDisplay
import PyProof.Rows.SetFrom
import PyProof.NeKinds
import PySem.Challenge.RW_parleyturn_k06_whole_a_part_or_a_reason
set_option Elab.async false
set_option compiler.extract_closed false
set_option bootstrap.genMatcherCode false
set_option linter.all false
set_option maxRecDepth 100000
set_option maxHeartbeats 4000000
open Array renaming forIn_toList→YP,getElem?_eq_getElem→l7,getElem?_eq_none→Zw,getElem?_eq_none_iff→Y6,getElem?_toList→sD,length_toList→mQ,toArray_toList→ZS,toList→Yn,toList_push→Zf
open Bool renaming and_assoc→Jf,and_eq_true→bB,and_false→qr,eq_false_iff→jE,eq_iff_iff→j6,false_eq_true→kY,false_ne_true→bP,false_or→Iz,not_eq_true'→mS,not_not→Ze_,not_true→Ak,or_eq_false_iff→Zc_,or_eq_true→Zi_,true_and→ot
open Classical renaming byContradiction→qE,choose_spec→ZU,not_forall→Jr,not_imp→Js,propDecidable→sF
open Eq renaming symm→Aj
open False renaming elim→dE
open ForInStep renaming yield→YW
open Function renaming comp→Z4
open Int renaming add_comm→Z_,emod_lt_of_pos→wj,emod_nonneg→wh,le_refl→Jn,mul_nonneg→Za_,toNat→sP,toNat_natCast→k4,toNat_of_nonneg→oG,zero_add→Z6
open List renaming Nodup→oI,all_cons→e_,all_eq_true→ja,any_cons→qu,any_eq_true→Jg,append_assoc→j8,append_nil→gv,cons_append→Jd,cons_ne_nil→AY,countP_append→Z7,countP_cons→Z8,countP_eq_zero→Z9,countP_le_length→A4,dropLast_concat_getLast→Ji,drop_eq_getElem_cons→Ap,drop_length→II,drop_zero→Y4,exists_cons_of_ne_nil→ZZ,ext_getElem?→vX,filterMap_cons→z4,filterMap_map→Yr,filter_eq_nil_iff→Jo,filter_sublist→Jq,find?_cons→om,find?_cons_of_neg→Jc,find?_cons_of_pos→Jb,flatMap_append→A3,flatMap_cons→qD,flatMap_nil→Zb_,foldl_append→IQ,foldl_cons→AE,forall_mem_cons→Jp,getD_eq_getElem?_getD→j9,getElem?_append_left→jC,getElem?_append_right→v7,getElem?_cons_succ→oD,getElem?_cons_zero→oH,getElem?_eq_getElem→c6,getElem?_eq_none→qz,getElem?_eq_none_iff→IC,getElem?_eq_some_iff→cA,getElem?_inj→ZQ,getElem?_map→bJ,getElem?_of_mem→Zd_,getElem?_range→Y5,getElem?_replicate→ID,getElem?_set_ne→dQ,getElem?_set_self→i_,getElem_map→Z0,getElem_mem→AD,getElem_zip→YM,idxOf_lt_length_iff→ZX,length→og,length_append→bQ,length_cons→bR,length_drop→Ac,length_eq_zero_iff→Zt,length_eraseIdx_of_lt→Zu,length_filter_le→Zh_,length_map→aJ,length_nil→gL,length_range→sL,length_set→iC,length_singleton→IF,length_take→lW,length_zip→YS,lookup_cons→YV,map_append→cU,map_congr_left→sR,map_cons→a_,map_drop→Y2,map_eq_nil_iff→Zf_,map_inj_right→Zg_,map_map→fQ,map_nil→qt,map_take→IL,mem_append→bW,mem_append_left→gK,mem_append_right→dR,mem_cons→a9,mem_cons_of_mem→bV,mem_cons_self→bg,mem_filter→d6,mem_filterMap→qi,mem_flatMap→oJ,mem_iff_getElem→YR,mem_map→aO,mem_of_getElem?→ee,mem_of_mem_drop→Z2,mem_of_mem_take→Z1,mem_range→l8,mem_singleton→br,nodup_append→sS,nodup_cons→g8,nodup_iff_pairwise_ne→AU,nodup_nil→ZP,nodup_range→Z5,not_mem_nil→kb,of_mem_zip→vQ,pairwise_append→Jk,pairwise_cons→gw,pairwise_map→AZ,pairwise_singleton→Ar,range→dY,range'→qC,range'_succ→A0,range_eq_range'→A1,range_succ_eq_map→YT,replicate→z_,reverse_cons→AX,set_cons_zero→qB,size_toArray→cH,take_add_one→l6,take_append_drop→Jj,take_length→k0,take_of_length_le→Z3,zip_cons_cons→ZN
open List.Pairwise renaming imp_of_mem→ZsI,nil→Iy
open List.cons renaming inj→ZW
open Nat renaming add_assoc→sI,add_le_add→Jh,add_right_comm→A2,ble→qc,le_antisymm→IG,le_of_ble_eq_true→gJ,le_of_eq→YE,le_of_lt→f9,le_of_not_lt→YD,le_one_iff_eq_zero_or_eq_one→Zx,le_refl→a5,le_succ→iS,le_succ_of_le→Aq,le_trans→cj,lt_irrefl→lU,lt_of_le_of_lt→kX,lt_of_lt_of_le→iB,lt_succ_of_lt→j7,lt_succ_self→v8,lt_trans→oq,ne_of_gt→qh,ne_of_lt→bO,not_lt→IH,succ_le_succ→An,succ_lt_succ→ZG,succ_ne_self→Y7,zero_add→k1,zero_le→ef
open Ne renaming symm→cn
open Option renaming bind_eq_bind→Zb,bind_eq_some_iff→Zc,bind_some→bj,getD_none→Yx,isSome_map→Ag,map_eq_some_iff→bC,map_map→ZV,map_some→wg,pure_def→Zd,toList_some→Jm
open Option.some renaming inj→gr,injEq→IE
open Or renaming inr→sE
open Prod renaming ext→Ip
open Prod.mk renaming inj→Je,injEq→wm
open PyProof.Rows renaming AllBare→mN,IntsAre→qs,IsTupIter→oF,StrsAre→v9,args_tuple_getitem→Yu,args_tupleiter_next→ZJ,callWith_builtin1→Yp,callWith_type1→oa,entry_tuple_getitem→Yt,entry_tupleiter_next→ZI,envOfC→iR,listUpdate_at→I_,mulOk_of_bits→ZsJ,seqEpoch_at→Ja,seqObj→di,size_push'→AS,slot_tuple_getitem→su,slot_tupleiter_next→AW,sortedAll_at→IJ,sortedAll_old→IK,strOf→ZsE,subscriptTail→Ir,subscriptTail_builtinR→Yv,wpAny_notIn_heap→YJ
open PyProof.Rows.F renaming entry_set_update_loop→Zg,plain_set_update_loop→IP
open PyProof.Rows.IsTup renaming new→vS
open PySem renaming Around→a8,BindsTo→vO,FuncData→d7,GenState→z5,IntMulOk→qk,IsEnum→sM,IsPart→lX,Keyword→vP,NameKind→sr,Paired→qf,Program→a6,SetTable→k3,Shared→ao,assign→jW,assignEach→f_,attributeBase→Ae,backTo→g7,behindInMarks→vN,binaryOp→dw,bootBuiltins→et,builtinLookup_eq_fast→AJ,builtinsNs→H0,call→Iw,call_meets→vV,callerA→oj,check_set_init_1→Zp,closureFor→l3,codeAny→qm,codeAny_builtin→mU,codeAny_call_builtin→Zn,codeAny_extend_loopS→ZD,codeAny_mono→qo,codeAny_of_tree→IT,compEnvC→Ao,compareOp→bF,concat_meets→Ih,eqIsQuiet_byValue→YO,fieldsOf→AM,fits_of_scanBound→AA,foldedSetIterable→oe,getItem→jY,hashStr→jT,isSubtype→AG,isSubtype_type→v_,letOwnedTupleGo→z7,mainGlobals→jV,mem_of_lookup→vR,newExc→sQ,noFill_tuple_add→Ii,pickOrder→oB,plainId_quiet→sO,post_val_or_str→Au,putSet_of→Az,pyIter→mO,pyNext→jX,rawInt→jB,reduceHash→IB,relabel→jb,relayAll→ov,scanBound→jc,seqIndex_of→Iu,seqItems?→AO,seq_tuple_add→Ij,setEntries→oz,setNext→oy,sizeLine→aB,sizeLine_eq→ql,sliceBounds→vU,slot_list_getitem→Yw,spliced→vM,starEach→bq,storedH→oo,strKind→j_,subscripted→vT,swappedStores→Ib,swapsWith→gu,swapsWithSole→Ia,sysModules→jA,tupleKind→vL,tupleKind_room_in1→Ai,typeIs_str→Iv,typeLookup→sC,typeLookup_type→AI,valueAt→qv,wants→IS,weight_type_call_type→Zl,wpAny_Name→H9,wpAny_askSetting→IU,wpAny_attempt→AK,wpAny_call→Ig,wpAny_callSpecial?_slot→oi,wpAny_call_entry→jD,wpAny_execs_nil→z6,wpAny_field→qp,wpAny_fieldsOf→AN,wpAny_forIn_list→YQ,wpAny_getItem_heap→YI,wpAny_getItem_str_slice→As,wpAny_isInstance→v3,wpAny_ite→wd,wpAny_loadName_cell→Yl,wpAny_loadName_local→Yk,wpAny_mono→kU,wpAny_newList→I0,wpAny_of_eq→AF,wpAny_passesOwn→qg,wpAny_pyHash_int→Yg,wpAny_pyHash_str→Yh,wpAny_pyIter_enum→Aw,wpAny_pyIter_list→Ic,wpAny_pyIter_slot→Zv,wpAny_pyIter_tuple→Ie,wpAny_runValue→AH,wpAny_seqItems→v5,wpAny_sequenceKey→Ys,wpAny_setEpoch_of→IY,wpAny_setField→oA,wpAny_setItem_heap→YK,wpAny_setState_of→l5,wpAny_specialOf→qw,wpAny_standAt→H_,wpAny_storeSet_of→Ze,wpAny_throw→IW,wpAny_typeOf→qq
open PySem.Around renaming under_plain→Zk,under_plainId→qy
open PySem.AutoSeq1 renaming list_extend_list_list_0→YC
open PySem.Builtin.Frozenset renaming addrOf→ZsC,newClass→ZsA,sizeOf→ZsD,slot0→ZsB,updateFrom→Zq
open PySem.Builtin.List renaming listExtendWith→AQ,listLengthHint→IZ,listSameRef→AR,listTooLong→Af
open PySem.Builtin.Range renaming rangeSize→Zsu
open PySem.Builtin.Slice renaming sliceAdjust→Io,sliceApplied→Yq,sliceFields→Zsw,slicePartIndex→Zsv,slicePlaces→Ab
open PySem.Builtin.SmallTypes renaming nextOf→AV
open PySem.Builtin.Str renaming strSliceIndices→Y3
open PySem.Builtin.Tuple renaming tupleExact→sA,tupleHashOf→qx,tupleIsExact→Y1,tupleItemsOf→Iq
open PySem.Calls renaming Name_function_global→Ym,callWith_builtin→Yy,call_function_entry→ZF,spliced_cons→z9,spliced_nil→z8
open PySem.Code renaming quiet_builtin→Zi
open PySem.F renaming args_list_extend_2→YB,args_object_init_2→ZL,args_tuple_add_2→Im,called_set→iD,entry_list_extend→YA,entry_set_init→Zo,entry_tuple_add→Il,entry_type_call→Zj,plainAttrs_list→ou,plain_list_iadd→ZC,plain_list_iadd→ZR,plain_set_new→Zh,slot_dict_getitem→YL,slot_list_append→Ax,slot_list_extend→Y8,slot_list_extend→Yz,slot_list_index→ZY,slot_set_iter→ZA,slot_tuple_add→Ik,slot_tuple_hash→Am,typeCall_set_1→Zm,type_list_append→Ay,type_list_extend→Y9
open PySem.Heap renaming ExtBut→IV,SameBut→lV,get?_push_ne→qA,get?_push_of_some→bx,get?_push_size→cL,get?_update_ne→ZH,get?_update_other→Ad,get?_update_self→lY,lt_size→bh,size_push→kZ,size_update→we
open PySem.Heap.IsSliceOf renaming new→Zsx
open PySem.Heap.SameBut renaming refl→Zsz,update→l4
open PySem.ItemsOf renaming nil→ZE
open PySem.Obj renaming data_mapFields→ZK,mapFields→wc,mapSeq→eZ,putSet→sN
open PySem.Paired renaming length→z3,snoc→YH
open PySem.PassesOwn renaming never→ZM
open PySem.SeqAt renaming EqAt→sG,RcAt→YU,notIn_listAt→ZT
open PySem.SeqAt.EqAt renaming int_str→Yi,of_refs→YN,same→vY,str_int→Yj
open PySem.SeqAt.RcAt renaming tuples→IA
open PySem.SeqAt.RcNeAt renaming lists→ZsG,lists_lengths→ZsH,tuples→Zsy
open PySem.SetTable renaming below→oC,fits→Zz,grown→ox,laid→Za,relaid→Y_
open PySem.SetTable.below renaming go→Zy
open PySem.Shared renaming TypeIs→wb
open PySem.Str renaming join→sJ,ofString→mR
open PySem.Txt renaming slice→IM,slice_le→Av
open PySem.Value renaming bool→jU,int→vJ,isInt→Ye,isStrOf→qd,isStrOf_shape→Yf,none→dc,ref→eY,str→i9,type→qe
open PySem.W renaming Frag→aw,KasT→oE,OpenLaw→YF,WalkO→YG,cellsFrom_some→Yo,codeIn→Aa,fnOf→oh,kas_sort→jd,keepIn→mP,keq_eq→ZO,kia_one→mT,kitx_dict→YY,kitx_list→YX,methodObj→HZ,mg_of→Zk_,nsIn→Zj_
open PySem.W.Looks renaming now→ZsF
open PySem.Walks renaming list→YZ,tuple→Y0
open PySem.pickOrder renaming go→IX
open String renaming splitOn→Zr,splitOnAux→Zs
open Sum renaming inl→vI,inr→vK
open Sum.inr renaming inj→Jl
open True renaming intro→jZ
theorem fu{a b n:Nat}(h:b<=n)(e:qc a b=true:=by rfl):a<=n:=cj (gJ e) h
theorem fo{n b a:Nat}(h:n<=b)(e:qc b a=true:=by rfl):n<=a:=cj h (gJ e)
theorem bX{a b:Prop}{R:Prop}(h:a/\b)(k:a->b->R):R:=k h.1 h.2
theorem gz{a:A->Prop}{R:Prop}(h:∃x,a x)(k:∀x,a x->R):R:=h.elim k
theorem bK{a b c:Prop}{R:Prop}(h:a/\b/\c)(k:a->b->c->R):R:=bX h.2 (k h.1)
theorem qF{a:A->B->Prop}{R:Prop}(h:∃x y,a x y)(k:∀x y,a x y->R):R:=h.elim λx h=>gz h (k x)
theorem gA{a b c P3:Prop}{R:Prop}(h:a/\b/\c/\P3)(k:a->b->c->P3->R):R:=bK h.2 (k h.1)
theorem dd{a:A->B->C->Prop}{R:Prop}(h:∃x y z,a x y z)(k:∀x y z,a x y z->R):R:=h.elim λx h=>qF h (k x)
theorem kc{a b c P3 d:Prop}{R:Prop}(h:a/\b/\c/\P3/\d)(k:a->b->c->P3->d->R):R:=gA h.2 (k h.1)
theorem g9{a b c P3 d e:Prop}{R:Prop}(h:a/\b/\c/\P3/\d/\e)(k:a->b->c->P3->d->e->R):R:=kc h.2 (k h.1)
theorem b5{a b:A->Prop}{R:Prop}(h:∃x,a x/\b x)(k:∀x,a x->b x->R):R:=gz h λx h=>bX h (k x)
theorem aP{a b c:A->Prop}{R:Prop}(h:∃x,a x/\b x/\c x)(k:∀x,a x->b x->c x->R):R:=gz h λx h=>bK h (k x)
theorem cz{a b:A->B->Prop}{R:Prop}(h:∃x y,a x y/\b x y)(k:∀x y,a x y->b x y->R):R:=qF h λx y h=>bX h (k x y)
theorem eh{a b c P3:A->Prop}{R:Prop}(h:∃x,a x/\b x/\c x/\P3 x)(k:∀x,a x->b x->c x->P3 x->R):R:=gz h λx h=>gA h (k x)
theorem cM{a b c:A->B->Prop}{R:Prop}(h:∃x y,a x y/\b x y/\c x y)(k:∀x y,a x y->b x y->c x y->R):R:=qF h λx y h=>bK h (k x y)
theorem k5{a b:A->B->C->Prop}{R:Prop}(h:∃x y z,a x y z/\b x y z)(k:∀x y z,a x y z->b x y z->R):R:=dd h λx y z h=>bX h (k x y z)
theorem dq{a b c P3:A->B->Prop}{R:Prop}(h:∃x y,a x y/\b x y/\c x y/\P3 x y)(k:∀x y,a x y->b x y->c x y->P3 x y->R):R:=qF h λx y h=>gA h (k x y)
theorem ey{a b c:A->B->C->Prop}{R:Prop}(h:∃x y z,a x y z/\b x y z/\c x y z)(k:∀x y z,a x y z->b x y z->c x y z->R):R:=dd h λx y z h=>bK h (k x y z)
theorem iE{a b c P3 d:A->B->Prop}{R:Prop}(h:∃x y,a x y/\b x y/\c x y/\P3 x y/\d x y)(k:∀x y,a x y->b x y->c x y->P3 x y->d x y->R):R:=qF h λx y h=>kc h (k x y)
theorem bS{R:Prop}{o:Option A}{f:A->Option B}{b:B}(h:o.bind f=some b)(k:∀a,o=some a->f a=some b->R):R:=by
 cases o with
 | none=>cases h
 | some a=>exact k a rfl h
noncomputable section
namespace L2
open PySem PySem.Spec PyProof.Rows
noncomputable abbrev Key:=Sum Int Str
noncomputable def oK:Key->Value->Bool
 | .inl k,v=>Ye k v
 | .inr x,v=>qd x v
noncomputable def Jt(w:World):Key->Int
 | .inl k=>hashInt k
 | .inr x=>jT w x
theorem kd:∀{k:Key}{v:Value},oK k v=true->(∃i t,k=vI i/\v=vJ i t)\/(∃x t,k=vK x/\v=i9 x t)
 | .inl i,v,h=>by
  obtain⟨t,e⟩:=Value.isInt_shape (k:=i) (v:=v) h;exact .inl ⟨i,t,rfl,e⟩
 | .inr x,v,h=>by
  obtain⟨t,e⟩:=Yf (x:=x) (v:=v) h;exact .inr ⟨x,t,rfl,e⟩
theorem Ju(i:Int)(t:Tok):oK (.inl i) (.int i t)=true:=by simp[oK,Ye]
theorem Jv(x:Str)(t:Tok):oK (.inr x) (.str x t)=true:=by simp[oK,qd]
theorem Jw(a b:Int):decide ((vI a:Key)=vI b)=(a==b):=by
 grind
theorem Jx(a b:Str):decide ((vK a:Key)=vK b)=decide (a=b):=by
 simp
theorem Jy(a:Int)(b:Str):decide ((vI a:Key)=vK b)=false:=(by rfl)
theorem Jz(a:Str)(b:Int):decide ((vK a:Key)=vI b)=false:=(by rfl)
def gM(prog:a6)(w:World):PySem.KeyKind prog w Key where
 is:=oK
 hash:=Jt w
 inj:=λv a b g f=>by
  rcases kd g with⟨i,t,rfl,rfl⟩ | ⟨x,t,rfl,rfl⟩
  ·rcases kd f with⟨j,u,rfl,e⟩ | ⟨y,u,rfl,e⟩
   ·injection e with c _;rw[c]
   ·exact nomatch e
  ·rcases kd f with⟨j,u,rfl,e⟩ | ⟨y,u,rfl,e⟩
   ·exact nomatch e
   ·injection e with c _;rw[c]
 byValue:=λk v h=>by
  rcases kd h with⟨i,t,rfl,rfl⟩ | ⟨x,t,rfl,rfl⟩<;>rfl
 pyHash:=λd h=>by
  rcases kd d with⟨i,t,rfl,rfl⟩ | ⟨x,t,rfl,rfl⟩
  ·exact Yg h
  ·exact Yh h
 eqBool:=λm d h=>by
  rcases kd m with⟨i,t,rfl,rfl⟩ | ⟨x,t,rfl,rfl⟩
  ·rcases kd d with⟨j,u,rfl,rfl⟩ | ⟨y,u,rfl,rfl⟩
   ·rw[Jw]at h;exact wpAny_eqBool_int h
   ·rw[Jy]at h;exact Yi i t y u _ _ _ _ h
  ·rcases kd d with⟨j,u,rfl,rfl⟩ | ⟨y,u,rfl,rfl⟩
   ·rw[Jz]at h;exact Yj x t j u _ _ _ _ h
   ·rw[Jx]at h;exact wpAny_eqBool_str h
 «strs»:=λk x t v h=>by
  rcases kd h with⟨i,u,rfl,e⟩ | ⟨y,u,rfl,e⟩
  ·exact nomatch e
  ·injection e with c _
   subst c
   cases v<;>rfl
theorem JD(prog:a6)(w:World)(i:Int)(t:Tok):(gM prog w).is (.inl i) (.int i t)=true:=Ju i t
theorem JH(prog:a6)(w:World)(x:Str)(t:Tok):(gM prog w).is (.inr x) (.str x t)=true:=Jv x t
inductive V where
 | ay | bl (b:Bool) | int (i:Int) | str (x:Str) | qG (b:Array UInt8) | wo (b:UInt64) | ref (a:Addr) | ty (n:String)
 deriving DecidableEq
noncomputable def RelV:V->Value->Prop
 | .ay,u=>u=dc
 | .bl b,u=>u=jU b
 | .int i,u=>∃t,u=vJ i t
 | .str x,u=>∃t,u=i9 x t
 | .qG b,u=>∃t,u=Value.bytes b t
 | .wo b,u=>∃t,u=Value.float b t
 | .ref a,u=>u=eY a
 | .ty n,u=>u=qe n
noncomputable abbrev Vals:List V->List Value->Prop:=qf RelV
theorem Vals.length{xs:List V}{us:List Value}(r:Vals xs us):xs.length=us.length:=z3 r
theorem Vals.get:∀{xs:List V}{us:List Value}{i:Nat}{x:V},Vals xs us->xs[i]?=some x->∃u,us[i]?=some u/\RelV x u
 | _,_,_,_,.nil,e=>by simp at e
 | _,_,0,_,.cons r _,e=>by simp at e;subst e;exact⟨_,rfl,r⟩
 | _,_,i+1,x,.cons _ t,e=>by
  obtain⟨u,a,b⟩:=Vals.get (i:=i) (x:=x) t (by simpa using e);exact⟨u,by simpa using a,b⟩
theorem Vals.set(r:RelV x u):∀{xs:List V}{us:List Value}(i:Nat),Vals xs us->Vals (xs.set i x) (us.set i u)
 | _,_,_,.nil=>.nil
 | _,_,0,.cons _ t=>.cons r t
 | _,_,i+1,.cons q t=>.cons q (Vals.set r i t)
theorem Vals.append{xs:List V}:∀{ys:List V}{us ws:List Value},Vals xs us->Vals ys ws->Vals (xs++ys) (us++ws):=by
 induction xs with
 | nil=>intro ys us ws h s;cases h;exact s
 | cons x xs a=>
  intro ys us ws h s
  cases h with
  | cons r t=>exact .cons r (a t s)
theorem Vals.take:∀{xs:List V}{us:List Value}(n:Nat),Vals xs us->Vals (xs.take n) (us.take n)
 | _,_,0,_=>.nil
 | _,_,_+1,.nil=>.nil
 | _,_,n+1,.cons r t=>.cons r (Vals.take n t)
theorem Vals.drop:∀{xs:List V}{us:List Value}(n:Nat),Vals xs us->Vals (xs.drop n) (us.drop n)
 | _,_,0,r=>r
 | _,_,_+1,.nil=>.nil
 | _,_,n+1,.cons _ t=>Vals.drop n t
def gO:Option V->Option Value->Prop
 | some v,some u=>RelV v u
 | none,none=>True
 | _,_=>False
def KV{κ:Type}:List (κ × V)->List (κ × Value)->Prop:=qf λ(p:κ × V)(q:κ × Value)=>p.1=q.1/\RelV p.2 q.2
noncomputable def kV:Key->V
 | .inl i=>.int i
 | .inr x=>.str x
inductive HO where
 | lst (xs:List V)
 | tup (xs:List V)
 | dK (qH:List (Key × V)) | dT (qH:List (List Key × V))
 | set (S:Int->Bool) (n:Nat)
 | ins (C dx:Addr) (fs:List (Str × V))
 | own (x:Addr)
 | xd (fs:List (Str × V))
 | met (f x:Addr)
 | mV (lo hi:Int)
 | dA (o:Obj) (u:HO)
 | mW (ps:Array Value)
 | ext (φ:World->(Addr->Option (List V))->Heap->Prop)
noncomputable abbrev Hp:=Addr->Option HO
noncomputable def upd(H:Hp)(a:Addr)(o:HO):Hp:=λb=>if b=a then some o else H b
theorem bG:upd H a o a=some o:=by unfold upd;simp
theorem bz(h:b≠a):upd H a o b=H b:=by unfold upd;rw[if_neg h]
theorem A5{H:Hp}{a b:Addr}{o u:HO}(h:H a=some o)(h':H b=some u)(d:o≠u):a≠b:=by
 grind
theorem jF{H:Hp}{a b:Addr}{o:HO}(h:H a=some o)(h':H b=none):a≠b:=by
 grind
noncomputable def iF(H:Hp):Addr->Option (List V):=λb=>match H b with
 | some (.tup xs)=>some xs
 | _=>none
theorem mX:iF H b=some xs↔H b=some (.tup xs):=by
 unfold iF
 split<;>simp_all
section
variable (P:a6)(w:World)
def dB(H:Hp)(h:Heap)(a:Addr):HO->Prop
 | .lst xs=>xs.length<=aB/\∃(c:List Value)(n:Nat),Vals xs c/\h.get? a=some { cls:=.type "list",data:=.seq c.toArray n }
 | .tup xs=>xs.length<=aB/\∃c:List Value,Vals xs c/\IsTup h a c.toArray
 | .dK d=>d.length<=aB/\(a==jA)=false/\∃vs,KV d vs/\h.DictOf (gM P w) a vs
 | .dT d=>d.length<=aB/\(a==jA)=false/\∃xs:List (List Key × Addr × Value),
   qf (λ(p:List Key × V)(q:List Key × Addr × Value)=>p.1=q.1/\H q.2.1=some (.tup (p.1.map kV))/\RelV p.2 q.2.2) d xs∧
   ∃o es y,h.get? a=some o/\o.ExactDict/\o.data=.dict es y/\es.toList=xs.map (entryOfKey (vL (gM P w)))/\(xs.map (·.1)).Nodup
 | .set S n=>h.SetOf (intKind P w) a S n
 | .ins C g fs=>H g=some (.own a)/\fs.length<=1000/\g≠a/\h.get? a=some (PySem.W.instObj C g)∧
   ∃e,h.Ns1 g e/\(∀f,gO (fs.lookup f) (e f))/\PySem.Within e (fs.map (·.1))
 | .own _=>∃o,h.get? a=some o
 | .xd fs=>∃e,h.Ns1 a e/\∀f,gO (fs.lookup f) (e f)
 | .mV lo z=>∃t u v,h.get? a=some { cls:=.type "range",data:=.fields #[.int lo t,.int z u,.int 1 v] }
 | .dA o u=>h.get? a=some o/\dB H h a u
 | .mW ps=>h.get? a=some { cls:=.none,data:=.fields ps }
 | .met f x=>h.get? a=some (HZ (.ref f) (.ref x))
 | .ext i=>i w (iF H) h/\(∃o,h.get? a=some o)/\∀(j m:Addr->Option (List V))(r s:Heap),i w j r->(∀b xs,j b=some xs->m b=some xs)->(∀o,r.get? a=some o->s.get? a=some o)->i w m s
def de(H:Hp)(h:Heap):Prop:=∀a o,H a=some o->dB P w H h a o
end
section
variable {P:a6}{w:World}{H H':Hp}{h h':Heap}{a:Addr}{o:HO}
theorem dB.lt(x:dB P w H h a o):a<h.objs.size:=by
 cases o with
 | lst xs=>refine bX x λ_ b=>cz b λ_ _ _ e=>?_;clear x b;exact bh e
 | tup xs=>refine bX x λ_ b=>b5 b λ_ _ p=>?_;clear x b;exact p.lt
 | dK d=>refine bK x λ_ _ b=>b5 b λ_ _ c=>k5 c λo _ _ e _=>?_;clear x b c;exact bh e
 | dT d=>refine bK x λ_ _ b=>b5 b λ_ _ c=>k5 c λo _ _ e _=>?_;clear x b c;exact bh e
 | set S n=>refine dd x λo _ _ b=>b5 b λ_ e _=>?_;clear x b;exact bh e
 | ins C g fs=>refine kc x λ_ _ _ e _=>?_;clear x;exact bh e
 | own y=>obtain⟨_,e⟩:=x;exact bh e
 | xd fs=>obtain⟨_,⟨_,_,_,e,_⟩,_⟩:=x;exact bh e
 | mV lo i=>refine dd x λ_ _ _ e=>?_;clear x;exact bh e
 | dA j u=>obtain⟨e,_⟩:=x;exact bh e
 | mW ps=>exact bh (show h.get? a=some _ from x)
 | met f y=>exact bh (show h.get? a=some _ from x)
 | ext m=>obtain⟨_,⟨_,e⟩,_⟩:=x;exact bh e
theorem Paired.A6{d e:Type}{F G:d->e->Prop}{l₁:List d}:∀{c:List e},qf F l₁ c->(∀a b,F a b->G a b)->qf G l₁ c:=by
 induction l₁ with
 | nil=>intro c h f;cases h;exact .nil
 | cons a l g=>
  intro c h f
  cases h with
  | cons r t=>exact .cons (f _ _ r) (g t f)
theorem dB.kf(x:dB P w H h a o)(k:∀b u,(b=a\/H b=some (.own a))->h.get? b=some u->h'.get? b=some u)
  (I:∀b,H b=some (.own a)->H' b=some (.own a)) (G:∀b xs,H b=some (.tup xs)->H' b=some (.tup xs)):dB P w H' h' a o:=by
 induction o with
 | lst xs=>refine bX x λz g=>cz g λs n r e=>?_;clear x g;exact⟨z,s,n,r,k _ _ (.inl rfl) e⟩
 | tup xs=>refine bX x λz g=>b5 g λs r i=>b5 i λj e c=>?_;clear x g i;exact⟨z,s,r,j,k _ _ (.inl rfl) e,c⟩
 | dK A=>refine bK x λz y g=>b5 g λvs r i=>k5 i λj es m e c=>?_;clear x g i;exact⟨z,y,vs,r,j,es,m,k _ _ (.inl rfl) e,c⟩
 | dT A=>
  refine bK x λz y g=>b5 g λxs r i=>k5 i λj es m e c=>?_;clear x g i
  exact⟨z,y,xs,Paired.A6 r λp q z=>⟨z.1,G _ _ z.2.1,z.2.2⟩,j,es,m,k _ _ (.inl rfl) e,c⟩
 | set S n=>refine dd x λj es m g=>b5 g λt e c=>?_;clear x g;exact⟨j,es,m,t,k _ _ (.inl rfl) e,c⟩
 | ins C N fs=>
  obtain⟨d,z,J,e,B,⟨E,es,m,L,c⟩,r⟩:=x;exact⟨I _ d,z,J,k _ _ (.inl rfl) e,B,⟨E,es,m,k _ _ (.inr d) L,c⟩,r⟩
 | own y=>obtain⟨j,e⟩:=x;exact⟨j,k _ _ (.inl rfl) e⟩
 | xd fs=>obtain⟨B,⟨E,es,m,e,c⟩,r⟩:=x;exact⟨B,⟨E,es,m,k _ _ (.inl rfl) e,c⟩,r⟩
 | mV lo O=>refine dd x λt u v e=>?_;clear x;exact⟨t,u,v,k _ _ (.inl rfl) e⟩
 | dA j u M=>obtain⟨e,q⟩:=x;exact⟨k _ _ (.inl rfl) e,M q⟩
 | mW ps=>
  have e:h.get? a=some { cls:=.none,data:=.fields ps }:=x
  show h'.get? a=some { cls:=.none,data:=.fields ps }
  exact k a _ (.inl rfl) e
 | met f y=>
  have e:h.get? a=some (HZ (.ref f) (.ref y)):=x
  show h'.get? a=some (HZ (.ref f) (.ref y))
  exact k a _ (.inl rfl) e
 | ext Q=>obtain⟨p,⟨o,e⟩,st⟩:=x;exact⟨st _ _ _ _ p (λb xs q=>mX.mpr (G b xs (mX.mp q))) λo q=>k _ _ (.inl rfl) q,⟨o,k _ _ (.inl rfl) e⟩,st⟩
theorem de.lt(x:de P w H h)(e:H a=some o):a<h.objs.size:=(x a o e).lt
theorem de.fresh(x:de P w H h)(e:h.objs.size<=a):H a=none:=by
 cases q:H a with
 | none=>rfl
 | some u=>exact absurd (iB (x.lt q) e) (lU _)
theorem de.kept(x:de P w H h)(k:∀b u,h.get? b=some u->h'.get? b=some u):de P w H h':=λa o e=>
 (x a o e).kf (λb u _ q=>k b u q) (λ_ q=>q) λ_ _ q=>q
theorem de.laid(x:de P w H h)(k:∀b u,h.get? b=some u->h'.get? b=some u)(d:h.objs.size<=a)(new:dB P w (upd H a o) h' a o):de P w (upd H a o) h':=λb u e=>by
 have hn:=x.fresh d
 by_cases f:b=a
 ·simp_all[bG]
 ·rw[bz f]at e
  exact(x b u e).kf (λc v _ q=>k c v q) (λc q=>by rw[bz (jF q hn)];exact q) λc xs q=>by rw[bz (jF q hn)];exact q
end
def Rd(H:Hp)(a:Addr)(u:HO):Prop:=H a=some u\/∃o,H a=some (.dA o u)
theorem Rd.ok(r:Rd H a u)(x:de P w H h):dB P w H h a u:=by
 rcases r with r | ⟨o,r⟩
 ·exact x a u r
 ·obtain⟨_,q⟩:=x a _ r
  exact q
noncomputable def qI:Option HO->Prop
 | some (.lst _)=>True
 | some (.dK _)=>True
 | some (.dT _)=>True
 | some (.set _ _)=>True
 | some (.ins _ _ _)=>True
 | some (.ext _)=>True
 | _=>False
section
variable {P:a6}{w:World}{H:Hp}{h h':Heap}{x e:Addr}{o':HO}
theorem de.write(ok:de P w H h)(d:qI (H x))(n:e=x\/H e=some (.own x))(k:∀b u,b≠e->h.get? b=some u->h'.get? b=some u)(f:∃u,h'.get? e=some u)
  (new:dB P w (upd H x o') h' x o'):de P w (upd H x o') h':=λb u q=>by
 have g:∀c y,H c=some (.own y)->c≠x:=λc y r z=>by subst z;rw[r]at d;exact d
 have i:∀c xs,H c=some (.tup xs)->c≠x:=λc xs r z=>by subst z;rw[r]at d;exact d
 by_cases j:b=x
 ·simp_all[bG]
 ·rw[bz j]at q
  by_cases a:b=e
  ·have m:H b=some (.own x):=by
    rcases n with z | z
    ·exact absurd (a.trans z) j
    ·rw[a];exact z
   rw[q]at m;cases m
   obtain⟨v,p⟩:=f;exact⟨v,by rw[a];exact p⟩
  ·refine(ok b u q).kf (λc v s r=>k c v ?_ r) (by grind[bz]) (by grind[bz])
   grind
end
structure Un(fs ex:List Addr)(H H':Hp)(h h':Heap):Prop where
 keep:∀b o,h.get? b=some o->H b=none->b∉fs->b∉ex->h'.get? b=some o
 slot:∀b o,h.get? b=some o->H b=none->b∈fs->b∉ex->∃sl,h'.get? b=some { o with slots:=sl }
 free:∀b o,h.get? b=some o->H b=none->b∉ex->H' b=none
 there:∀b o,h.get? b=some o->b∉ex->∃o',h'.get? b=some o'
 k6:∀b xs,H b=some (.tup xs)->H' b=some (.tup xs)
 iT:∀b o u,H b=some (.dA o u)->H' b=some (.dA o u)
 kg:∀b ps,H b=some (.mW ps)->∃more,H' b=some (.mW (ps++more))
section
variable {fs JJ ex ex':List Addr}{H H1 H2:Hp}{h h1 h2 h':Heap}{a x e:Addr}{o:HO}
theorem Un.any(u:Un fs ex H H1 h h1)(q:h.get? b=some c)(n:H b=none)(d:b∉ex):∃g,h1.get? b=some { c with slots:=g }:=by
 by_cases f:b∈fs
 ·exact u.slot b c q n f d
 ·exact⟨c.slots,u.keep b c q n f d⟩
theorem Un.kept(k:∀b u,h.get? b=some u->h'.get? b=some u):Un fs ex H H h h':=
 ⟨λb c q _ _ _=>k b c q,λb c q _ _ _=>⟨c.slots,k b c q⟩,λ_ _ _ n _=>n,λb c q _=>⟨c,k b c q⟩,λ_ _ q=>q,λ_ _ _ q=>q,λ_ ps q=>⟨#[],by rw[q];simp⟩⟩
theorem Un.refl:Un fs ex H H h h:=Un.kept λ_ _ q=>q
theorem Un.laid(k:∀b u,h.get? b=some u->h'.get? b=some u)(c:h.objs.size<=a)(hn:H a=none):Un fs ex H (upd H a o) h h' where
 keep:=λb u q _ _ _=>k b u q
 slot:=λb u q _ _ _=>⟨u.slots,k b u q⟩
 free:=λb u q n _=>by rw[bz (bO (iB (bh q) c))];exact n
 there:=λb u q _=>⟨u,k b u q⟩
 k6:=λb xs q=>by rw[bz (jF q hn)];exact q
 iT:=λb u xs q=>by rw[bz (jF q hn)];exact q
 kg:=λb ps q=>⟨#[],by rw[bz (jF q hn),q];simp⟩
theorem Un.write(d:qI (H x))(i:e=x\/H e=some (.own x))(k:∀b u,b≠e->h.get? b=some u->h'.get? b=some u)(g:∃u,h'.get? e=some u):Un fs ex H (upd H x o) h h':=by
 have j:∀b,H b=none->b≠x:=λb n z=>by subst z;rw[n]at d;exact d
 have f:∀b,H b=none->b≠e:=(by grind)
 have c:∀b u,H b=some u->¬qI (some u)->b≠x:=(by grind)
 refine⟨λb u q n _ _=>k b u (f b n) q,λb u q n _ _=>⟨u.slots,k b u (f b n) q⟩,(by grind[bz]),λb u q _=>?_,
  λb xs q=>by rw[bz (c b _ q λz=>z)];exact q,λb u xs q=>by rw[bz (c b _ q λz=>z)];exact q,λb ps q=>⟨#[],by rw[bz (c b _ q λz=>z),q];simp⟩⟩
 grind
end
noncomputable def wq(h:Heap)(H:Hp):List Addr:=(dY h.objs.size).filter λa=>(H a).isSome
def k7(h:Heap)(H:Hp):Heap:=PySem.W.hideAll h (wq h H)
theorem JM(h:Heap)(H:Hp):(k7 h H).objs.size=h.objs.size:=PySem.W.hideAll_size _ _
theorem JN{h:Heap}(e:h.get? b=some o)(n:H b=none):(k7 h H).get? b=some o:=
 PySem.W.hideAll_get _ e λa=>by
  have q:(H b).isSome=true:=(d6.mp a).2
  simp_all
theorem JP{h:Heap}(e:(k7 h H).get? b=some o):h.get? b=some o/\H b=none:=by
 have a:h.get? b=some o:=PySem.W.of_hideAll (wq h H) e
 refine⟨a,?_⟩
 cases q:H b with
 | none=>rfl
 | some x=>
  simp_all[wq,bh,k7,PySem.W.hideAll_none]
noncomputable def JQ(g h:Heap)(L:Addr):List (Addr × Obj):=(dY h.objs.size).filterMap λa=>if a=L\/(g.get? a).isSome=true then none else(h.get? a).map λo=>(a,o)
def rest(g h:Heap)(L d:Addr):List (Addr × Obj):=(JQ g h L).filter λp=>decide (p.1≠d)
structure Mod(K:aw)(mg:Str->Option Value)(base:Heap):Prop where
 wt:K.In base
 glob:base.Ns jV mg
 blt:∃mb,base.Ns H0 mb/\∀x:Str,x≠"__name__"->mb x=et x
 nolimit:base.NoLimit
structure Cx where
 prog:a6
 w:World
 K:aw
 mg:Str->Option Value
 base:Heap
 A:a8
 N:List Str
 dC:ao
 je:Hp
 env:Env
 outer:List Env
 stack:List Env
 ex:List Addr
 fn:Str->Bool
 calm:Bool
 pn:List (Addr × Obj)
 xe:Value->ao->Prop
noncomputable def jf(l:List Env):List Addr:=l.filterMap (·.frame)
noncomputable abbrev Cx.fs(X:Cx):List Addr:=jf X.outer
def eN(sc:Scope)(x:Str):Prop:=sc.names.lookup x=some .local\/sc.names.lookup x=some .cell\/sc.names.lookup x=some .free
def Loc(sc:Scope)(x:Str):Prop:=sc.names.lookup x=some .local\/sc.names.lookup x=some .cell
def Look(a:Env)(h:Heap)(m:Str->Option Value)(x:Str)(u:Value):Prop:=
 (a.kindOf x=some .local/\m x=some u)\/((a.kindOf x=some .cell\/a.kindOf x=some .free)/\∃c,a.cells.lookup x=some c/\h.IsCell c (some u))
structure Cx.Ok(X:Cx):Prop where
 mod:Mod X.K X.mg X.base
 kind:X.env.scope.kind=.function
 glob:X.env.globals=jV
 blt:X.env.builtins=H0
 above:X.dC.heap.objs.size<=X.env.locals
 inj:∀x y c,X.env.cells.lookup x=some c->X.env.cells.lookup y=some c->x=y
 has:∀x,(X.env.kindOf x=some .cell\/X.env.kindOf x=some .free)->∃c,X.env.cells.lookup x=some c
 qJ:∀x c,X.fn x=true->X.env.cells.lookup x=some c->X.dC.heap.objs.size<=c
 hd:X.calm=true->X.A.handled=none
 frames:X.A.frames=some X.stack
 sT:X.stack=X.outer\/(X.stack=X.env::X.outer/\X.env.frame=some X.env.locals)
 wu:∀b∈X.ex,b≠X.env.locals/\∀x c,X.env.cells.lookup x=some c->c≠b
 bs:∀b o,X.base.get? b=some o->X.dC.heap.get? b=some o/\X.je b=none
 l9:X.base.objs.size<=X.dC.heap.objs.size
 qK:∀b o,X.base.get? b=some o->b∉X.ex
 oM:∀b∈X.ex,b∉X.fs
 jg:X.dC.heap.FunFrames X.base X.outer
 mY:∀b∈X.fs,X.je b=none
structure Inv(X:Cx)(pins:List (Addr × Obj))(σ:List (Option V))(H:Hp)(s:ao):Prop where
 ok:X.Ok
 os:s.os=X.dC.os
 bare:mN s.gens
 base:Un X.fs X.ex X.je H X.dC.heap s.heap
 loc:∃m,s.heap.Ns X.env.locals m/\∀(i:Nat)(x:Str)(v:V),X.N[i]?=some x->σ[i]?=some (some v)->eN X.env.scope x->∃u,RelV v u/\Look X.env s.heap m x u
 cell:∀x c,X.env.cells.lookup x=some c->∃v,s.heap.IsCell c v
 free:H X.env.locals=none
 g_:∀x c,X.env.cells.lookup x=some c->H c=none
 pin:∀p∈X.pn++pins,s.heap.get? p.1=some p.2/\H p.1=none/\p.1≠X.env.locals/\p.1∉X.fs/\∀v,p.2.data≠ .cell v
 aR:de X.prog X.w H s.heap
 len:σ.length=X.N.length
section
variable {X:Cx}{pins:List (Addr × Obj)}{σ:List (Option V)}{H H':Hp}{s:ao}{h':Heap}
theorem Cx.Ok.JR(ok:X.Ok)(e:X.base.get? b=some o):b∉X.fs:=λa=>by
 have:=(ok.jg.mem a).1
 simp_all
theorem Inv.bs(I:Inv X pins σ H s):∀b o,X.base.get? b=some o->s.heap.get? b=some o/\H b=none:=λb o e=>
 ⟨I.base.keep b o (I.ok.bs b o e).1 (I.ok.bs b o e).2 (I.ok.JR e) (I.ok.qK b o e),I.base.free b o (I.ok.bs b o e).1 (I.ok.bs b o e).2 (I.ok.qK b o e)⟩
theorem Inv.bk(I:Inv X pins σ H s):∀b o,X.base.get? b=some o->s.heap.get? b=some o:=λb o e=>(I.bs b o e).1
theorem Inv.mod(I:Inv X pins σ H s):Mod X.K X.mg X.base:=I.ok.mod
theorem Inv.hD(I:Inv X pins σ H s):X.K.In s.heap:=I.ok.mod.wt.keeps I.bk
theorem Inv.lt(I:Inv X pins σ H s):X.env.locals<s.heap.objs.size:=by obtain⟨_,hn,_⟩:=I.loc;exact hn.lt
theorem Inv.sz(I:Inv X pins σ H s):X.dC.heap.objs.size<=s.heap.objs.size:=cj I.ok.above (f9 I.lt)
theorem Inv.A7(I:Inv X pins σ H s)(h:s.heap.objs.size<=a):a∉X.fs:=λc=>by
 refine bX (I.ok.jg.mem c) λ_ b=>b5 b λo d _=>?_;clear b
 exact absurd (iB (bh d) (cj I.sz h)) (lU _)
theorem Inv.mZ(I:Inv X pins σ H s):∀x c,X.env.cells.lookup x=some c->c≠X.env.locals:=λx c e z=>by
 refine cz (I.cell x c e) λv o d f=>?_
 obtain⟨m,⟨g,es,h,a,b,_⟩,_⟩:=I.loc
 simp_all
theorem Inv.jg(I:Inv X pins σ H s):s.heap.FunFrames X.base X.outer:=by
 have all:∀(l:List Env),(∀b∈jf l,b∈X.fs)->X.dC.heap.FunFrames X.base l->s.heap.FunFrames X.base l:=by
  intro l
  induction l with
  | nil=>intro _ _;trivial
  | cons g r h=>
   intro f i;obtain⟨j,⟨L,o,a,hn,m,n⟩,p⟩:=i
   have c:L∈X.fs:=f L (by unfold jf;rw[z4,a];exact bg)
   obtain⟨q,e⟩:=I.base.slot L o m (I.ok.mY L c) c λz=>I.ok.oM L z c
   exact⟨j,⟨L,_,a,hn,e,n⟩,h (λb d=>f b (by unfold jf;rw[z4,a];exact bV _ d)) p⟩
 exact all X.outer (λ_ d=>d) I.ok.jg
theorem Inv.stack(I:Inv X pins σ H s):s.heap.FunFrames X.base X.stack:=by
 rcases I.ok.sT with e | ⟨e,a⟩
 ·rw[e];exact I.jg
 ·rw[e]
  obtain⟨m,hn,_⟩:=I.loc;refine .cons (by rw[I.ok.kind];decide) a hn ?_ I.jg;exact Heap.get?_none_of_le (cj I.ok.l9 I.ok.above)
theorem Inv.sU(I:Inv X pins σ H s):∀b∈jf X.stack,b∈X.env.locals::X.fs:=λb a=>by
 rcases I.ok.sT with e | ⟨e,c⟩
 ·rw[e]at a;exact bV _ a
 ·rw[e]at a
  unfold jf at a;rw[z4,c]at a;exact a
theorem Inv.A8(I:Inv X pins σ H s):∀b∈jf X.stack,H b=none:=λb hb=>by
 rcases a9.mp (I.sU b hb)with e | hb
 ·rw[e];exact I.free
 ·refine bX (I.ok.jg.mem hb) λ_ a=>b5 a λo c _=>?_;clear a
  exact I.base.free b o c (I.ok.mY b hb) λz=>I.ok.oM b z hb
theorem Inv.step{g':Array z5}{t':Nat}{d':Drawn}{ch:List Addr}(I:Inv X pins σ H s)
  (y:∀b∈ch,(b∈X.ex\/X.dC.heap.objs.size<=b)/\b≠X.env.locals/\(∀x c,X.env.cells.lookup x=some c->c≠b)/\∀p∈X.pn++pins,p.1≠b)
  (h:∀b o,b≠X.env.locals->b∉X.fs->b∉ch->s.heap.get? b=some o->H b=none->h'.get? b=some o)
  (j:∀b o,b≠X.env.locals->b∈X.fs->b∉ch->s.heap.get? b=some o->H b=none->∃Q,h'.get? b=some { o with slots:=Q }) (f:∀b o,b∉ch->s.heap.get? b=some o->H b=none->H' b=none)
  (A:∀b o,b∉ch->s.heap.get? b=some o->∃G,h'.get? b=some G)
  (J:∀b xs,H b=some (.tup xs)->H' b=some (.tup xs)) (L:∀b o u,H b=some (.dA o u)->H' b=some (.dA o u)) (kg:∀b ps,H b=some (.mW ps)->∃M,H' b=some (.mW (ps++M)))
  (ns:∀m,s.heap.Ns X.env.locals m->h'.Ns X.env.locals m) (T:de X.prog X.w H' h') (hg:mN g'):
  Inv X pins σ H' { s with heap:=h',gens:=g',drawn:=d',toks:=t' }:=by
 have N:∀b o,X.dC.heap.get? b=some o->b≠X.env.locals:=λb o e=>bO (iB (bh e) I.ok.above)
 have g:∀b o,X.dC.heap.get? b=some o->b∉X.ex->b∉ch:=λb o e a B=>by
  rcases(y b B).1 with z | z
  ·exact a z
  ·exact absurd (iB (bh e) z) (lU _)
 have C:∀x c,X.env.cells.lookup x=some c->∀v,s.heap.IsCell c v->h'.IsCell c v:=by
  rintro x c e v ⟨o,E,U⟩
  have O:c∉ch:=λz=>(y c z).2.2.1 x c e rfl
  by_cases hc:c∈X.fs
  ·obtain⟨Q,q⟩:=j c o (I.mZ x c e) hc O E (I.g_ x c e)
   exact⟨_,q,U⟩
  ·exact⟨o,h c o (I.mZ x c e) hc O E (I.g_ x c e),U⟩
 refine⟨I.ok,I.os,hg,⟨λb o e n B a=>?_,λb o e n B a=>?_,λb o e n a=>?_,λb o e a=>?_,λb xs e=>J b xs (I.base.k6 b xs e),λb o xs e=>L b o xs (I.base.iT b o xs e),λb ps e=>?_⟩,?_,λx c e=>?_,?_,λx c e=>?_,λp hp=>?_,T,I.len⟩
 ·exact h b o (N b o e) B (g b o e a) (I.base.keep b o e n B a) (I.base.free b o e n a)
 ·obtain⟨Q,t⟩:=I.base.slot b o e n B a
  obtain⟨Y,e2⟩:=j b _ (N b o e) B (g b o e a) t (I.base.free b o e n a);exact⟨Y,e2⟩
 ·obtain⟨G,t⟩:=I.base.there b o e a
  exact f b G (g b o e a) t (I.base.free b o e n a)
 ·obtain⟨G,t⟩:=I.base.there b o e a
  exact A b G (g b o e a) t
 ·obtain⟨m1,t⟩:=I.base.kg b ps e
  grind
 ·obtain⟨m,hn,hl⟩:=I.loc
  refine⟨m,ns m hn,λi x v t e2 e3=>?_⟩;obtain⟨u,r,l⟩:=hl i x v t e2 e3;refine⟨u,r,?_⟩;rcases l with l | ⟨k,c,e,z⟩
  ·exact .inl l
  ·exact .inr ⟨k,c,e,C x c e _ z⟩
 ·obtain⟨v,z⟩:=I.cell x c e
  grind
 ·obtain⟨m,⟨o,_,_,E,_⟩,_⟩:=I.loc
  exact f _ o (λz=>(y _ z).2.1 rfl) E I.free
 ·refine cz (I.cell x c e) λv o E U=>?_
  exact f c o (by grind) E (I.g_ x c e)
 ·refine kc (I.pin p hp) λe n ne nf d=>?_
  grind
theorem Inv.un{t':Nat}(I:Inv X pins σ H s)(u:Un X.fs [] H H' s.heap h')(c:de X.prog X.w H' h'):Inv X pins σ H' { s with heap:=h',toks:=t' }:=by
 obtain⟨m,⟨o,es,q,h,r⟩,_⟩:=id I.loc;obtain⟨t,j⟩:=u.any h I.free (by simp)
 exact I.step (g':=s.gens) (d':=s.drawn) (ch:=[]) (λ_ z=>nomatch z) (λb o _ d _ e n=>u.keep b o e n d (by simp)) (λb o _ d _ e n=>u.slot b o e n d (by simp)) (λb o _ e n=>u.free b o e n (by simp)) (λb o _ e=>u.there b o e (by simp)) u.k6 u.iT u.kg (λv i=>by
  refine k5 i λx f g a p=>?_;clear i
  rw[h]at a;cases a
  exact⟨_,f,g,j,p⟩) c I.bare
theorem Inv.call{g':Array z5}{t':Nat}{d':Drawn}{ch:List Addr}(I:Inv X pins σ H s)(u:Un (jf X.stack) ch H H' s.heap h')(g:de X.prog X.w H' h')(v:mN g')
  (d:∀b∈ch,(b∈X.ex\/X.dC.heap.objs.size<=b)/\b≠X.env.locals/\(∀x c,X.env.cells.lookup x=some c->c≠b)/\∀p∈X.pn++pins,p.1≠b):
  Inv X pins σ H' { s with heap:=h',gens:=g',drawn:=d',toks:=t' }:=by
 obtain⟨m,⟨o,es,B,q,r⟩,_⟩:=id I.loc
 obtain⟨C,h⟩:=u.any q I.free λz=>(d _ z).2.1 rfl
 exact I.step (ch:=ch) d (λb o h y a e n=>u.keep b o e n (λz=>(a9.mp (I.sU b z)).elim h y) a) (λb o _ _ a e n=>u.any e n a) (λb o a e n=>u.free b o e n a) (λb o a e=>u.there b o e a) u.k6 u.iT u.kg (λE t=>by
  refine k5 t λG i j f A=>?_;clear t
  rw[q]at f;cases f
  exact⟨_,i,j,h,A⟩) g v
theorem Inv.turned{t':Nat}{a:Addr}(I:Inv X pins σ H s)(k:∀b o,b≠a->s.heap.get? b=some o->h'.get? b=some o)(hn:H a=none)(g:a≠X.env.locals)
  (t:a∈X.ex\/X.dC.heap.objs.size<=a) (w:∀x c,X.env.cells.lookup x=some c->c≠a) (y:∀p∈X.pn++pins,p.1≠a):Inv X pins σ H { s with heap:=h',toks:=t' }:=by
 have h:∀b u,H b=some u->b≠a:=(by grind)
 refine I.step (g':=s.gens) (d':=s.drawn) (ch:=[a]) (λb A=>?_) (λb o _ _ d e _=>k b o (λz=>d (by simp[z])) e) (λb o _ _ d e _=>⟨o.slots,k b o (λz=>d (by simp[z])) e⟩) (λ_ _ _ _ n=>n)
  (λb o d e=>⟨o,k b o (λz=>d (by simp[z])) e⟩) (λ_ _ e=>e) (λ_ _ _ e=>e) (λb ps e=>⟨#[],by rw[e];simp⟩) (λm f=>?_) (λb u e=>?_) I.bare
 ·grind
 ·refine k5 f λo es i j r=>?_;clear f
  exact⟨o,es,i,k _ o (cn g) j,r⟩
 ·refine(I.aR b u e).kf (λc v d q=>k c v ?_ q) (λ_ q=>q) λ_ _ q=>q
  grind
theorem Inv.tok(I:Inv X pins σ H s)(t:Nat):Inv X pins σ H { s with toks:=t }:=I.un (h':=s.heap) (t':=t) Un.refl I.aR
theorem Inv.kept{t':Nat}(I:Inv X pins σ H s)(k:∀b u,s.heap.get? b=some u->h'.get? b=some u):Inv X pins σ H { s with heap:=h',toks:=t' }:=I.un (Un.kept k) (I.aR.kept k)
theorem Inv.laid{t':Nat}(I:Inv X pins σ H s)(k:∀b u,s.heap.get? b=some u->h'.get? b=some u)(c:s.heap.objs.size<=a)(new:dB X.prog X.w (upd H a o) h' a o):
  Inv X pins σ (upd H a o) { s with heap:=h',toks:=t' }:=I.un (Un.laid k c (I.aR.fresh c)) (I.aR.laid k c new)
theorem Inv.write{t':Nat}(I:Inv X pins σ H s)(c:qI (H x))(d:e=x\/H e=some (.own x))(k:∀b u,b≠e->s.heap.get? b=some u->h'.get? b=some u)(a:∃u,h'.get? e=some u)(new:dB X.prog X.w (upd H x o) h' x o):Inv X pins σ (upd H x o) { s with heap:=h',toks:=t' }:=I.un (Un.write c d k a) (I.aR.write c d k a new)
theorem Inv.sV(I:Inv X pins σ H s)(h:∀p∈a,s.heap.get? p.1=some p.2/\H p.1=none/\p.1≠X.env.locals/\p.1∉X.fs/\∀v,p.2.data≠ .cell v):Inv X a σ H s:=
 ⟨I.ok,I.os,I.bare,I.base,I.loc,I.cell,I.free,I.g_,λp b=>(bW.mp b).elim (λz=>I.pin p (gK _ z)) (h p),I.aR,I.len⟩
theorem A9{N:List Str}(c:N.Nodup){i j:Nat}(a:N[i]?=some x)(b:N[j]?=some x):i=j:=by
 grind[List.getElem_inj]
theorem A_{i:Nat}(I:Inv X pins σ H s)(hN:X.N.Nodup)(Y:X.N[i]?=some x)(B:Loc X.env.scope x)(r:RelV v u)(h:∀s',Inv X pins (σ.set i (some v)) H s'->(∃a,lV a s.heap s'.heap/\(a=X.env.locals\/X.env.cells.lookup x=some a))->Q () s')(hf:X.fn x=true\/X.env.scope.names.lookup x=some .local:=by first | exact .inl rfl | exact .inr rfl | assumption):wpAny M A (storeName X.env x u) Q E s:=by
 obtain⟨m,hn,hl⟩:=id I.loc
 have U:(X.env.scope.kind== .class||(X.env.scope.kind== .module&&X.env.locals != X.env.globals))=false:=by rw[I.ok.kind];rfl
 have J:i<σ.length:=by rw[I.len];exact(cA.mp Y).1
 have mZ:=I.mZ
 have g:∀{a:Addr}{h':Heap},(∃o,s.heap.get? a=some o/\H a=none)->lV a s.heap h'->de X.prog X.w H h':=λ{a h'} ha f b ob e=>by
  obtain⟨_,_,Zsn⟩:=ha
  refine(I.aR b ob e).kf (λc w' C q=>(f.2 c ?_).trans q) (λ_ q=>q) λ_ _ q=>q
  grind
 rcases B with hk | hk
 ·refine wpAny_storeName_local hk hn (λh' JU f=>?_) U
  refine k5 (id hn) λoL _ _ JV _=>?_
  refine h _ ⟨I.ok,I.os,I.bare,⟨λb o e n L B=>?_,λb o e n L B=>?_,I.base.free,λb o e B=>?_,I.base.k6,I.base.iT,I.base.kg⟩,⟨_,JU,λj y v' t G e3=>?_⟩,λy c e=>?_,I.free,I.g_,λp hp=>?_,g ⟨oL,JV,I.free⟩ f,by simpa using I.len⟩ ⟨_,f,.inl rfl⟩
  ·exact(f.2 b (bO (iB (bh e) I.ok.above))).trans (I.base.keep b o e n L B)
  ·obtain⟨sl,t⟩:=I.base.slot b o e n L B
   exact⟨sl,(f.2 b (bO (iB (bh e) I.ok.above))).trans t⟩
  ·obtain⟨o',t⟩:=I.base.there b o e B
   exact⟨o',(f.2 b (bO (iB (bh e) I.ok.above))).trans t⟩
  ·by_cases T:j=i
   ·subst T
    rw[Y]at t;cases t
    rw[i_ J]at G;cases G;exact⟨u,r,.inl ⟨hk,by simp⟩⟩
   ·rw[dQ (cn T)]at G
    obtain⟨u',r',q⟩:=hl j y v' t G e3;refine⟨u',r',?_⟩;rcases q with⟨k,e⟩ | ⟨k,c,e,z⟩
    ·refine .inl ⟨k,?_⟩
     grind[A9]
    ·exact .inr ⟨k,c,e,z.sameBut f (mZ y c e)⟩
  ·obtain⟨w',z⟩:=I.cell y c e
   exact⟨w',z.sameBut f (mZ y c e)⟩
  ·refine kc (I.pin p hp) λe n ne nf d=>?_
   exact⟨(f.2 p.1 ne).trans e,n,ne,nf,d⟩
 ·have O:X.fn x=true:=by
   rcases hf with z | z
   ·exact z
   ·simp_all
  obtain⟨c,C⟩:=I.ok.has x (.inl hk);obtain⟨w',z⟩:=I.cell x c C;refine wpAny_storeName_cell I.ok.kind hk C z (λh' wx f=>?_);obtain⟨oc,JX,Zso⟩:=id z;refine h { s with heap:=h' } ⟨I.ok,I.os,I.bare,⟨λb o e n L B=>?_,λb o e n L B=>?_,I.base.free,λb o e B=>?_,I.base.k6,I.base.iT,I.base.kg⟩,⟨m,hn.sameBut f (cn (mZ x c C)),λj y v' t G e3=>?_⟩,λy c' e=>?_,I.free,I.g_,λp hp=>?_,g ⟨oc,JX,I.g_ x c C⟩ f,by simpa using I.len⟩ ⟨c,f,.inr C⟩
  ·exact(f.2 b (bO (iB (bh e) (I.ok.qJ x c O C)))).trans (I.base.keep b o e n L B)
  ·obtain⟨sl,t⟩:=I.base.slot b o e n L B
   exact⟨sl,(f.2 b (bO (iB (bh e) (I.ok.qJ x c O C)))).trans t⟩
  ·obtain⟨o',t⟩:=I.base.there b o e B
   exact⟨o',(f.2 b (bO (iB (bh e) (I.ok.qJ x c O C)))).trans t⟩
  ·by_cases T:j=i
   ·subst T
    rw[Y]at t;cases t
    rw[i_ J]at G;cases G;exact⟨u,r,.inr ⟨.inl hk,c,C,wx⟩⟩
   ·rw[dQ (cn T)]at G
    obtain⟨u',r',q⟩:=hl j y v' t G e3;refine⟨u',r',?_⟩;rcases q with q | ⟨k,c',e,z'⟩
    ·exact .inl q
    ·refine .inr ⟨k,c',e,z'.sameBut f ?_⟩
     rintro rfl
     exact T (A9 hN t (I.ok.inj _ _ _ e C▸Y))
  ·by_cases sW:c'=c
   ·grind
   ·obtain⟨w2,z2⟩:=I.cell y c' e
    exact⟨w2,z2.sameBut f sW⟩
  ·refine kc (I.pin p hp) λe n ne nf d=>?_
   refine⟨(f.2 p.1 ?_).trans e,n,ne,nf,d⟩
   grind
theorem wy{i:Nat}(I:Inv X pins σ H s)(b:X.N.Nodup)(c:X.N[i]?=some x)(d:Loc X.env.scope x)(r:RelV v u)(h:∀a,Inv X pins (σ.set i (some v)) H a->Q () a)(e:X.fn x=true\/X.env.scope.names.lookup x=some .local:=by first | exact .inl rfl | exact .inr rfl | assumption):wpAny M A (storeName X.env x u) Q E s:=
 A_ I b c d r (λa f _=>h a f) e
theorem Inv.JY{a:ao}(I:Inv X pins σ H s)(g:a.os=s.os)(u:Un (jf X.stack) ch H H' s.heap a.heap)(d:de X.prog X.w H' a.heap)(h:mN a.gens)(f:∀b∈ch,(b∈X.ex\/X.dC.heap.objs.size<=b)/\b≠X.env.locals/\(∀x c,X.env.cells.lookup x=some c->c≠b)/\∀p∈X.pn++pins,p.1≠b):Inv X pins σ H' a:=by
 obtain⟨h',g',d',t',i⟩:=a
 have e:i=s.os:=g
 subst e;exact I.call (g':=g') (t':=t') (d':=d') u d h f
end
noncomputable abbrev XK:=Value->Option Addr->Hp->Prop
noncomputable abbrev St:=List (Option V)
noncomputable abbrev VK:=V->Hp->Prop
noncomputable abbrev TE:=St->Hp->VK->Prop
noncomputable abbrev TT:=St->Hp->(Bool->Hp->Prop)->Prop
noncomputable abbrev TA:=St->Hp->(List V->Hp->Prop)->Prop
structure Ends where
 nx:St->Hp->Prop
 rt:VK
 bk:St->Hp->Prop:=λ_ _=>False
 ct:St->Hp->Prop:=λ_ _=>False
noncomputable abbrev TS:=Ends->St->Hp->Prop
def EP(X:Cx)(a:List (Addr × Obj))(b:St)(Q:VK)(u:Value)(c:ao):Prop:=∃v H',Inv X a b H' c/\RelV v u/\Q v H'
def TP(X:Cx)(a:List (Addr × Obj))(c:St)(Q:Bool->Hp->Prop)(b:Bool)(d:ao):Prop:=∃H',Inv X a c H' d/\Q b H'
def AP(X:Cx)(a:List (Addr × Obj))(b:St)(Q:List V->Hp->Prop)(us:List Value)(c:ao):Prop:=∃vs H',Inv X a b H' c/\Vals vs us/\Q vs H'
def SP(X:Cx)(b:List (Addr × Obj))(D:Ends)(f:Flow)(c:ao):Prop:=
 match f with
 | .next=>∃a H',Inv X b a H' c/\D.nx a H'
 | .brk=>∃a H',Inv X b a H' c/\D.bk a H'
 | .cont=>∃a H',Inv X b a H' c/\D.ct a H'
 | .ret u=>∃v a H',Inv X b a H' c/\RelV v u/\D.rt v H'
def PE(X:Cx)(e:Expr)(t:TE):Prop:=
 ∀(a:List (Addr × Obj))(s:ao)(b:St)(H:Hp)(Q:VK),Inv X a b H s->t b H Q->wpAny (model X.prog X.w) X.A (eval e X.env) (EP X a b Q) X.xe s
def PT(X:Cx)(e:Expr)(t:TT):Prop:=
 ∀(a:List (Addr × Obj))(s:ao)(b:St)(H:Hp)(Q:Bool->Hp->Prop),Inv X a b H s->t b H Q->wpAny (model X.prog X.w) X.A (isTrue e X.env (eval e X.env)) (TP X a b Q) X.xe s
def PW(X:Cx)(e:Expr)(t:TT):Prop:=
 ∀(b:Sem Value)(a:List (Addr × Obj))(s:ao)(c:St)(H:Hp)(Q:Bool->Hp->Prop),Inv X a c H s->t c H Q->wpAny (model X.prog X.w) X.A (isTrue e X.env b) (TP X a c Q) X.xe s
theorem PW.pt(h:PW X e t):PT X e t:=h _
def PA(X:Cx)(es:List Expr)(t:TA):Prop:=
 ∀(b:Pos)(a:List (Addr × Obj))(s:ao)(c:St)(H:Hp)(Q:List V->Hp->Prop),Inv X a c H s->t c H Q->wpAny (model X.prog X.w) X.A (vM (g7 b (bq es X.env))) (AP X a c Q) X.xe s
def PS(X:Cx)(st:Stmt)(t:TS):Prop:=
 ∀(a:List (Addr × Obj))(s:ao)(b:St)(H:Hp)(D:Ends),Inv X a b H s->t D b H->wpAny (model X.prog X.w) X.A (exec st X.env) (SP X a D) X.xe s
def gd(X:Cx)(st:List Stmt)(t:TS):Prop:=
 ∀(a:List (Addr × Obj))(s:ao)(b:St)(H:Hp)(D:Ends),Inv X a b H s->t D b H->wpAny (model X.prog X.w) X.A (execs st X.env) (SP X a D) X.xe s
theorem aK{b:Type}{t:Sem b}{Q c:b->ao->Prop}{M:Model}{A:a8}{E:Value->ao->Prop}{s:ao}(h:wpAny M A t Q E s)(d:∀a s,Q a s->c a s):wpAny M A t c E s:=kU h d λ_ _ x=>x
section
variable {X:Cx}
noncomputable def Ba(i:Nat):TE:=λa H Q=>∃v,a[i]?=some (some v)/\Q v H
noncomputable def tC(v:V):TE:=λ_ H Q=>Q v H
theorem iU{i:Nat}(n:X.N[i]?=some x)(p:eN X.env.scope x)(f:(x==("__debug__":Str))=false:=by decide)(g:(x==("__classdict__":Str))=false:=by decide):PE X (.Name x q) (Ba i):=by
 intro d s t H Q I h;obtain⟨v,e,h⟩:=h;obtain⟨m,hn,w⟩:=I.loc;obtain⟨u,r,l⟩:=w i x v n e p
 have b:EP X d t Q u s:=⟨v,H,I,r,h⟩
 rcases l with⟨hk,y⟩ | ⟨hk,c,j,a⟩
 ·exact H9 (Yk I.ok.kind hk hn y b) f
 ·rcases hk with hk | hk
  ·exact H9 (Yl I.ok.kind hk j a b) f
  ·exact H9 (wpAny_loadName_free I.ok.kind hk j a b g) f
theorem JZ:PE X (.Constant (.int i) j a) (tC (.int i)):=λ_ _ _ H _ I h=>wpAny_Constant_int ⟨.int i,H,I.tok _,⟨_,rfl⟩,h⟩
theorem J0:PE X (.Constant (.bool b) j a) (tC (.bl b)):=λ_ _ _ H _ I h=>Constant_bool ⟨.bl b,H,I,rfl,h⟩
theorem J2:PE X (.Constant .none j a) (tC .ay):=λ_ _ _ H _ I h=>Constant_none ⟨.ay,H,I,rfl,h⟩
theorem J4:PE X (.Constant (.str x) j a) (tC (.str x)):=λ_ _ _ H _ I h=>Calls.Constant_str ⟨.str x,H,I.tok _,⟨_,rfl⟩,h⟩
def Gl(X:Cx)(x:Str):Prop:=X.env.kindOf x=some .globalImplicit
theorem Bb(I:Inv X a f H s)(b:Gl X x)(c:X.mg x=some u)(h:Q u s)(d:(x==("__debug__":Str))=false:=by decide):wpAny (model X.prog X.w) X.A (eval (.Name x e) X.env) Q E s:=
 Ym I.ok.kind b (Calls.loadGlobal_global (by rw[I.ok.glob];exact I.mod.glob.keeps I.bk) c h) d
theorem jG(I:Inv X a j H s)(b:Gl X x)(c:X.mg x=none)(d:et x=some u)(h:Q u s)(hn:x≠"__name__":=by decide)(e:(x==("__debug__":Str))=false:=by decide):wpAny (model X.prog X.w) X.A (eval (.Name x f) X.env) Q E s:=by
 obtain⟨m,g,i⟩:=I.mod.blt;exact Ym I.ok.kind b (Calls.loadGlobal_builtin (by rw[I.ok.glob];exact I.mod.glob.keeps I.bk) c (by rw[I.ok.blt];exact g.keeps I.bk) ((i x hn).trans d) h) e
theorem J5(a:Gl X x)(b:X.mg x=some u)(r:RelV v u)(c:(x==("__debug__":Str))=false:=by decide):PE X (.Name x d) (tC v):=
 λ_ _ _ H _ I h=>Bb I a b ⟨v,H,I,r,h⟩ c
theorem J6(a:Gl X x)(b:X.mg x=none)(c:et x=some u)(r:RelV v u)(hn:x≠"__name__":=by decide)(d:(x==("__debug__":Str))=false:=by decide):PE X (.Name x e) (tC v):=
 λ_ _ _ H _ I h=>jG I a b c ⟨v,H,I,r,h⟩ hn d
variable {a b:Expr}{ta tb:TE}{pos:Pos}
noncomputable def tB(t:TE):TT:=λd H Q=>t d H λx e=>∃c,x=.bl c/\Q c e
theorem J7{e:Expr}(h:PE X e t)(g:∀c,isTrue e X.env c=(do let v<-c;standAt e.pos;holding [v] (truthy v)):=by intro _;rfl):PT X e (tB t):=by
 intro f s i H Q I hw;refine isTrue_plain (aK (h f s i H _ I hw) λv u j=>?_) (g _);obtain⟨x,m,n,p,r⟩:=j;obtain⟨d,rfl,q⟩:=r;cases p;exact wpAny_truthy_bool ⟨m,n,q⟩
variable {tA sX:TT}{rest:List Expr}
noncomputable def J8(t u:TT):TT:=λd H Q=>t d H λc e=>if c=true then u d e Q else Q false e
noncomputable def J9(t u:TT):TT:=λd H Q=>t d H λc e=>if c=true then Q true e else u d e Q
noncomputable def J_(t:TT):TT:=λd H Q=>t d H λc e=>Q (!c) e
theorem Ka(f:PT X a tA):PW X (.BoolOp .And [a] pos) tA:=by
 intro i d s g H Q I h;refine isTrue_and (aK (f d s g H Q I h) λc j e=>?_)
 grind[isTrue_and_nil]
theorem Kb(f:PT X a tA):PW X (.BoolOp .Or [a] pos) tA:=by
 intro i d s g H Q I h;refine isTrue_or (aK (f d s g H Q I h) λc j e=>?_)
 grind[isTrue_or_nil]
theorem Kc(j:PT X a tA)(m:PW X (.BoolOp .And (b::rest) pos) sX):PW X (.BoolOp .And (a::b::rest) pos) (J8 tA sX):=by
 intro n d s e H Q I h;refine isTrue_and (aK (j d s e H _ I h) λc p q=>?_);obtain⟨f,g,i⟩:=q
 cases c with
 | true=>exact m n d p e f Q g i
 | false=>exact⟨f,g,i⟩
theorem Ke(j:PT X a tA)(m:PW X (.BoolOp .Or (b::rest) pos) sX):PW X (.BoolOp .Or (a::b::rest) pos) (J9 tA sX):=by
 intro n d s e H Q I h;refine isTrue_or (aK (j d s e H _ I h) λc p q=>?_);obtain⟨f,g,i⟩:=q
 cases c with
 | true=>exact⟨f,g,i⟩
 | false=>exact m n d p e f Q g i
theorem Kf(e:PT X a tA):PT X (.UnaryOp .Not a pos) (J_ tA):=by
 intro d s f H Q I h;exact isTrue_not (e d s f H (λc g=>Q (!c) g) I h)
noncomputable def Kg(ta tb:TE):TE:=λd H Q=>ta d H λx e=>∃c,x=.bl c/\if c=true then tb d e Q else Q (.bl false) e
noncomputable def Kh(ta tb:TE):TE:=λd H Q=>ta d H λx e=>∃c,x=.bl c/\if c=true then Q (.bl true) e else tb d e Q
noncomputable def Ki(ta:TE):TE:=λd H Q=>ta d H λx e=>∃c,x=.bl c/\Q (.bl (!c)) e
theorem Kj(h:PE X a t):PE X (.BoolOp e [a] pos) t:=λc s d H Q I hw=>BoolOp_one (h c s d H Q I hw)
theorem Kk(j:PE X a ta)(m:PE X (.BoolOp .And (b::rest) pos) tb):PE X (.BoolOp .And (a::b::rest) pos) (Kg ta tb):=by
 intro d s f H Q I h;refine BoolOp_and (aK (j d s f H _ I h) λv n p=>?_);obtain⟨x,g,i,q,e⟩:=p;obtain⟨c,rfl,e⟩:=e;cases q;refine wpAny_truthy_bool ?_
 cases c with
 | true=>exact m d n f g Q i e
 | false=>exact⟨.bl false,g,i,rfl,e⟩
theorem Kl(j:PE X a ta)(m:PE X (.BoolOp .Or (b::rest) pos) tb):PE X (.BoolOp .Or (a::b::rest) pos) (Kh ta tb):=by
 intro d s f H Q I h;refine BoolOp_or (aK (j d s f H _ I h) λv n p=>?_);obtain⟨x,g,i,q,e⟩:=p;obtain⟨c,rfl,e⟩:=e;cases q;refine wpAny_truthy_bool ?_
 cases c with
 | false=>exact m d n f g Q i e
 | true=>exact⟨.bl true,g,i,rfl,e⟩
theorem Km(f:PE X a ta):PE X (.UnaryOp .Not a pos) (Ki ta):=by
 intro d s g H Q I h;refine UnaryOp_ (aK (f d s g H _ I h) λv p i=>?_);obtain⟨x,j,m,n,e⟩:=i;obtain⟨c,rfl,e⟩:=e;cases n;exact not_of (wpAny_truthy_bool ⟨.bl (!c),j,m,rfl,e⟩)
end
def b8(K:aw)(H:Hp)(a:Addr)(xs:List V):Prop:=
 Rd H a (.lst xs)∨
  ∃(o:Obj)(b:Array Value)(n:Nat),K.lookup a=some o/\o.cls=.type "list"/\o.dict=none/\o.data=.seq b n/\b.size<=aB/\Vals xs b.toList
def cx(K:aw)(H:Hp)(a:Addr)(xs:List V):Prop:=
 H a=some (.tup xs)∨
  ∃(o:Obj)(b:Array Value)(n:Nat),K.lookup a=some o/\o.cls=.type "tuple"/\o.data=.seq b n/\b.size<=aB/\Vals xs b.toList
noncomputable def Ko:Value->Option V
 | .none=>some .ay
 | .bool b=>some (.bl b)
 | .int i _=>some (.int i)
 | .str x _=>some (.str x)
 | .bytes b _=>some (.qG b)
 | .float b _=>some (.wo b)
 | .ref a=>some (.ref a)
 | .type n=>some (.ty n)
 | _=>none
theorem RelV.abs(r:RelV x u):Ko u=some x:=by
 cases x with
 | ay=>cases r;rfl
 | bl _=>cases r;rfl
 | int _=>obtain⟨t,rfl⟩:=r;rfl
 | str _=>obtain⟨t,rfl⟩:=r;rfl
 | qG _=>obtain⟨t,rfl⟩:=r;rfl
 | wo _=>obtain⟨t,rfl⟩:=r;rfl
 | ref _=>cases r;rfl
 | ty _=>cases r;rfl
theorem RelV.inj(r:RelV x u)(q:RelV y u):x=y:=gr (r.abs.symm.trans q.abs)
theorem Vals.inj{xs:List V}:∀{ys:List V}{us:List Value},Vals xs us->Vals ys us->xs=ys:=by
 induction xs with
 | nil=>intro ys us h h';cases h;cases h';rfl
 | cons x xs a=>
  intro ys us h h'
  cases h with
  | cons r t=>
   cases h' with
   | cons b t'=>rw[r.inj b,a t t']
section
variable {X:Cx}{pins:List (Addr × Obj)}{σ:St}{H:Hp}{s:ao}{a:Addr}{xs ys:List V}
theorem b8.of{K:aw}(h:H a=some (.lst xs)):b8 K H a xs:=.inl (.inl h)
theorem cx.of{K:aw}(h:H a=some (.tup xs)):cx K H a xs:=.inl h
theorem Inv.list(I:Inv X pins σ H s)(h:b8 X.K H a xs):∃b:List Value,Vals xs b/\PlainL s.heap a b.toArray/\xs.length<=aB:=by
 rcases h with h | ⟨o,b,n,d,f,g,i,hz,r⟩
 ·refine bX (h.ok I.aR) λz c=>cz c λb n r e=>?_;clear c
  exact⟨b,r,⟨_,n,e,rfl,rfl,rfl⟩,z⟩
 ·refine⟨b.toList,r,⟨o,n,I.hD a o d,f,g,by omega⟩,?_⟩
  have e:=r.length
  simp_all
theorem Inv.tuple(I:Inv X pins σ H s)(h:cx X.K H a xs):∃b:List Value,Vals xs b/\IsTup s.heap a b.toArray/\xs.length<=aB:=by
 rcases h with h | ⟨o,b,n,d,f,g,hz,r⟩
 ·refine bX (I.aR _ _ h) λz c=>b5 c λb r p=>?_;clear c
  grind
 ·refine⟨b.toList,r,⟨o,I.hD a o d,f,n,by omega⟩,?_⟩
  have e:=r.length
  simp_all
theorem Inv.Bc(I:Inv X pins σ H s)(h:b8 X.K H a xs)(h':b8 X.K H a ys):xs=ys:=by
 obtain⟨b,r,⟨o,n,e,_,_,d⟩,_⟩:=I.list h;obtain⟨its',f,⟨i,j,c,_,_,d'⟩,_⟩:=I.list h'
 rw[e]at c;cases c
 rw[d]at d'
 injection d' with g _
 have:b=its':=by simpa using congrArg Yn g
 subst this;exact r.inj f
theorem Inv.sY(I:Inv X pins σ H s)(h:cx X.K H a xs)(h':cx X.K H a ys):xs=ys:=by
 obtain⟨b,r,⟨o,e,_,n,d⟩,_⟩:=I.tuple h;obtain⟨its',f,⟨i,c,_,j,d'⟩,_⟩:=I.tuple h'
 rw[e]at c;cases c
 rw[d]at d'
 injection d' with g _
 have:b=its':=by simpa using congrArg Yn g
 subst this;exact r.inj f
end
noncomputable abbrev Cx.kh(X:Cx)(E:Value->ao->Prop):Cx:={ X with xe:=E }
noncomputable abbrev Cx.ki(X:Cx):Cx:=X.kh λ_ _=>False
theorem Cx.Ok.kh{X:Cx}(ok:X.Ok)(E:Value->ao->Prop):(X.kh E).Ok:=
 ⟨ok.mod,ok.kind,ok.glob,ok.blt,ok.above,ok.inj,ok.has,ok.qJ,ok.hd,ok.frames,ok.sT,ok.wu,ok.bs,ok.l9,ok.qK,ok.oM,ok.jg,ok.mY⟩
theorem Cx.Ok.l_{X:Cx}(ok:(X.kh E).Ok):X.Ok:=
 ⟨ok.mod,ok.kind,ok.glob,ok.blt,ok.above,ok.inj,ok.has,ok.qJ,ok.hd,ok.frames,ok.sT,ok.wu,ok.bs,ok.l9,ok.qK,ok.oM,ok.jg,ok.mY⟩
section
variable {X:Cx}{pins:List (Addr × Obj)}{σ:St}{H:Hp}{s:ao}{E:Value->ao->Prop}
theorem Inv.kh(I:Inv X pins σ H s)(E:Value->ao->Prop):Inv (X.kh E) pins σ H s:=⟨I.ok.kh E,I.os,I.bare,I.base,I.loc,I.cell,I.free,I.g_,I.pin,I.aR,I.len⟩
theorem Inv.l_(I:Inv (X.kh E) pins σ H s):Inv X pins σ H s:=⟨I.ok.l_,I.os,I.bare,I.base,I.loc,I.cell,I.free,I.g_,I.pin,I.aR,I.len⟩
theorem SP.l_(h:SP (X.kh E) pins D f b):SP X pins D f b:=by
 cases f with
 | next=>refine cz h λa H' I q=>?_;clear h;exact⟨a,H',I.l_,q⟩
 | brk=>refine cz h λa H' I q=>?_;clear h;exact⟨a,H',I.l_,q⟩
 | cont=>refine cz h λa H' I q=>?_;clear h;exact⟨a,H',I.l_,q⟩
 | ret u=>refine ey h λv a H' I r q=>?_;clear h;exact⟨v,a,H',I.l_,r,q⟩
theorem gd.ki{st:List Stmt}{t:TS}(h:gd X.ki st t):gd X st t:=λpins s σ H D I hw=>
 kU (h pins s σ H D (I.kh _) hw) (λ_ _ q=>q.l_) λ_ _ z=>dE z
end
section
variable {X:Cx}{st:Stmt}{rest:List Stmt}{t u:TS}{e:Expr}{te:TE}{pos:Pos}
noncomputable def Kp:TS:=λD a H=>D.nx a H
noncomputable def Kq(t u:TS):TS:=λD a H=>t { D with nx:=u D } a H
theorem Be:gd X [] Kp:=λ_ _ a H _ I h=>z6 ⟨a,H,I,h⟩
theorem wz(c:PS X st t)(d:gd X rest u):gd X (st::rest) (Kq t u):=by
 intro a s g H D I h;refine wpAny_execs_cons (aK (c a s g H { D with nx:=u D } I h) λf i q=>?_)
 cases f with
 | next=>
  refine cz q λb H' j q=>?_
  exact d a i b H' D j q
 | ret v=>exact q
 | brk=>exact q
 | cont=>exact q
theorem wA(b:PS X st t):gd X [st] t:=by
 intro a s c H D I h;refine wpAny_execs_cons (aK (b a s c H D I h) λf d q=>?_)
 grind[z6,ret]
theorem Inv.quiet(I:Inv X a b H s):interactive X.env=false:=by simp[interactive,I.ok.kind]
noncomputable def Kr(te:TE):TS:=λD a H=>te a H λ_ b=>D.nx a b
theorem oN(c:PE X e te)(d:gu e none pos.line X.env=pure false:=by rfl):PS X (.Expr e pos) (Kr te):=by
 intro a s b H D I h;exact wpAny_Expr_any (aK (c a s b H _ I h)<|by rintro v j ⟨x,f,g,m,i⟩;exact⟨b,f,g,i⟩) I.quiet d
noncomputable def Kt(te:TE):TS:=λD a H=>te a H D.rt
theorem sZ(c:PE X e te):PS X (.Return (some e) pos) (Kt te):=by
 intro a s b H D I h;exact wpAny_Return_some (aK (c a s b H _ I h)<|by rintro v j ⟨x,d,f,g,i⟩;exact⟨x,b,d,f,g,i⟩)
noncomputable def Ku(c:TT)(t u:TS):TS:=λD a H=>c a H λb d=>if b=true then t D a d else u D a d
theorem wB(p:PT X c q)(r:gd X a t)(v:gd X b u):PS X (.If c a b pos) (Ku q t u):=by
 intro f s g H D I h;refine wpAny_If (aK (p f s g H _ I h) λd i w=>?_);obtain⟨j,m,n⟩:=w
 cases d with
 | true=>exact r f i g j D m n
 | false=>exact v f i g j D m n
end
noncomputable abbrev TG:=V->St->Hp->(St->Hp->Prop)->Prop
noncomputable abbrev m2:=List V->St->Hp->(St->Hp->Prop)->Prop
def PG(X:Cx)(a:Expr)(t:TG):Prop:=
 ∀(b:List (Addr × Obj))(s:ao)(d:St)(H:Hp)(v:V)(u:Value)(Q:St->Hp->Prop),Inv X b d H s->RelV v u->t v d H Q->
  wpAny (model X.prog X.w) X.A (jW a X.env u) (λ_ e=>∃c H',Inv X b c H' e/\Q c H') X.xe s
def oO(X:Cx)(d:List Expr)(t:m2):Prop:=
 ∀(a:List (Addr × Obj))(s:ao)(c:St)(H:Hp)(vs:List V)(us:List Value)(Q:St->Hp->Prop),Inv X a c H s->Vals vs us->t vs c H Q->
  wpAny (model X.prog X.w) X.A (assignInOrder ((f_ d X.env).map (·.2)) us) (λ_ e=>∃b H',Inv X a b H' e/\Q b H') X.xe s
noncomputable abbrev gf:=V->V->V->Hp->(Hp->Prop)->Prop
def Bf(X:Cx)(t:gf):Prop:=
 ∀(a:List (Addr × Obj))(s:ao)(b:St)(H:Hp)(o i v:V)(c d u:Value)(Q:Hp->Prop),Inv X a b H s->RelV o c->RelV i d->RelV v u->t o i v H Q->
  wpAny (model X.prog X.w) X.A (setItem c d u) (λ_ e=>∃H',Inv X a b H' e/\Q H') X.xe s
noncomputable abbrev wC:=V->V->Hp->VK->Prop
def Bg(X:Cx)(c:Operator)(t:wC):Prop:=
 ∀(a:List (Addr × Obj))(s:ao)(b:St)(H:Hp)(x y:V)(v u:Value)(Q:VK),Inv X a b H s->RelV x v->RelV y u->t x y H Q->
  wpAny (model X.prog X.w) X.A (inplaceOp c v u) (EP X a b Q) X.xe s
section
variable {X:Cx}{pos:Pos}
noncomputable def wD(i:Nat):TG:=λv a H Q=>Q (a.set i (some v)) H
theorem Bh{i:Nat}(b:X.N.Nodup)(c:X.N[i]?=some x)(d:Loc X.env.scope x)(e:X.fn x=true\/X.env.scope.names.lookup x=some .local:=by first | exact .inl rfl | exact .inr rfl | assumption):PG X (.Name x pos) (wD i):=by
 intro a s g H v u Q I r h;exact wpAny_assign_Name (wy I b c d r (λj f=>⟨_,H,f,h⟩) e)
noncomputable def Kv:m2:=λvs a H Q=>vs=[]/\Q a H
noncomputable def Kw(t:TG)(u:m2):m2:=λvs b H Q=>∃v r,vs=v::r/\t v b H λa H'=>u r a H' Q
theorem Bi:oO X [] Kv:=by
 intro a s b H vs us Q I r h;obtain⟨e,h⟩:=h;subst e;cases r;exact assignInOrder_nil ⟨b,H,I,h⟩
theorem Bj(c:PG X e t)(d:oO X es u)(f:(f_ (e::es) X.env).map (·.2)=jW e X.env::(f_ es X.env).map (·.2):=by rfl):oO X (e::es) (Kw t u):=by
 intro a s g H vs us Q I r h;obtain⟨v,x,i,h⟩:=h;subst i
 cases r with
 | cons r j=>
  rw[f];refine assignInOrder_cons (aK (c a s g H _ _ _ I r h) λ_ m n=>?_);obtain⟨b,p,q,w⟩:=n;exact d a m b p _ _ Q q j w
noncomputable def Kx(K:aw)(n:Nat)(t:m2):TG:=λv b H Q=>∃a xs,v=.ref a/\cx K H a xs/\xs.length=n/\t xs b H Q
theorem Bl{k:Nat}{n:Nat}(g:X.calm=true)(h:oO X es t)(hn:(f_ es X.env).length=n:=by rfl)(d:(f_ es X.env).findIdx? (·.1)=none:=by rfl):PG X (.Tuple es k pos) (Kx X.K n t):=by
 intro c s f H v u Q I r hw;obtain⟨a,xs,i,j,m,hw⟩:=hw;subst i;cases r;obtain⟨p,q,w,hz⟩:=I.tuple j
 refine assign_Tuple_tuple (I.ok.hd g) w (by simp[hn,<-m,q.length]) d λh' x=>?_
 have y:Inv X c f H { s with heap:=h' }:=I.kept (t':=s.toks) λb o e=>x b o (bO (bh e)) e
 exact h c _ f H xs _ Q y (by omega) hw
noncomputable def Ky(b c:TE)(t:gf):TG:=λv a H Q=>b a H λo d=>c a d λi H2=>t o i v H2 λe=>Q a e
theorem Kz(f:PE X o g)(j:PE X i m)(n:Bf X t)(p:∀v,jW (.Subscript o i pos) X.env v=(do
   let b<-holding [v] (eval o X.env)
   let c<-holding [v,b] (eval i X.env)
   standAt pos
   holding [v,b,c] (setItem b c v)
   release [v,b,c] []):=by intro _;rfl):PG X (.Subscript o i pos) (Ky g m t):=by
 intro a s e H v u Q I r h;rw[p];refine wpAny_bind (wpAny_holding (aK (f a s e H _ I h) λb q d=>?_));obtain⟨x,w,z,A,B⟩:=d;refine wpAny_bind (wpAny_holding (aK (j a q e w _ z B) λc C d=>?_));obtain⟨y,H2,E,G,J⟩:=d;refine wpAny_bind (H_ (wpAny_bind (wpAny_holding (aK (n a C e H2 x y v b c u _ E A G r J) λ_ L d=>?_))))
 obtain⟨M,N,O⟩:=d
 grind[wpAny_release]
noncomputable def wF(b:TE)(g:TG):TS:=λD a H=>b a H λx c=>g x a c D.nx
theorem Bm(d:PE X e f)(i:PG X b g)(j:Ia [b] e pos.line X.env=pure false:=by rfl)(hw:Ib [b] e X.env=pure none:=by rfl)(m:(f_ [b] X.env).map (·.2)=[jW b X.env]:=by rfl):PS X (.Assign [b] e pos) (wF f g):=by
 intro a s c H D I h;refine wpAny_Assign_stores (aK (d a s c H _ I h) λv n p=>?_) j hw;obtain⟨x,r,t,u,w⟩:=p;rw[m]
 exact aK (i a n c r x v _ t u w) λ_ y q=>q
theorem oP{i:Nat}(c:X.N.Nodup)(d:X.N[i]?=some x)(f:Loc X.env.scope x)(g:PE X e j)(m:gu e (some (.Name x a)) pos.line X.env=pure false:=by rfl)(n:X.fn x=true\/X.env.scope.names.lookup x=some .local:=by first | exact .inl rfl | exact .inr rfl | assumption):
  PS X (.Assign [.Name x a] e pos) (wF j (wD i)):=by
 intro b s p H D I h;refine wpAny_Assign_Name (aK (g b s p H _ I h) λv A q=>?_) m;obtain⟨y,r,t,u,w⟩:=q;exact wy t c d f u (λB z=>⟨_,r,z,w⟩) n
noncomputable def KA(i:Nat)(b:TE)(c:wC):TS:=λD a H=>∃x,a[i]?=some (some x)/\b a H λy d=>c x y d λz H2=>D.nx (a.set i (some z)) H2
theorem KC{i:Nat}(C:X.N.Nodup)(p:X.N[i]?=some x)(g:Loc X.env.scope x)(E:PE X e G)(J:Bg X q L)(M:X.fn x=true\/X.env.scope.names.lookup x=some .local:=by first | exact .inl rfl | exact .inr rfl | assumption):
  PS X (.AugAssign (.Name x t) q e pos) (KA i G L):=by
 intro a s B H D I h;obtain⟨v,O,h⟩:=h;obtain⟨m,hn,Q⟩:=I.loc
 have j:eN X.env.scope x:=by rcases g with k | k;exact .inl k;exact .inr (.inl k)
 obtain⟨u,r,l⟩:=Q i x v p O j;refine wpAny_AugAssign_Name ?_
 have go:wpAny (model X.prog X.w) X.A (eval e X.env) (λw d=>wpAny (model X.prog X.w) X.A (inplaceOp q u w) (λr f=>wpAny (model X.prog X.w) X.A (storeName X.env x r) (λ_=>SP X a D .next) X.xe f) X.xe d) X.xe s:=by
  refine aK (E a s B H _ I h) λw T n=>?_
  obtain⟨y,U,Y,r1,q1⟩:=n
  refine aK (J a T B U v y u w _ Y r r1 q1) λz s2 n=>?_
  obtain⟨zv,H2,I2,r2,q2⟩:=n;exact wy I2 C p g r2 (λs3 I3=>⟨_,H2,I3,q2⟩) M
 rcases l with⟨hk,hm⟩ | ⟨hk,c,hc,b⟩
 ·exact Yk I.ok.kind hk hn hm go
 ·rcases hk with hk | hk
  ·exact Yl I.ok.kind hk hc b go
  ·rcases g with k | k
   ·have:X.env.scope.names.lookup x=some .free:=hk
    simp_all
   ·have:X.env.scope.names.lookup x=some .free:=hk
    simp_all
noncomputable def KH(f:Int->Int->Int):wC:=λx y H Q=>∃i j,x=.int i/\y=.int j/\Q (.int (f i j)) H
theorem KI:Bg X .Add (KH λi j=>i+j):=by
 intro a s f H x y v u Q I b c h
 refine cM h λi j d e q=>?_;clear h
 subst d;subst e
 obtain⟨t,rfl⟩:=b;obtain⟨t',rfl⟩:=c;exact iadd_int ⟨.int _,H,I.tok _,⟨_,rfl⟩,q⟩
end
section
variable {X:Cx}{pos:Pos}
noncomputable def KL(c:TT)(g:TS):TS:=λD a H=>∃W:Nat->St->Hp->Prop,(∃m,W m a H)/\∀m a H,W m a H->
 c a H λb e=>if b=true then ∃N:St->Hp->Prop,(∀d H',N d H'->∃f,f<m/\W f d H')/\g { D with nx:=N,ct:=N,bk:=D.nx } a e else D.nx a e
theorem KN(p:PassesOwn (model X.prog X.w) X.A X.env X.xe)(t:PT X c u)(x:gd X body y):PS X (.While c body [] pos) (KL u y):=by
 intro a s z H D I h;obtain⟨W,⟨B,C⟩,g⟩:=h;refine wpAny_While (codeAny_whileLoop (λn E=>∃i H',Inv X a i H' E/\W n i H') ?_ B ⟨z,H,I,C⟩)
 rintro n G ⟨d,q,J,L⟩
 refine qg p (aK (t a G d q _ J (g n d q L)) λb M O=>?_);obtain⟨H2,r,j⟩:=O
 cases b with
 | true=>
  obtain⟨N,U,j⟩:=j;rw[if_pos rfl];refine qg p (aK (x a M d H2 _ r j) λf Y e=>?_)
  cases f with
  | next=>
   refine cz e λm Q T n3=>?_;clear e
   grind
  | cont=>
   refine cz e λm Q T n3=>?_;clear e
   grind
  | brk=>exact e
  | ret v=>exact e
 | false=>
  rw[if_neg bP];exact z6 ⟨d,H2,r,j⟩
end
structure It where
 go:Nat->Hp->Prop
 oQ:Nat->Hp->V->Hp->Prop
 stop:Nat->Hp->Prop
def k8(X:Cx)(a:List (Addr × Obj))(H:Hp)(b:Addr):Prop:=
 H b=none/\b≠X.env.locals/\b∉X.fs/\(b∈X.ex\/X.dC.heap.objs.size<=b)/\(∀x c,X.env.cells.lookup x=some c->c≠b)/\∀p∈X.pn++a,p.1≠b
theorem Inv.m3{s:ao}(I:Inv X a g H s)(d:s.heap.objs.size<=b)(hn:H' b=none):k8 X a H' b:=by
 refine⟨hn,qh (iB I.lt d),I.A7 d,.inr (cj I.sz d),λx c e z=>?_,λp f z=>?_⟩
 ·obtain⟨v,q⟩:=I.cell x c e
  exact absurd (iB q.lt (by simp_all)) (lU _)
 ·exact absurd (iB (bh (I.pin p f).1) (by simp_all)) (lU _)
structure Turn(P:a6)(w:World)(K:aw)(tg:Expr)(J:It)(fp:List Addr)(it:Addr)(tn:Nat->Heap->Prop):Prop where
 mem:it∈fp
 obj:∀i h,tn i h->∀b∈fp,∃o,h.get? b=some o/\∀v,o.data≠ .cell v
 keep:∀i h h',tn i h->(∀b∈fp,∀o,h.get? b=some o->h'.get? b=some o)->tn i h'
 item:∀(X:Cx),X.prog=P->X.w=w->X.K=K->X.calm=true->∀(i:Nat)(pins:List (Addr × Obj))(s:ao)(σ:St)(H:Hp)(E:Value->ao->Prop),Inv X pins σ H s->(∀b∈fp,k8 X pins H b)->tn i s.heap->J.go i H->
  wpAny (model P w) X.A (jX (.ref it)) (λr s1=>∃u,r=some u∧
   wpAny (model P w) X.A (z7 tg (.ref it) u) (λ_ s2=>∃x H',Inv X pins σ H' s2/\RelV x u/\J.oQ i H x H'/\tn (i+1) s2.heap/\∀b∈fp,H' b=none) E s1) E s
 done:∀(X:Cx),X.prog=P->X.w=w->X.K=K->X.calm=true->∀(i:Nat)(pins:List (Addr × Obj))(s:ao)(σ:St)(H:Hp)(E:Value->ao->Prop),Inv X pins σ H s->(∀b∈fp,k8 X pins H b)->tn i s.heap->J.stop i H->
  wpAny (model P w) X.A (jX (.ref it)) (λr s1=>r=none/\Inv X pins σ H s1) E s
 self:∀(A:a8)(i:Nat)(s:ao)(Q:Value->ao->Prop)(E:Value->ao->Prop),tn i s.heap->Q (.ref it) s->wpAny (model P w) A (mO (.ref it)) Q E s
noncomputable abbrev TI:=St->Hp->(It->Hp->Prop)->Prop
def s_(X:Cx)(a:List (Addr × Obj))(h:St)(i:Expr)(R:It->Hp->Prop)(c:Value)(d:ao):Prop:=
 ∃(e:Addr)(f:List Addr)(g:Nat->Heap->Prop)(J:It)(H':Hp),c=.ref e/\Inv X a h H' d/\Turn X.prog X.w X.K i J f e g/\g 0 d.heap/\(∀b∈f,k8 X a H' b)/\R J H'
def PI(X:Cx)(c iter:Expr)(d:TI):Prop:=
 ∀(a:List (Addr × Obj))(s:ao)(b:St)(H:Hp)(R:It->Hp->Prop),Inv X a b H s->d b H R->
  wpAny (model X.prog X.w) X.A (eval iter X.env) (λv e=>wpAny (model X.prog X.w) X.A (mO v) (s_ X a b c R) X.xe e) X.xe s
theorem qL{s:ao}{o:Obj}(b:s.heap.get? c=some o)(d:o.cls=.type n)(e:o.data=.fields vs)(hn:["enumerate","zip","dict_itemiterator","dict_reverseitemiterator","odict_iterator","itertools.zip_longest","itertools.pairwise"].contains n=false)(a:Q () s):wpAny M A (z7 f (.ref c) u) Q E s:=by
  unfold z7
  cases f<;>first
    | exact wpAny_pure a
    | (cases u<;>first
        | exact wpAny_pure a
        | (refine wpAny_bind (wpAny_load b ?_)
           rw[d,e]
           show wpAny M A (if(["enumerate","zip","dict_itemiterator","dict_reverseitemiterator","odict_iterator","itertools.zip_longest","itertools.pairwise"].contains n&&vs[0]?==some (jB _))=true then _ else _) Q E s
           rw[if_neg (by intro h;rw[hn,Bool.false_and]at h;cases h)]
           exact wpAny_pure a))
noncomputable def tf(K:aw)(a:Addr):It:=
 ⟨λi H=>∃xs x,b8 K H a xs/\xs[i]?=some x,λi H x H'=>H'=H/\∀xs,b8 K H a xs->xs[i]?=some x,λi H=>∃xs,b8 K H a xs/\xs.length<=i⟩
noncomputable def ti(K:aw)(a:Addr):It:=
 ⟨λi H=>∃xs x,cx K H a xs/\xs[i]?=some x,λi H x H'=>H'=H/\∀xs,cx K H a xs->xs[i]?=some x,λi H=>∃xs,cx K H a xs/\xs.length<=i⟩
noncomputable def oR(lo:Int)(n:Nat):It:=⟨λi _=>i<n,λi H x H'=>H'=H/\x=.int (lo+i),λi _=>n<=i⟩
theorem KO{P:a6}{w:World}{K:aw}{O:Expr}(a g:Addr):Turn P w K O (tf K a) [g] g (λi h=>h.IsListIter g a i) where
 mem:=by simp
 obj:=λi h st b j=>by
  have e:b=g:=by simpa using j
  subst e
  refine aP st λo e c d=>?_;clear st
  simp_all
 keep:=λi h h' st k=>st.at λo e=>k g (by simp) o e
 item:=by
  intro X t hw v M i f s N H E I n st q;subst t hw v
  refine cz q λxs x r y=>?_;clear q
  refine aP (I.list r) λz A p hz=>?_
  obtain⟨u,hu,Q⟩:=A.get y
  refine g9 (n g (by simp)) λB C T G J L=>?_
  refine wpAny_pyNext_list_item st p.isList (x:=u) (by grind) λh' m U=>?_
  have Y:Inv X f N H { s with heap:=h' }:=I.turned (t':=s.toks) (λb o j e=>(U.2 b j).trans e) B C G J L
  refine aP (id m) λo e c d=>?_
  exact⟨u,rfl,qL (s:={ s with heap:=h' }) e c d (by decide) ⟨x,H,Y,Q,⟨rfl,λys hy=>by rw[I.Bc hy r];exact y⟩,m,λb j=>(n b j).1⟩⟩
 done:=by
  intro X t hw v M i f s N H E I n st q;subst t hw v;obtain⟨xs,r,y⟩:=q
  refine aP (I.list r) λz A p hz=>?_
  refine g9 (n g (by simp)) λB C T G J L=>?_
  have hl:=A.length
  exact wpAny_pyNext_list_end (I.ok.hd M) st p.isList (by simp;lia) λh' eb=>⟨rfl,I.turned (t':=s.toks) (λb o j e=>eb b o j e) B C G J L⟩
 self:=(by grind[st,wpAny_pyIter_listiter])
theorem KP{P:a6}{w:World}{K:aw}{T:Expr}(a g:Addr):Turn P w K T (ti K a) [g] g (λi h=>h.IsTupleIter g a i) where
 mem:=by simp
 obj:=λi h st b j=>by
  have e:b=g:=by simpa using j
  subst e
  refine aP st λo e c d=>?_;clear st
  exact⟨o,e,λv z=>by rw[d]at z;cases z⟩
 keep:=λi h h' st k=>st.at λo e=>k g (by simp) o e
 item:=by
  intro X y hw A O i f s Q H E I q st r;subst y hw A
  refine cz r λxs x t B=>?_;clear r
  refine aP (I.tuple t) λm C p hz=>?_
  obtain⟨u,U,Y⟩:=C.get B
  refine g9 (q g (by simp)) λG J f2 L M N=>?_
  refine wpAny_pyNext_tuple_item st (show s.heap.IsTuple a m.toArray from p) (x:=u) (by simpa using U) λh' n sb=>?_
  have I1:Inv X f Q H { s with heap:=h' }:=I.turned (t':=s.toks) (λb o j e=>(sb.2 b j).trans e) G J L M N
  refine aP (id n) λo e c d=>?_
  exact⟨u,rfl,qL (s:={ s with heap:=h' }) e c d (by decide) ⟨x,H,I1,Y,⟨rfl,λys hy=>by rw[I.sY hy t];exact B⟩,n,λb j=>(q b j).1⟩⟩
 done:=by
  intro X y hw A O i f s Q H E I q st r;subst y hw A;obtain⟨xs,t,B⟩:=r
  refine aP (I.tuple t) λm C p hz=>?_
  refine g9 (q g (by simp)) λG J f2 L M N=>?_
  have hl:=C.length
  exact wpAny_pyNext_tuple_end (I.ok.hd O) st (show s.heap.IsTuple a m.toArray from p) (by simp;omega) λh' eb=>⟨rfl,I.turned (t':=s.toks) (λb o j e=>eb b o j e) G J L M N⟩
 self:=λ_ _ _ _ _ st h=>wpAny_pyIter_tupleiter st h
theorem KQ{P:a6}{w:World}{K:aw}{B:Expr}(c:Addr)(lo:Int)(n:Nat):Turn P w K B (oR lo n) [c] c (λi h=>IsRangeIter h c (lo+(i:Nat)*1) ((n:Int)-(i:Nat)) 1) where
 mem:=by simp
 obj:=(by simp_all)
 keep:=λi h h' st k=>k c (by simp) _ st
 item:=by
  intro X j hw m p i a s A H E I g st q;subst j hw m
  refine g9 (g c (by simp)) λr u C x y z=>?_
  have W:=Walks.range (prog:=X.prog) (w:=X.w) (I.ok.hd p) c lo 1 n
  refine W.item i s _ _ q st λv h' tk G d kk=>?_
  obtain⟨t,rfl⟩:=G
  have J:Inv X a A H { s with heap:=h',toks:=tk }:=I.turned (λb o f e=>kk b o (by simpa using f) e) r u x y z
  refine⟨_,rfl,qL (s:={ s with heap:=h',toks:=tk }) (n:="range_iterator") d rfl rfl (by decide) ⟨.int (lo+i),H,J,⟨t,?_⟩,⟨rfl,rfl⟩,d,λb f=>(g b f).1⟩⟩;rw[Int.mul_one]
 done:=by
  intro X j hw m p i a s A H E I g st q;subst j hw m
  refine g9 (g c (by simp)) λr u C x y z=>?_
  exact wpAny_pyNext_range_end (I.ok.hd p) st (by have:n<=i:=q;lia) λh' L=>⟨rfl,I.turned (t':=s.toks) (λb o f e=>L b o f e) r u x y z⟩
 self:=(by grind[st,wpAny_pyIter_rangeiter])
section
variable {X:Cx}{tg:Expr}
def KR(K:aw)(tl:TE):TI:=λc H R=>tl c H λx b=>∃a,x=.ref a/\(∃xs,b8 K b a xs)/\R (tf K a) b
def KU(K:aw)(tl:TE):TI:=λc H R=>tl c H λx b=>∃a,x=.ref a/\(∃xs,cx K b a xs)/\R (ti K a) b
theorem tj{l:Expr}{tl:TE}(g:PE X l tl):PI X tg l (KR X.K tl):=by
 intro c s i H R I h
 refine aK (g c s i H _ I h) λv d j=>?_
 obtain⟨x,m,f,n,r⟩:=j;obtain⟨a,e,⟨xs,t⟩,q⟩:=r;subst e;cases n
 refine aP (f.list t) λu y p hz=>?_
 refine Ic p.isList ?_;refine⟨d.heap.objs.size,[d.heap.objs.size],_,_,m,rfl,f.kept (t':=d.toks) λb o e=>bx _ e,KO a _,⟨_,cL _ rfl,rfl,rfl⟩,λb w=>?_,q⟩
 have e:b=d.heap.objs.size:=by simpa using w
 subst e;exact f.m3 (a5 _) (f.aR.fresh (a5 _))
theorem Bn{l:Expr}{tl:TE}(i:PE X l tl):PI X tg l (KU X.K tl):=by
 intro c s j H R I h
 refine aK (i c s j H _ I h) λv d m=>?_
 obtain⟨x,n,f,r,t⟩:=m;obtain⟨a,e,⟨xs,u⟩,q⟩:=t;subst e;cases r
 refine aP (f.tuple u) λg y p hz=>?_
 refine Ie (show d.heap.IsTuple a g.toArray from p) ?_;refine⟨d.heap.objs.size,[d.heap.objs.size],_,_,n,rfl,f.kept (t':=d.toks) λb o e=>bx _ e,KP a _,⟨_,cL _ rfl,rfl,rfl⟩,λb w=>?_,q⟩
 have e:b=d.heap.objs.size:=by simpa using w
 subst e;exact f.m3 (a5 _) (f.aR.fresh (a5 _))
theorem Bo{s:ao}{lo a:Int}{tk:Nat}(I:Inv X c f H s)(g: -(2 ^ 62)<=lo)(h:lo<2 ^ 62)(i: -(2 ^ 62)<=a)(j:a<2 ^ 62)(q:R (oR lo (a-lo).toNat) H):wpAny (model X.prog X.w) X.A (mO (.ref s.heap.objs.size)) (s_ X c f tg R) E { s with heap:=s.heap.push { cls:=.type "range",data:=.fields #[.int lo t,.int a u,.int 1 v] },toks:=tk }:=by
 refine wpAny_pyIter_range (IsRange.new ..) (small_one g h i j) ?_
 have d:Inv X c f H { s with heap:=s.heap.push { cls:=.type "range",data:=.fields #[.int lo t,.int a u,.int 1 v] },toks:=tk }:=I.kept λb o e=>bx _ e
 refine⟨(s.heap.push { cls:=.type "range",data:=.fields #[.int lo t,.int a u,.int 1 v] }).objs.size,[(s.heap.push { cls:=.type "range",data:=.fields #[.int lo t,.int a u,.int 1 v] }).objs.size],_,_,H,rfl,
  d.kept (t':=tk) λb o e=>bx _ e,KQ _ lo (a-lo).toNat,?_,λb m=>?_,q⟩
 ·have n:lo+((0:Nat):Int)*1=lo:=by simp
  have p:(((a-lo).toNat:Nat):Int)-((0:Nat):Int)=Zsu lo a 1:=by rw[rangeSize_one];split<;>lia
  show IsRangeIter _ _ (lo+((0:Nat):Int)*1) ((((a-lo).toNat:Nat):Int)-((0:Nat):Int)) 1
  rw[n,p];exact cL _ rfl
 ·have e:b=(s.heap.push { cls:=.type "range",data:=.fields #[.int lo t,.int a u,.int 1 v] }).objs.size:=by simpa using m
  subst e;exact d.m3 (a5 _) (d.aR.fresh (a5 _))
def KY(a:TA):TI:=λb H R=>a b H λvs c=>∃j:Int,vs=[.int j]/\ -(2 ^ 62)<=j/\j<2 ^ 62/\R (oR 0 j.toNat) c
def KZ(a:TA):TI:=λb H R=>a b H λvs c=>∃i j:Int,vs=[.int i,.int j]/\(-(2 ^ 62)<=i/\i<2 ^ 62/\ -(2 ^ 62)<=j/\j<2 ^ 62)/\R (oR i (j-i).toNat) c
theorem Bp(f:Gl X "range")(g:X.mg "range"=none)(i:PA X [a] m)(n:bq [a] X.env=[(false,eval a X.env)]:=by rfl):PI X tg (.Call (.Name "range" p) [a] [] c) (KY m):=by
 intro b s u H R I h;refine Call_ (jG I f g boot_range (oa (aK (i c b s u H _ I h) λus A v=>?_) n rfl));obtain⟨vs,B,w,x,d⟩:=v;obtain⟨j,e,d,y,q⟩:=d;subst e
 cases x with
 | cons r z=>
  cases z;obtain⟨t,rfl⟩:=r;exact call_range_1 (Bo w (by lia) (by lia) d y (by simpa using q))
theorem K0(n:Gl X "range")(u:X.mg "range"=none)(v:PA X [a,b] w)(x:bq [a,b] X.env=[(false,eval a X.env),(false,eval b X.env)]:=by rfl)(c:bq [b] X.env=[(false,eval b X.env)]:=by rfl):
  PI X tg (.Call (.Name "range" p) [a,b] [] f) (KZ w):=by
 intro d s y H R I h;refine Call_ (jG I n u boot_range (oa (aK (v f d s y H _ I h) λus L z=>?_) (by rw[x,c]) (by rw[c];rfl)));obtain⟨vs,M,A,B,g⟩:=z;obtain⟨i,j,e,⟨g,C,E,G⟩,q⟩:=g;subst e
 cases B with
 | cons r m=>
  cases m with
  | cons J m=>
   cases m;obtain⟨t,rfl⟩:=r;obtain⟨t',rfl⟩:=J;exact call_range_2 (Bo A g C E G q)
noncomputable def K1(e:TI)(g:TG)(f:TS):TS:=λD a H=>e a H λJ h=>∃W:Nat->Nat->St->Hp->Prop,(∃m,W 0 m a h)/\∀i m a H,W i m a H->
 (J.stop i H/\D.nx a H)\/(J.go i H/\∃N:St->Hp->Prop,(∀b H',N b H'->∃d,d<m/\W (i+1) d b H')/\∀x H',J.oQ i H x H'->g x a H' λc H2=>f { D with nx:=N,ct:=N,bk:=D.nx } c H2)
noncomputable def iG(a:List Addr)(h:Heap):List (Addr × Obj):=a.filterMap λb=>(h.get? b).map λo=>(b,o)
theorem oS{h:Heap}(a:b∈c)(e:h.get? b=some o):(b,o)∈iG c h:=qi.mpr ⟨b,a,by rw[e];rfl⟩
theorem Bq{h:Heap}(a:p∈iG c h):p.1∈c/\h.get? p.1=some p.2:=by
 obtain⟨b,d,e⟩:=qi.mp a
 cases q:h.get? b with
 | none=>simp_all
 | some o=>
  grind
theorem Inv.pinned{s:ao}(I:Inv X a d H s)(f:∀b∈c,k8 X a H b)(i:∀b∈c,∃o,s.heap.get? b=some o/\∀v,o.data≠ .cell v):Inv X (a++iG c s.heap) d H s:=
 I.sV λp g=>(bW.mp g).elim (λz=>I.pin p (dR _ z)) λz=>by
  obtain⟨h,e⟩:=Bq z
  refine gA (f p.1 h) λj m n _=>?_
  grind
theorem Inv.tm(I:Inv X (a++d) b H s):Inv X a b H s:=I.sV λp c=>I.pin p (dR _ (gK _ c))
theorem Br(E:PassesOwn (model X.prog X.w) X.A X.env X.xe)(hc:X.calm=true)(hi:PI X tg iter wi)(hg:PG X tg g)(j:gd X body tb)(hs:∀x,oe iter X.env x=pure x:=by intro _;rfl):PS X (.For tg iter body [] pos) (K1 wi g tb):=by
 intro a s σ H D I h;refine wpAny_For (aK (hi a s σ H _ I h) λv s1 h1=>aK h1 λK2 s2 h2=>?_) hs;obtain⟨it,G,tn,J,H2,e,I2,T,Y,f2,W,⟨m0,w0⟩,L⟩:=h2;subst e
 have p:∀{H':Hp},(∀b∈G,H' b=none)->∀b∈G,k8 X a H' b:=λhn b j=>⟨hn b j,(f2 b j).2⟩
 refine codeAny_forLoop_any (λn s'=>∃i q H',Inv X a q H' s'/\tn i s'.heap/\(∀b∈G,H' b=none)/\W i n q H') ?_ m0 ⟨0,σ,H2,I2,Y,λb j=>(f2 b j).1,w0⟩
 rintro n s3 ⟨i,t,U,I3,M,O,w3⟩
 rcases L i n t U w3 with⟨stop,qn⟩ | ⟨go,N,hN,step⟩
 ·refine qg E (aK (T.done X rfl rfl rfl hc i a s3 t U X.xe I3 (p O) M stop) λr s4 ⟨hr,I4⟩=>?_)
  subst hr;exact z6 ⟨t,U,I4,qn⟩
 ·refine qg E (aK (T.item X rfl rfl rfl hc i a s3 t U X.xe I3 (p O) M go) λr s4 ⟨u,hr,h4⟩=>?_)
  subst hr;refine qg E (aK h4 λ_ s5 zZ=>?_);obtain⟨x,H5,I5,r5,y5,C,wG⟩:=zZ
  have wH:=I5.pinned (p wG) (T.obj _ _ C)
  refine qg E (aK (hg _ s5 t H5 x u _ wH r5 (step x H5 y5)) λ_ s6 zZ=>?_);obtain⟨K3,H6,I6,q6⟩:=zZ;refine qg E (aK (j _ s6 K3 H6 _ I6 q6) λf s7 B=>?_)
  have again:∀{c:St}{y:Hp},Inv X (a++iG G s5.heap) c y s7->N c y->∃m,m<n/\∃i q H',Inv X a q H' s7/\tn i s7.heap/\(∀b∈G,H' b=none)/\W i m q H':=λ{c y} z Q=>by
   obtain⟨m',hm,w7⟩:=hN c y Q;refine⟨m',hm,i+1,c,y,z.tm,T.keep _ _ _ C λb j o e=>(z.pin (b,o) (dR _ (dR _ (oS j e)))).1,λb j=>?_,w7⟩;obtain⟨o,e,d⟩:=T.obj _ _ C b j;exact(z.pin (b,o) (dR _ (dR _ (oS j e)))).2.1
  cases f with
  | next=>refine cz B λc y z Q=>?_;clear B;exact again z Q
  | cont=>refine cz B λc y z Q=>?_;clear B;exact again z Q
  | brk=>refine cz B λc y z B=>?_;exact⟨c,y,z.tm,B⟩
  | ret v=>refine ey B λx7 c y z r7 B=>?_;exact⟨x7,c,y,z.tm,r7,B⟩
end
noncomputable abbrev R2:=V->V->Hp->VK->Prop
def cq(X:Cx)(f:Value->Value->Sem Value)(r:R2):Prop:=
 ∀(a:List (Addr × Obj))(s:ao)(b:St)(H:Hp)(x y:V)(v u:Value)(Q:VK),Inv X a b H s->RelV x v->RelV y u->r x y H Q->
  wpAny (model X.prog X.w) X.A (f v u) (EP X a b Q) X.xe s
def wI(X:Cx)(f:Value->Sem Value)(r:V->Hp->VK->Prop):Prop:=
 ∀(a:List (Addr × Obj))(s:ao)(b:St)(H:Hp)(x:V)(v:Value)(Q:VK),Inv X a b H s->RelV x v->r x H Q->
  wpAny (model X.prog X.w) X.A (f v) (EP X a b Q) X.xe s
def gP(X:Cx)(f:Value)(r:List V->Hp->VK->Prop):Prop:=
 ∀(a:List (Addr × Obj))(s:ao)(b:St)(H:Hp)(xs:List V)(us:List Value)(Q:VK),Inv X a b H s->Vals xs us->r xs H Q->
  wpAny (model X.prog X.w) X.A (call f us) (EP X a b Q) X.xe s
def K4(X:Cx)(r:V->Hp->(Bool->Hp->Prop)->Prop):Prop:=
 ∀(a:List (Addr × Obj))(s:ao)(b:St)(H:Hp)(x:V)(v:Value)(Q:Bool->Hp->Prop),Inv X a b H s->RelV x v->r x H Q->
  wpAny (model X.prog X.w) X.A (truthy v) (TP X a b Q) X.xe s
noncomputable def qM(r:R2)(b c:TE):TE:=λa H Q=>b a H λx d=>c a d λy H2=>r x y H2 Q
noncomputable def K5(r:V->Hp->VK->Prop)(a:TE):TE:=λb H Q=>a b H λx c=>r x c Q
noncomputable def rI(C:Int->Int->Prop)(g:Int->Int->V):R2:=λx y H Q=>∃i j,x=.int i/\y=.int j/\C i j/\Q (g i j) H
noncomputable def ma(g:Int->Int->V):R2:=λx y H Q=>∃i j,x=.int i/\y=.int j/\Q (g i j) H
noncomputable def rU(g:Int->V):V->Hp->VK->Prop:=λx H Q=>∃i,x=.int i/\Q (g i) H
section
variable {X:Cx}{a b c:Expr}{ta tb tc:TE}{pos:Pos}
theorem wJ(p:PE X a ta)(q:PE X b tb){d:List (Addr × Obj)}{s:ao}{e:St}{H:Hp}{R:V->V->Hp->Prop}(I:Inv X d e H s)
  (h:ta e H λx m=>tb e m λy H2=>R x y H2) {Q:Value->ao->Prop} {f:Value->Value->Sem Value}
  (r:∀v u j x y H2,Inv X d e H2 j->RelV x v->RelV y u->R x y H2->wpAny (model X.prog X.w) X.A (f v u) Q X.xe j):
  wpAny (model X.prog X.w) X.A (eval a X.env) (λv g=>wpAny (model X.prog X.w) X.A (eval b X.env) (λu i=>wpAny (model X.prog X.w) X.A (f v u) Q X.xe i) X.xe g) X.xe s:=by
 refine aK (p d s e H _ I h) λv t n=>?_
 obtain⟨x,m,z,B,C⟩:=n
 refine aK (q d t e m _ z C) λu j n=>?_
 obtain⟨y,H2,E,G,J⟩:=n;exact r v u j x y H2 E B G J
theorem Bs{e:Operator}{r:R2}(f:cq X (dw e) r)(g:PE X a ta)(i:PE X b tb):PE X (.BinOp a e b pos) (qM r ta tb):=by
 intro d s j H Q I h;exact wpAny_BinOp (wJ g i I h λv u m x y H2 n p t q=>f d m j H2 x y v u Q n p t q)
theorem K6(f:wI X (unaryOp g) r)(i:PE X a ta):PE X (.UnaryOp g a pos) (K5 r ta):=by
 intro d s e H Q I h;exact UnaryOp_ (aK (i d s e H _ I h)<|by rintro v j ⟨x,m,n,p,q⟩;exact f d j e m x v Q n p q)
theorem tp{f:Value->Value->Sem Value}{C:Int->Int->Prop}{g:Int->Int->Int}
  (rule:∀(i j:Int)(t u:Tok)(s:ao)(Q:Value->ao->Prop)(E:Value->ao->Prop),C i j->Q (.int (g i j) s.toks) { s with toks:=s.toks+1 }->wpAny (model X.prog X.w) X.A (f (.int i t) (.int j u)) Q E s):
  cq X f (rI C λi j=>.int (g i j)):=by
 intro m s z H x y v u Q I n p h
 refine dq h λi j d e r q=>?_;clear h;subst d;subst e
 obtain⟨t,rfl⟩:=n;obtain⟨t',rfl⟩:=p;exact rule i j t t' s _ _ r ⟨.int (g i j),H,I.tok _,⟨_,rfl⟩,q⟩
theorem Bt{f:Value->Value->Sem Value}{g:Int->Int->Int}
  (rule:∀(i j:Int)(t u:Tok)(s:ao)(Q:Value->ao->Prop)(E:Value->ao->Prop),Q (.int (g i j) s.toks) { s with toks:=s.toks+1 }->wpAny (model X.prog X.w) X.A (f (.int i t) (.int j u)) Q E s):
  cq X f (ma λi j=>.int (g i j)):=by
 intro m s r H x y v u Q I n p h
 refine cM h λi j d e q=>?_;clear h;subst d;subst e
 obtain⟨t,rfl⟩:=n;obtain⟨t',rfl⟩:=p;exact rule i j t t' s _ _ ⟨.int (g i j),H,I.tok _,⟨_,rfl⟩,q⟩
theorem wK{f:Value->Value->Sem Value}{g:Int->Int->Bool}
  (rule:∀(i j:Int)(t u:Tok)(s:ao)(Q:Value->ao->Prop)(E:Value->ao->Prop),Q (.bool (g i j)) s->wpAny (model X.prog X.w) X.A (f (.int i t) (.int j u)) Q E s):
  cq X f (ma λi j=>.bl (g i j)):=by
 intro m s r H x y v u Q I n p h
 refine cM h λi j d e q=>?_;clear h;subst d;subst e
 obtain⟨t,rfl⟩:=n;obtain⟨t',rfl⟩:=p;exact rule i j t t' s _ _ ⟨.bl (g i j),H,I,rfl,q⟩
def oT(i j:Int):Prop:=0<j/\j<1073741824
def Bu(i j:Int):Prop:=0<=j/\j<=1000000/\i.natAbs<2 ^ 64
def kj(i j:Int):Prop:=(-(2 ^ 64)<i/\i<2 ^ 64)\/(-(2 ^ 64)<j/\j<2 ^ 64)
theorem kj.ok{i j:Int}(h:kj i j):qk i j:=by
 rcases h with⟨d,e⟩ | ⟨d,e⟩
 ·exact .of_left (intBits_le_64 d e)
 ·exact .of_right (intBits_le_64 d e)
theorem K7:cq X (dw .Add) (ma λi j=>.int (i+j)):=Bt λ_ _ _ _ _ _ _ q=>add_int q
theorem K8:cq X (dw .Sub) (ma λi j=>.int (i-j)):=Bt λ_ _ _ _ _ _ _ q=>sub_int q
theorem K9:cq X (dw .Mult) (rI kj λi j=>.int (i*j)):=tp λ_ _ _ _ _ _ _ d q=>mul_int q d.ok
theorem K_:cq X (dw .FloorDiv) (rI oT λi j=>.int (i / j)):=tp λi j _ _ _ _ _ d q=>by
 have e:(0:Int)<j:=d.1
 have f:j<1073741824:=d.2
 exact floordiv_int (by lia) (by rw[Int.fdiv_eq_ediv_of_nonneg i (by lia)];exact q) (.inl (PyProof.noPylong_small (by omega)))
theorem La:cq X (dw .Mod) (rI (λ_ j=>0<j) λi j=>.int (i%j)):=tp (by grind[mod_int',Int.fmod_eq_emod_of_nonneg])
theorem Lb{f:Value->Sem Value}{g:Int->Int}
  (rule:∀(i:Int)(t:Tok)(s:ao)(Q:Value->ao->Prop)(E:Value->ao->Prop),Q (.int (g i) s.toks) { s with toks:=s.toks+1 }->wpAny (model X.prog X.w) X.A (f (.int i t)) Q E s):
  wI X f (rU λi=>.int (g i)):=by
 intro d s j H x v Q I e h;obtain⟨i,rfl,q⟩:=h;obtain⟨t,rfl⟩:=e;exact rule i t s _ _ ⟨.int (g i),H,I.tok _,⟨_,rfl⟩,q⟩
theorem Lc:wI X (unaryOp .USub) (rU λi=>.int (-i)):=Lb λ_ _ _ _ _ q=>neg_int q
end
section
variable {X:Cx}{a b c:Expr}{ta tb tc:TE}{pos:Pos}
theorem wL{k k':Bool}(I:Inv X d f H s)(q:Q (.bl k) H)(e:k=k'):EP X d f Q (.bool k') s:=by
 subst e;exact⟨.bl k,H,I,rfl,q⟩
theorem Ld:cq X (bF .Lt) (ma λi j=>.bl (decide (i<j))):=wK λ_ _ _ _ _ _ _ q=>lt_int q
theorem Le:cq X (bF .LtE) (ma λi j=>.bl (decide (i<=j))):=wK λ_ _ _ _ _ _ _ q=>le_int q
theorem Lf:cq X (bF .Gt) (ma λi j=>.bl (decide (j<i))):=wK λ_ _ _ _ _ _ _ q=>gt_int q
theorem Lg:cq X (bF .Lt) (λx y H Q=>∃i j,x=.str i/\y=.str j/\Q (.bl (decide (i.cps.toList<j.cps.toList))) H):=by
 intro f s n H x y v u Q I g m h
 refine cM h λi j d e q=>?_;clear h;subst d;subst e
 obtain⟨t,rfl⟩:=g;obtain⟨t',rfl⟩:=m;exact lt_str (wL I q rfl)
theorem Lh:cq X (bF .Is) (λx y H Q=>y=.ay/\Q (.bl (decide (x=.ay))) H):=by
 intro d s g H x y v u Q I e f h;obtain⟨rfl,q⟩:=h;cases f;refine is_none_gen (wL I q ?_)
 cases x<;>first
  | (cases e;rfl)
  | (obtain⟨t,rfl⟩:=e;rfl)
theorem Li:cq X (bF .IsNot) (λx y H Q=>y=.ay/\Q (.bl (!decide (x=.ay))) H):=by
 intro d s g H x y v u Q I e f h;obtain⟨rfl,q⟩:=h;cases f;refine isnot_none_gen (wL I q ?_)
 cases x<;>first
  | (cases e;rfl)
  | (obtain⟨t,rfl⟩:=e;rfl)
theorem Lj(f:cq X (bF e) r)(g:PE X a ta)(i:PE X b tb)(j:vN e b=false):PE X (.Compare a [e] [b] pos) (qM r ta tb):=by
 intro d s m H Q I h;exact wpAny_Compare1 (wJ g i I h λv u n x y H2 p t w q=>f d n m H2 x y v u Q p t w q) j
noncomputable def Ll(t:TE):TT:=λd H Q=>t d H λx H'=>∃k,x=.bl k/\Q k H'
theorem Lm(i:cq X (bF g) r)(j:PE X a ta)(m:PE X b tb)(n:vN g b=false):PT X (.Compare a [g] [b] pos) (Ll (qM r ta tb)):=by
 intro d s f H Q I h
 refine wpAny_isTrue_Compare1 (aK (j d s f H _ I h) λv p ⟨x,q,t,w,A⟩=>aK (m d p f q _ t A) λu B ⟨y,H2,C,E,G⟩=>
  aK (i d B f H2 x y v u _ C w E G) λc O ⟨z,J,L,M,k,e,N⟩=>?_) n
 subst e;cases M;exact wpAny_truthy_bool ⟨J,L,N⟩
noncomputable def Ln(r f:R2)(ta tb tc:TE):TE:=λd H Q=>ta d H λx g=>tb d g λy H2=>r x y H2 λz e=>∃k,z=.bl k∧
 (if k=true then tc d e λh i=>f y h i Q else Q (.bl false) e)
theorem Lo(w:cq X (bF m) r)(j:cq X (bF g) A)(B:PE X a ta)(C:PE X b tb)(E:PE X c tc)(G:lastMarks [m,g] [b,c]=false:=by with_unfolding_all rfl):PE X (.Compare a [m,g] [b,c] pos) (Ln r A ta tb tc):=by
 intro f s i H Q I h
 refine Compare_chain (aK (B f s i H _ I h) λv J ⟨x,L,M,N,O⟩=>chain_link (aK (C f J i L _ M O) λu T ⟨y,H2,U,n,Y⟩=>
  aK (w f T i H2 x y v u _ U N n Y) λd s3 ⟨z,p,q,r3,k,e,t⟩=>?_)) G
 subst e;cases r3;refine wpAny_truthy_bool ?_
 cases k with
 | false=>exact ite_ff ⟨.bl false,p,q,rfl,t⟩
 | true=>exact ite_tt (chain_last (aK (E f s3 i p _ q t)<|by rintro w' s4 ⟨z',H4,I4,r4,q4⟩;exact j f s4 i H4 y z' u w' Q I4 n r4 q4))
def wM(K:aw)(x:V)(H:Hp)(k:Bool):Prop:=
 match x with
 | .ay=>k=false
 | .bl b=>k=b
 | .int i=>k=(i != 0)
 | .str y=>y.length<=aB/\k=((y.length:Int) != 0)
 | .qG y=>y.size<=aB/\k=((y.size:Int) != 0)
 | .ref p=>(∃xs,b8 K H p xs/\k=!xs.isEmpty)\/(∃xs,cx K H p xs/\k=!xs.isEmpty)\/∃d,H p=some (.dK d)/\k=!d.isEmpty
 | _=>False
theorem Lp{κ:Type}{d:List (κ × V)}{vs:List (κ × Value)}(r:KV d vs):(!vs.isEmpty)=!d.isEmpty:=by
 cases r<;>rfl
theorem Bv{xs:List V}{d:List Value}(r:Vals xs d):(!d.toArray.isEmpty)=!xs.isEmpty:=by
 cases r<;>simp
theorem m4:(aB:Nat)<2 ^ 63:=by rw[ql];decide
theorem Bw:K4 X (λx H Q=>∃k,wM X.K x H k/\Q k H):=by
 intro z s C H x v Q I g h;obtain⟨k,e,q⟩:=h
 have E:=m4
 have G:aB=16777216:=ql
 cases x with
 | ay=>
  cases g
  have d:k=false:=e
  subst d;exact truthy_none ⟨H,I,q⟩
 | bl b=>
  cases g
  have d:k=b:=e
  subst d;exact wpAny_truthy_bool ⟨H,I,q⟩
 | int i=>
  obtain⟨t,rfl⟩:=g
  have d:k=(i != 0):=e
  subst d;exact PySem.P.truthy_int ⟨H,I,q⟩
 | str y=>
  obtain⟨t,rfl⟩:=g;obtain⟨A,d⟩:y.length<=aB/\k=((y.length:Int) != 0):=e;subst d;exact PySem.P.truthy_str (by lia) ⟨H,I.tok _,q⟩
 | qG y=>
  obtain⟨t,rfl⟩:=g;obtain⟨A,d⟩:y.size<=aB/\k=((y.size:Int) != 0):=e;subst d;exact PySem.W.truthy_bytes (fo A) ⟨H,I.tok _,q⟩
 | ref p=>
  cases g
  have d:(∃xs,b8 X.K H p xs/\k=!xs.isEmpty)\/(∃xs,cx X.K H p xs/\k=!xs.isEmpty)\/∃f,H p=some (.dK f)/\k=!f.isEmpty:=e
  rcases d with⟨xs,j,d⟩ | ⟨xs,j,d⟩ | ⟨f,j,d⟩
  ·subst d
   refine aP (I.list j) λn r u hz=>?_
   have hlen:=r.length
   exact wpAny_truthy_list u.isList (by simp only[cH];lia) ⟨H,I.tok _,by rw[Bv r];exact q⟩
  ·subst d
   refine aP (I.tuple j) λn r u hz=>?_
   have hlen:=r.length
   exact truthy_tuple u (by simp only[cH];omega) ⟨H,I.tok _,by rw[Bv r];exact q⟩
  ·subst d
   obtain⟨hz,B,vs,r,m⟩:f.length<=aB/\(p==jA)=false/\∃vs,KV f vs/\s.heap.DictOf (gM X.prog X.w) p vs:=I.aR p _ j
   have hlen:f.length=vs.length:=z3 r
   exact wpAny_truthy_dict B m (by lia) ⟨H,I.tok _,by rw[Lp r];exact q⟩
 | _=>exact(show False from e).elim
theorem Lq(g:PE X a ta)(i:∀d,isTrue a X.env d=(do let v<-d;standAt a.pos;holding [v] (truthy v))):
  PT X a (λf H Q=>ta f H λx H'=>∃k,wM X.K x H' k/\Q k H'):=by
 intro e s f H Q I h;exact isTrue_plain (aK (g e s f H _ I h)<|by rintro v j ⟨x,m,n,p,q⟩;exact Bw e j f m x v Q n p q) (i _)
theorem Lr:cq X (dw .Add) (λx y H Q=>∃i j,x=.str i/\y=.str j/\i.length+j.length<=aB/\Q (.str (i++j)) H):=by
 intro f s n H x y v u Q I g m h
 refine dq h λi j d e hz q=>?_;clear h;subst d;subst e
 obtain⟨t,rfl⟩:=g;obtain⟨t',rfl⟩:=m;exact add_str (λt' tk=>⟨.str (i++j),H,I.tok _,⟨_,rfl⟩,q⟩) hz
theorem gQ(r:Vals [x] us):∃u,us=[u]/\RelV x u:=by
 cases r with
 | cons d e=>cases e;exact⟨_,rfl,d⟩
theorem Ls(r:Vals [x,y] us):∃u d,us=[u,d]/\RelV x u/\RelV y d:=by
 cases r with
 | cons e f=>
  cases f with
  | cons g h=>cases h;exact⟨_,_,rfl,e,g⟩
theorem Bx:gP X (.type "int") (λxs H Q=>(∃i,xs=[.int i]/\Q (.int i) H)\/∃k,xs=[.bl k]/\Q (.int (if k then 1 else 0)) H):=by
 intro g s m H xs us Q I r h;rcases h with⟨i,rfl,q⟩ | ⟨k,rfl,q⟩
 ·refine b5 (gQ r) λu e d=>gz d λt f=>?_;clear d;subst e;subst f
  exact call_int_int ⟨.int i,H,I,⟨_,rfl⟩,q⟩
 ·obtain⟨u,rfl,j⟩:=gQ r
  cases j;exact call_int_bool ⟨.int (if k then 1 else 0),H,I.tok _,⟨_,rfl⟩,q⟩
end
section
variable {prog:a6}{w:World}{A:a8}{E:Value->ao->Prop}{s:ao}{K:aw}{x dx C f:Addr}{mA:Str->Option Value}{name:Str}{v:Value}
end
theorem gO.some_of(r:gO (some v) o):∃u,o=some u/\RelV v u:=by
 cases o with
 | none=>exact(show False from r).elim
 | some u=>exact⟨u,rfl,r⟩
theorem gO.none_of(r:gO none o):o=none:=by
 cases o with
 | none=>rfl
 | some u=>exact(show False from r).elim
section
variable {P:a6}{w:World}{H H':Hp}{h h':Heap}{a C dx:Addr}{fs JJ:List (Str × V)}
end
structure qN(K:aw)(C:Addr)(f:Str)(v:V)(u:Value):Prop where
 at_:PySem.W.findIn K (.ref C) f=some (some u)
 rel:RelV v u
 get:PySem.W.specialIn K u "__get__"=some none
 cp:PySem.W.copiedNames.contains f=false
section
variable {X:Cx}{pins:List (Addr × Obj)}{σ:St}{H:Hp}{s:ao}{a C dx:Addr}{fs:List (Str × V)}{f:Str}{v:V}{A:a8}{E:Value->ao->Prop}
end
section
variable {X:Cx}{o e value:Expr}{f:Str}{pos pos' wN:Pos}{ta tv:TE}
end
section
variable {X:Cx}{pins:List (Addr × Obj)}{σ:St}{H:Hp}{s:ao}{A:a8}{E:Value->ao->Prop}{Q:Value->ao->Prop}{c:Value}{b:Bool}
end
structure bL(k:Nat)(A:a8):Prop where
 hd:A.handled=none
 dp:A.depth+3*k+5<recursionLimit
 un:A.units+16*k+200<cLine
theorem bL.deeper{k:Nat}{A:a8}(r:bL (k+1) A)(a:Env):bL k (A.deeper a):=
 ⟨r.hd,by have:=r.dp;show A.depth+1+3*k+5<_;lia,by have:=r.un;show A.units+3+16*k+200<_;lia⟩
theorem bL.depth{k:Nat}{A:a8}(r:bL k A):A.depth<recursionLimit:=by have:=r.dp;lia
theorem bL.units{k:Nat}{A:a8}(r:bL k A):A.units+64<cLine:=by have:=r.un;lia
noncomputable def Lu:TA:=λ_ H Q=>Q [] H
noncomputable def Lv(b:TE)(c:TA):TA:=λa H Q=>b a H λx d=>c a d λxs H2=>Q (x::xs) H2
section
variable {X:Cx}{e:Expr}{es:List Expr}{te:TE}{t:TA}{pos:Pos}
theorem iH:PA X [] Lu:=λ_ _ _ _ H Q I h=>z8 ⟨[],H,I,.nil,h⟩
theorem hE(c:PE X e te)(d:PA X es t)(f:bq (e::es) X.env=(false,eval e X.env)::bq es X.env:=by rfl):PA X (e::es) (Lv te t):=by
 intro pos a s b H Q I h;rw[f]
 show wpAny _ _ (vM ((false,eval e X.env)::g7 pos (bq es X.env))) _ _ s
 refine z9 (aK (c a s b H _ I h) λu g i=>?_);obtain⟨x,j,m,n,p⟩:=i
 exact aK (d pos a g b j _ m p)<|by rintro us w ⟨xs,H2,q,r,v⟩;exact⟨x::xs,H2,q,.cons n r,v⟩
def Lw(t:TA):TE:=λb H Q=>t b H λxs a=>xs.length<=aB/\∀p,a p=none->Q (.ref p) (upd a p (.tup xs))
def Lx(t:TA):TE:=λb H Q=>t b H λxs a=>xs.length<=aB/\∀p,a p=none->Q (.ref p) (upd a p (.lst xs))
theorem Ly(h:PA X es t):PE X (.Tuple es m pos) (Lw t):=by
 intro a s g H Q I i;refine wpAny_Tuple_spliced (aK (h pos a s g H _ I i) λus c ⟨xs,d,f,r,z,q⟩=>⟨by rw[<-r.length];exact z,?_⟩)
 have j:d c.heap.objs.size=none:=f.aR.fresh (a5 _)
 refine⟨.ref c.heap.objs.size,upd d c.heap.objs.size (.tup xs),f.laid (t':=c.toks) (λb u e=>bx _ e) (a5 _) ?_,rfl,q _ j⟩;exact⟨z,us,r,⟨_,cL _ rfl,rfl,_,rfl⟩⟩
theorem wO(h:PA X es t):PE X (.List es pos) (Lx t):=by
 intro a s g H Q I i;refine wpAny_List_spliced (aK (h pos a s g H _ I i) λus c ⟨xs,d,f,r,z,q⟩=>⟨by rw[<-r.length];exact z,?_⟩)
 have j:d c.heap.objs.size=none:=f.aR.fresh (a5 _)
 refine⟨.ref c.heap.objs.size,upd d c.heap.objs.size (.lst xs),f.laid (t':=c.toks) (λb u e=>bx _ e) (a5 _) ?_,rfl,q _ j⟩;exact⟨z,us,0,r,cL _ rfl⟩
end
noncomputable abbrev Sp:=List V->Hp->VK->XK->Prop
noncomputable abbrev jH:=List Env->Hp->ao->XK->Value->ao->Prop
structure tq(P:a6)(w:World)(K:aw)(mg:Str->Option Value)(base:Heap)(A:a8)(outer:List Env)(s:ao)(H:Hp):Prop where
 frames:A.frames=some outer
 mod:Mod K mg base
 bs:∀b o,base.get? b=some o->s.heap.get? b=some o/\H b=none
 l9:base.objs.size<=s.heap.objs.size
 jg:s.heap.FunFrames base outer
 mY:∀b∈jf outer,H b=none
 aR:de P w H s.heap
 bare:mN s.gens
def CE(a:List Env)(P:a6)(w:World)(H:Hp)(s:ao)(Q:VK)(u:Value)(b:ao):Prop:=
 ∃v H',b.os=s.os/\mN b.gens/\Un (jf a) [] H H' s.heap b.heap/\de P w H' b.heap/\RelV v u/\Q v H'
def CR(CX:jH)(a:List Env)(P:a6)(w:World)(H:Hp)(s:ao)(Q:VK)(E:XK)(r:Result)(b:ao):Prop:=
 match r with
 | .ok (.ret u)=>CE a P w H s Q u b
 | .ok _=>False
 | .error e=>CX a H s E e b
structure dS(P:a6)(w:World)(K:aw)(mg:Str->Option Value)(base:Heap)(CX:jH)(k:Nat)(f:Addr)(fd:d7)(ps:List Str)(sp:Sp):Prop where
 len:∀vs H Q E,sp vs H Q E->vs.length=ps.length
 run:∀(A:a8)(outer:List Env)(s:ao)(H:Hp)(args:Args)(us:List Value)(vs:List V)(Q:VK)(E:XK),bL k A->tq P w K mg base A outer s H->vO s fd args (ps.zip us)->Vals vs us->sp vs H Q E->
  qm (model P w) A (.call (.ref f) args) (CR CX outer P w H s Q E) s
theorem dS.imp{P:a6}{w:World}{K:aw}{c:Str->Option Value}{base:Heap}{CX:jH}{k:Nat}{f:Addr}{d:d7}{ps:List Str}{sp b:Sp}(F:dS P w K c base CX k f d ps sp)
  (h:∀vs H Q E,b vs H Q E->sp vs H Q E):dS P w K c base CX k f d ps b:=
 ⟨λvs H Q E q=>F.len vs H Q E (h _ _ _ _ q),λA a s H args us vs Q E e g i j m=>F.run A a s H args us vs Q E e g i j (h _ _ _ _ m)⟩
section
variable {X:Cx}{pins:List (Addr × Obj)}{σ:St}{H:Hp}{s s':ao}
theorem Inv.Lz(I:Inv X pins σ H s):tq X.prog X.w X.K X.mg X.base X.A X.stack s H:=
 ⟨I.ok.frames,I.ok.mod,I.bs,cj I.ok.l9 I.sz,I.stack,I.A8,I.aR,I.bare⟩
theorem Inv.after(I:Inv X pins σ H s)(h:CE X.stack X.prog X.w H s Q u s'):EP X pins σ Q u s':=by
 refine iE h λv H' os a un e c=>bX c λr q=>?_;clear h c
 obtain⟨i,g,d,t,f⟩:=s';obtain rfl:f=s.os:=os;exact⟨v,H',I.call (h':=i) (g':=g) (d':=d) (t':=t) (ch:=[]) un e a (λb z=>absurd z (by simp)),r,q⟩
end
noncomputable def LA(sp:Sp)(a:List V)(E:XK)(t:TA):TE:=λb H Q=>t b H λvs c=>sp (vs++a) c Q E
def jI(K:aw)(a:d7)(ps:List Str)(ds:List Value):Prop:=
 ∀(s:ao)(us:List Value),K.In s.heap->(us++ds).length=ps.length->vO s a ⟨us,[]⟩ (ps.zip (us++ds))
theorem jI.all{K:aw}{a:d7}{ps:List Str}(h:∀us:List Value,us.length=ps.length->bindArgs a ⟨us,[]⟩=pure (ps.zip us)):jI K a ps []:=λs us _ b=>by
 rw[gv]at b ⊢;exact .of_eq (h us b)
def wQ(CX:jH)(X:Cx)(E:XK):Prop:=∀(a:List (Addr × Obj))(c:St)(H:Hp)(s:ao)(e:Value)(b:ao),Inv X a c H s->CX X.stack H s E e b->X.xe e b
section
variable {X:Cx}{CX:jH}{k:Nat}{f C:Addr}{fd:d7}{ps:List Str}{sp:Sp}{oU:List V}{ds:List Value}{E:XK}{x m:Str}{p pos apos:Pos}{e o:Expr}{es:List Expr}{ta:TE}{t:TA}
theorem LB(F:dS X.prog X.w X.K X.mg X.base CX k f fd ps sp)(g:bL k X.A)(i:jI X.K fd ps ds)(j:Vals oU ds)(n:wQ CX X E)(I:Inv X a c H s)(r:Vals vs us)(h:sp (vs++oU) H Q E):wpAny (model X.prog X.w) X.A (call (.ref f) us) (EP X a c Q) X.xe s:=by
 have d:Vals (vs++oU) (us++ds):=r.append j
 have q:(us++ds).length=ps.length:=by rw[<-d.length];exact F.len _ _ _ _ h
 refine Ig (qo (F.run X.A X.stack s H ⟨us,[]⟩ (us++ds) (vs++oU) Q E g I.Lz (i s us I.hD q) d h) λr v b=>?_)
 cases r with
 | error e=>exact n a c H s e v I b
 | ok fl=>
  cases fl with
  | ret u=>exact I.after b
  | next=>exact dE b
  | brk=>exact dE b
  | cont=>exact dE b
theorem By(F:dS X.prog X.w X.K X.mg X.base CX k f fd ps sp)(g:bL k X.A)(i:Gl X x)(j:X.mg x=some (.ref f))(n:mP X.K (.ref f)=true)(u:jI X.K fd ps ds)(v:Vals oU ds)(y:wQ CX X E)
  (z:PA X (e::es) t) (b:(x==("__debug__":Str))=false:=by decide) (B:bq (e::es) X.env=(false,eval e X.env)::bq es X.env:=by rfl) (c:(g7 pos (bq es X.env)).any (·.1)=false:=by rfl):
  PE X (.Call (.Name x p) (e::es) [] pos) (LA sp oU E t):=by
 intro a s G H Q I h;refine wpAny_Call_Name_kw (Bb I i j ?_ b);refine PySem.W.callWith_K (h₀:=X.base) I.ok.mod.wt n (aK (z pos a s G H _ I h) λus J ⟨vs,L,d,r,q⟩=>⟨d.hD,?_⟩) B c;exact LB F g u v y d r q
end
section
variable {X:Cx}{CX:jH}{k:Nat}{f C:Addr}{fd:d7}{ps ks:List Str}{sp:Sp}{E:XK}{x m:Str}{p pos apos Zsp:Pos}{e o:Expr}{es:List Expr}{kws:List vP}{te ta:TE}{t tk:TA}{nm:Option Str}
variable {g:List Value->List Value->List Value}{gV:List V->List V->List V}
end
structure m5(N P:List Str)(sc:Scope):Prop where
 kind:sc.kind=.function
 co:sc.isCoroutine=false
 gen:sc.isGenerator=false
 nd:N.Nodup
 pre:N.take P.length=P
 par:∀x∈P,sc.names.lookup x=some .local\/sc.names.lookup x=some .cell
 LC:∀y∈sc.names,y.2≠ .free
theorem Bz{kindOf:Str->Option sr}{x:Str}:∀{binds:List (Str × Value)}{m:Str->Option Value},(∀v,(x,v)∉binds)->bindL kindOf binds m x=m x
  | [],_,_=>rfl
  | (n,v)::r,m,h=>by
    unfold bindL;rw[Bz λw hw=>h w (bV _ hw)]
    split
    ·grind
    ·rfl
theorem BA{kindOf:Str->Option sr}{x:Str}:∀{binds:List (Str × Value)}{m:Str->Option Value},(∀v,(x,v)∉binds)->bindC kindOf binds m x=m x
  | [],_,_=>rfl
  | (n,v)::r,m,h=>by
    unfold bindC;rw[BA λw hw=>h w (bV _ hw)]
    split
    ·rfl
    grind
theorem BB{kindOf:Str->Option sr}{x:Str}{v:Value}:∀{P:List Str}{vs:List Value}{i:Nat}{m:Str->Option Value},P.Nodup->P[i]?=some x->vs[i]?=some v->kindOf x=some .local->
  bindL kindOf (P.zip vs) m x=some v
 | [],_,_,_,_,h,_,_=>by simp at h
 | _::_,[],_,_,_,_,h,_=>by simp at h
 | p::P,w::vs,0,m,nd,a,b,c=>by
  simp at a b;subst a;subst b
  show bindL kindOf ((p,w)::P.zip vs) m p=_
  unfold bindL;rw[Bz λv d=>(g8.mp nd).1 (vQ d).1,if_pos c]
  simp
 | p::P,w::vs,i+1,m,nd,a,b,c=>by
  show bindL kindOf ((p,w)::P.zip vs) m x=_
  unfold bindL;exact BB (i:=i) (g8.mp nd).2 (by simpa using a) (by simpa using b) c
theorem BC{kindOf:Str->Option sr}{x:Str}{v:Value}:∀{P:List Str}{vs:List Value}{i:Nat}{m:Str->Option Value},P.Nodup->P[i]?=some x->vs[i]?=some v->kindOf x≠some .local->
  bindC kindOf (P.zip vs) m x=some v
 | [],_,_,_,_,h,_,_=>by simp at h
 | _::_,[],_,_,_,_,h,_=>by simp at h
 | p::P,w::vs,0,m,nd,a,b,c=>by
  simp at a b;subst a;subst b
  show bindC kindOf ((p,w)::P.zip vs) m p=_
  unfold bindC;rw[BA λv d=>(g8.mp nd).1 (vQ d).1,if_neg c]
  simp
 | p::P,w::vs,i+1,m,nd,a,b,c=>by
  show bindC kindOf ((p,w)::P.zip vs) m x=_
  unfold bindC;exact BC (i:=i) (g8.mp nd).2 (by simpa using a) (by simpa using b) c
noncomputable def start(N:List Str)(vs:List V):St:=vs.map some++z_ (N.length-vs.length) none
noncomputable def jh(CX:jH)(P:a6)(w:World)(K:aw)(mg:Str->Option Value)(base:Heap)(N:List Str)(b:Str)(a:Scope)(f:Addr)(d:Value)(A:a8)(outer:List Env)(s:ao)(H:Hp)(E:XK):Cx where
 prog:=P
 w:=w
 K:=K
 mg:=mg
 base:=base
 A:=A.deeper (iR b a s.heap.objs.size f d)
 N:=N
 dC:=s
 je:=H
 env:=iR b a s.heap.objs.size f d
 outer:=outer
 stack:=iR b a s.heap.objs.size f d::outer
 ex:=[]
 calm:=true
 fn:=λ_=>true
 pn:=[]
 xe:=λe g=>wpAny (model P w) (A.deeper (iR b a s.heap.objs.size f d)) (leaving (iR b a s.heap.objs.size f d) e) (λ_ c=>CX outer H s E e c) (λh c=>CX outer H s E h c) g
theorem BD{sc:Scope}{n:Nat}(h:sc.names.lookup x=some .cell):∃c,(cellsFrom n sc.names []).lookup x=some c:=by
 have q:=Yo sc.names n [] (.inl h)
 exact Option.isSome_iff_exists.mp q
theorem LD{CX:jH}{P:a6}{w:World}{K:aw}{J:Str->Option Value}{base:Heap}{N ps:List Str}{j:Str}{d:Scope}{f:Addr}{G:Value}{A:a8}{g:List Env}{s O:ao}{H:Hp}{E:XK}{us:List Value}{vs:List V}
  (S:m5 N ps d) (U:A.handled=none) (e0:tq P w K J base A g s H) (hl:vs.length=ps.length) (r:Vals vs us)
  (x:InCallC s s.heap.objs.size (bindL (iR j d s.heap.objs.size f G).kindOf (ps.zip us) λ_=>none) (cellsFrom (s.heap.objs.size+1) d.names []) (bindC (iR j d s.heap.objs.size f G).kindOf (ps.zip us) λ_=>none) O):
  Inv (jh CX P w K J base N j d f G A g s H E) [] (start N vs) H O:=by
 have Y:ps.length<=N.length:=by have:=congrArg og S.pre;rw[lW]at this;lia
 refine cz x.done λI tk L Q=>?_;subst L
 have m:∀b:Addr,b∉(jh CX P w K J base N j d f G A g s H E).ex:=λb z=>absurd (show b∈([]:List Addr) from z) (by simp)
 refine⟨⟨e0.mod,S.kind,rfl,rfl,a5 _,λy z c I t=>?_,λy hy=>?_,λy c _ h=>?_,λ_=>U,Around.frames_deeper e0.frames,.inr ⟨rfl,rfl⟩,λb z=>absurd z (m b),e0.bs,e0.l9,λb _ _=>m b,λb z=>absurd z (m b),e0.jg,e0.mY⟩,
  rfl,e0.bare,Un.kept Q,⟨_,x.toInCall.ns,λi y v I t h3=>?_⟩,λy c h=>⟨_,x.cell y c h⟩,e0.aR.fresh (a5 _),λy c h=>?_,λp B=>absurd (show p∈([]:List (Addr × Obj)) from B) (by simp),e0.aR.kept Q,?_⟩
 ·exact name_of_addr x.apart (vR I) (vR t)
 ·have hy:d.names.lookup y=some .cell\/d.names.lookup y=some .free:=hy
  rcases hy with hy | hy
  ·exact BD hy
  ·exact absurd rfl (S.LC _ (vR hy))
 ·exact f9 (x.above y c (vR h))
 ·have M:i<vs.length:=by
   unfold start at t
   by_cases M:i<vs.length
   ·exact M
   ·grind
  have ha:vs[i]?=some v:=by
   unfold start at t;rw[jC (by simpa using M),bJ]at t
   cases e:vs[i]? with
   | none=>simp_all
   | some a=>simp_all
  obtain⟨u,T,rv⟩:=r.get ha
  have B:ps[i]?=some y:=by
   rw[<-S.pre,List.getElem?_take_of_lt (by lia)];exact I
  have C:ps.Nodup:=by rw[<-S.pre];exact S.nd.sublist (List.take_sublist _ _)
  refine⟨u,rv,?_⟩;rcases S.par y (ee B)with k | k
  ·exact .inl ⟨k,BB C B T k⟩
  ·obtain⟨c,e⟩:=BD (n:=s.heap.objs.size+1) k
   refine .inr ⟨.inl k,c,e,?_⟩
   have q:=x.cell y c e
   rw[BC C B T (by show d.names.lookup y≠_;grind)]at q;exact q
 ·exact e0.aR.fresh (f9 (x.above y c (vR h)))
 ·unfold start
  show _=N.length
  simp_all
theorem LF{CX:jH}{P:a6}{w:World}{K:aw}{C:Str->Option Value}{base:Heap}{k:Nat}{f:Addr}{name d:Str}{h:Arguments}{body:List Stmt}{a:Scope}{Y kV doc pm g ct oc:Value}{an od:Option Addr}
  {G:Array (Option Value)} {N ps:List Str} {sp:Sp} (lk:K.lookup f=some ⟨oc,od,.func (oh name d h body a Y kV doc pm an g ct),G⟩) (L:Aa K g d=true) (S:m5 N ps a)
  (len:∀vs H Q E,sp vs H Q E->vs.length=ps.length)
  (m:∀(A:a8)(c:List Env)(s:ao)(H:Hp)(vs:List V)(Q:VK)(E:XK),bL k (A.deeper (iR d a s.heap.objs.size f g))->sp vs H Q E->
   ∃t,gd (jh CX P w K C base N d a f g A c s H E) body t/\t { nx:=λ_ H'=>Q .ay H',rt:=Q } (start N vs) H):
  dS P w K C base CX (k+1) f (oh name d h body a Y kV doc pm an g ct) ps sp:=by
 refine⟨len,λA c s H args us vs Q E M e0 hb r z=>?_⟩
 have hl:=len _ _ _ _ z
 have KX:K.In s.heap:=e0.mod.wt.keeps λb o e=>(e0.bs b o e).1
 have O:s.heap.NoLimit:=e0.mod.nolimit.keeps λb o e=>(e0.bs b o e).1
 have p:∀y∈ps.zip us,a.names.lookup y.1=some .local\/(a.names.lookup y.1=some .cell/\((cellsFrom (s.heap.objs.size+1) a.names []).lookup y.1).isSome=true):=λ⟨n,v⟩ hy=>by
  rcases S.par n (vQ hy).1 with q | q
  ·exact .inl q
  ·exact .inr ⟨q,Yo _ _ _ (.inl q)⟩
 refine codeAny_call_function M.depth (KX _ _ lk) rfl S.co S.gen rfl (PySem.W.codeRec_of KX L) (hb _ _ _ _ ?_)
 refine wpAny_newFunctionEnv_cells S.kind p λenv he s1 x=>?_
 subst he;refine⟨O.keeps x.toInCall.keep,codeAny_func ?_⟩;obtain⟨t,ht,hq⟩:=m A c s H vs Q E (M.deeper _) z
 have I:Inv (jh CX P w K C base N d a f g A c s H E) [] (start N vs) H s1:=LD S M.hd e0 hl r x
 refine kU (ht [] s1 (start N vs) H _ I hq) (λfl T i=>?_) λe T i=>i
 have B:∀{j:St}{H':Hp}{v:V}{u:Value},Inv (jh CX P w K C base N d a f g A c s H E) [] j H' T->RelV v u->Q v H'->CE c P w H s Q u T:=
  λ{j H' v u} J U q=>⟨v,H',J.os,J.bare,J.base,J.aR,U,q⟩
 cases fl with
 | ret u=>
  refine ey i λv j H' J U q=>?_;clear i
  exact B J U q
 | next=>
  refine cz i λj H' J q=>?_;clear i
  exact B (v:=V.ay) (u:=dc) J rfl q
 | brk=>
  refine cz i λ_ _ _ q=>?_;clear i
  simp_all
 | cont=>
  refine cz i λ_ _ _ q=>?_;clear i
  simp_all
section
variable {X:Cx}{x:Str}{p pos:Pos}{e:Expr}{es:List Expr}{t:TA}{id T:String}{r:List V->Hp->VK->Prop}
noncomputable def BE(r:List V->Hp->VK->Prop)(t:TA):TE:=λa H Q=>t a H λvs b=>r vs b Q
theorem BF(f:gP X (.builtin id) r)(g:Gl X x)(i:X.mg x=none)(j:et x=some (.builtin id))(m:PA X (e::es) t)(hn:x≠"__name__":=by decide)(b:(x==("__debug__":Str))=false:=by decide)
  (n:bq (e::es) X.env=(false,eval e X.env)::bq es X.env:=by rfl) (c:(g7 pos (bq es X.env)).any (·.1)=false:=by rfl):PE X (.Call (.Name x p) (e::es) [] pos) (BE r t):=by
 intro a s d H Q I h;refine wpAny_Call_Name_kw (jG I g i j ?_ hn b);exact Yp (aK (m pos a s d H _ I h)<|by rintro us q ⟨vs,u,v,w,y⟩;exact f a q d u vs us Q v w y) n c
theorem BG(f:gP X (.type T) r)(g:Gl X x)(i:X.mg x=none)(j:et x=some (.type T))(m:PA X (e::es) t)(hn:x≠"__name__":=by decide)(b:(x==("__debug__":Str))=false:=by decide)
  (n:bq (e::es) X.env=(false,eval e X.env)::bq es X.env:=by rfl) (c:(g7 pos (bq es X.env)).any (·.1)=false:=by rfl):PE X (.Call (.Name x p) (e::es) [] pos) (BE r t):=by
 intro a s d H Q I h;refine wpAny_Call_Name_kw (jG I g i j ?_ hn b);exact oa (aK (m pos a s d H _ I h)<|by rintro us q ⟨vs,u,v,w,y⟩;exact f a q d u vs us Q v w y) n c
end
end L2
namespace HT
open PySem PyProof.Rows
section
open PySem.SeqAt
open PySem.AutoSeq1 (wpAny_loadPart')
open PySem.MeetsSeq PySem.MeetsSeq2 PySem.MeetsSeq3
end
section
variable {prog:a6}{w:World}{A:a8}{E:Value->ao->Prop}{s:ao}
theorem LG{vs ws:List Value}(r:IsTup s.heap t vs.toArray)(u:IsTup s.heap b ws.toArray)(y:vs≠[])(v:ws=[]->Q (.ref t) s)(x:ws≠[]->Q (.ref s.heap.objs.size) { s with heap:=s.heap.push { cls:=.type "tuple",data:=.seq (vs++ws).toArray } })(hsz:vs.length+ws.length<=aB):wpAny (model prog w) A (dw .Add (.ref t) (.ref b)) Q E s:=by
 obtain⟨⟨cls,i,data,j⟩,h,m,n,p⟩:=id r;obtain⟨⟨q,c,data2,d⟩,a,f,n2,g⟩:=id u;simp only at m p f g;subst m p f g
 have e:vs.toArray++ws.toArray=(vs++ws).toArray:=by simp
 by_cases hw:ws=[]
 ·exact Ih ⟨_,h,rfl⟩ ⟨_,a,rfl⟩ Ii Ij Ik Il (Im _ _)
   (tuple_addW1 t b vs.toArray ws.toArray n n2 i c j d (by grind) (by simp[hw])) ⟨h,a,v hw⟩
 ·refine Ih ⟨_,h,rfl⟩ ⟨_,a,rfl⟩ Ii Ij Ik Il (Im _ _)
   (tuple_addW2 t b vs.toArray ws.toArray n n2 i c j d (by grind) (by grind) (by omega)) ⟨h,a,?_⟩
  rw[e];exact x hw
noncomputable def aV(n d:Nat):Option Int->Nat
 | none=>d
 | some v=>if v<0 then(v+(n:Int)).toNat else min v.toNat n
theorem wR(n d:Nat)(a:d<=n)(o:Option Int):aV n d o<=n:=by
 cases o with
 | none=>exact a
 | some v=>
  show(if v<0 then(v+(n:Int)).toNat else min v.toNat n)<=n
  grind
theorem wU(v:Int)(n d:Nat):(if v<0 then max (v+(n:Int)) 0 else min v (n:Int))=((aV n d (some v):Nat):Int):=by
 show(if v<0 then max (v+(n:Int)) 0 else min v (n:Int))=(((if v<0 then(v+(n:Int)).toNat else min v.toNat n):Nat):Int)
 grind
theorem LH(lo a:Option Int)(n:Nat):Io lo a 1 (n:Int)=(((aV n 0 lo:Nat):Int),((aV n n a:Nat):Int)):=by
 have b:¬((1:Int)<0):=by lia
 unfold Io;simp only[b,if_false];refine Ip ?_ ?_
 ·cases lo with
  | none=>rfl
  | some v=>exact wU v n 0
 ·cases a with
  | none=>rfl
  | some v=>exact wU v n n
theorem LI(i j:Nat):Ab (i:Int) (j:Int) 1=j-i:=by
 unfold Ab
 lia
theorem BH(p:lX v o)(h:Q o s):wpAny (model prog w) A (Zsv v) Q E s:=by
 cases p with
 | none=>exact slicePart_none h
 | int i t=>exact slicePart_int h
theorem BI{f:Addr}{d e:Value}{lo a:Option Int}{n:Nat}{Q:Int × Int × Nat->ao->Prop}(g:s.heap.IsSliceOf f d e .none)(i:lX d lo)(j:lX e a)
  (h:Q (((aV n 0 lo:Nat):Int),1,aV n n a-aV n 0 lo) s):wpAny (model prog w) A (Yq (.ref f) (pure (n:Int))) Q E s:=by
 refine aP (id g) λos b m c=>?_
 unfold Yq Zsw;refine wpAny_bind (wpAny_bind (qp b c (x:=d) rfl (wpAny_bind (qp b c (x:=e) rfl (wpAny_bind (qp b c (x:=.none) rfl (wpAny_pure ?_)))))));refine wpAny_bind (slicePart_none ?_)
 show wpAny _ _ (if((1:Int)==0)=true then _ else _) _ _ s
 rw[if_neg (by decide)];refine wpAny_bind (BH i (wpAny_bind (BH j (wpAny_bind (wpAny_pure ?_)))))
 show wpAny _ _ (match Io lo a 1 (n:Int)with | (lo,a)=>pure (lo,(1:Int),Ab lo a 1)) _ _ s
 rw[LH lo a n]
 show wpAny _ _ (pure (((aV n 0 lo:Nat):Int),(1:Int),Ab ((aV n 0 lo:Nat):Int) ((aV n n a:Nat):Int) 1)) _ _ s
 rw[LI];exact wpAny_pure h
theorem LJ(xs:Array Value)(i k:Nat):((dY k).filterMap λ(m:Nat)=>xs[((i:Int)+(m:Int)*1).toNat]?).toArray=((xs.toList.drop i).take k).toArray:=by
 have e:(λ(m:Nat)=>xs[((i:Int)+(m:Int)*1).toNat]?)=λm=>xs[i+m]?:=by
  funext m
  have:((i:Int)+(m:Int)*1).toNat=i+m:=by lia
  rw[this]
 rw[e]
 have:=pick_run xs i k
 rw[Yr]at this
 have a:((λx=>xs[x]?)∘λx=>i+x)=λm=>xs[i+m]?:=rfl
 rw[a]at this;rw[this]
theorem LK{t e:Addr}{a:Array Value}{n p:Value}{lo c:Option Int}{Q:Value->ao->Prop}(d:IsTup s.heap t a)(r:s.heap.IsSliceOf e n p .none)(u:lX n lo)(v:lX p c)
  (hw:¬(aV a.size 0 lo=0/\aV a.size a.size c=a.size))
  (h:Q (.ref s.heap.objs.size) { s with heap:=s.heap.push { cls:=.type "tuple",data:=.seq ((a.toList.drop (aV a.size 0 lo)).take (aV a.size a.size c-aV a.size 0 lo)).toArray } })
  (hsz:a.size<=aB):wpAny (model prog w) A (jY (.ref t) (.ref e)) Q E s:=by
 have b:sizeOk (.seq ((a.toList.drop (aV a.size 0 lo)).take (aV a.size a.size c-aV a.size 0 lo)).toArray):=by
  show((a.toList.drop (aV a.size 0 lo)).take (aV a.size a.size c-aV a.size 0 lo)).toArray.size<=aB
  rw[cH,lW,Ac,mQ];omega
 have y:aV a.size a.size c<=a.size:=wR _ _ (a5 _) c
 refine aP (id r) λos f g x=>?_
 have i:s.TypeIs (.ref e) "slice":=⟨os,f,g⟩
 unfold jY
 try with_reducible refine wpAny_holding ?_
 first | refine wpAny_bind (wpAny_pure ?_) | skip
 refine wpAny_bind (Ys d.typeIs (by decide) ?_)
 refine wpAny_bind (oi (name:=mR "__getitem__") d.typeIs su
  (jD su d.typeIs Yt ?_ (Yu _ _)))
 show wpAny _ _ (Iq (.ref t)>>=_) _ _ s
 refine wpAny_bind (tupleItemsOf_ d ?_);refine wpAny_bind (qq i ?_);rw[if_pos (by decide)];refine wpAny_bind (BI r u v ?_)
 have j:¬((((aV a.size 0 lo:Nat):Int)==0&&(1:Int)==1&&(aV a.size a.size c-aV a.size 0 lo)==a.size)=true):=by
  intro q;rw[bB,bB]at q
  have z:((aV a.size 0 lo:Nat):Int)=0:=eq_of_beq q.1.1
  have B:aV a.size a.size c-aV a.size 0 lo=a.size:=eq_of_beq q.2
  exact hw ⟨by lia,by omega⟩
 show wpAny _ _ (if(((aV a.size 0 lo:Nat):Int)==0&&(1:Int)==1&&(aV a.size a.size c-aV a.size 0 lo)==a.size)=true then _ else _) _ _ s
 rw[if_neg j,LJ]
 first
  | exact wpAny_bind (m:=sA _) (wpAny_newObj_type (wpAny_pure ⟨_,rfl,wpAny_pure h⟩) b)
  | exact wpAny_bind (m:=sA _) (wpAny_newObj_type (wpAny_bind (wpAny_pure (wpAny_pure ⟨_,rfl,wpAny_pure h⟩))) b)
  | exact wpAny_bind (wpAny_bind (m:=sA _) (wpAny_newObj_type (wpAny_pure (wpAny_pure ⟨_,rfl,wpAny_pure h⟩)) b))
  | exact wpAny_bind (wpAny_bind (m:=sA _) (wpAny_newObj_type (wpAny_pure ⟨_,rfl,wpAny_pure h⟩) b))
end
end HT
namespace L2
open PySem PySem.Spec PyProof.Rows
noncomputable abbrev TO:=St->Hp->(Option Int->Hp->Prop)->Prop
def PO(X:Cx)(e:Option Expr)(t:TO):Prop:=
 ∀(a:List (Addr × Obj))(s:ao)(b:St)(H:Hp)(Q:Option Int->Hp->Prop),Inv X a b H s->t b H Q->
  wpAny (model X.prog X.w) X.A (evalPart e X.env) (λu c=>∃o H',Inv X a b H' c/\lX u o/\Q o H') X.xe s
noncomputable def LL:TO:=λ_ H Q=>Q none H
noncomputable def LM(t:TE):TO:=λa H Q=>t a H λx b=>∃i,x=.int i/\Q (some i) b
section
variable {X:Cx}{e:Expr}{te:TE}{lo hi:Option Expr}{tl th:TO}{pos p2:Pos}
theorem LN:PO X none LL:=by
 intro a s b H Q I h;rw[evalPart_none];exact wpAny_pure ⟨none,H,I,.none,h⟩
theorem LO(h:PE X e te):PO X (some e) (LM te):=by
 intro a s b H Q I hw;rw[evalPart_some]
 refine aK (h a s b H _ I hw) λu m c=>?_
 obtain⟨x,d,f,g,j⟩:=c;obtain⟨i,rfl,q⟩:=j;obtain⟨t,rfl⟩:=g;exact⟨some i,d,f,.int i t,q⟩
def k9(X:Cx)(r:V->Option Int->Option Int->Hp->VK->Prop):Prop:=
 ∀(a:List (Addr × Obj))(s:ao)(b:St)(H:Hp)(x:V)(v c d:Value)(lo hi:Option Int)(f:Addr)(Q:VK),Inv X a b H s->RelV x v->s.heap.IsSliceOf f c d .none->lX c lo->lX d hi->r x lo hi H Q->
  ∃T id,sC (.type T) "__getitem__"=pure (some (.builtin id))/\s.TypeIs v T/\wpAny (model X.prog X.w) X.A (jY v (.ref f)) (EP X a b Q) X.xe s
theorem k9.or(h:k9 X r)(h':k9 X n):k9 X (λx lo hi H Q=>r x lo hi H Q\/n x lo hi H Q):=by
 intro a s b H x v c d lo hi f Q I g i j m q;rcases q with q | q
 ·exact h a s b H x v c d lo hi f Q I g i j m q
 ·exact h' a s b H x v c d lo hi f Q I g i j m q
noncomputable def LP(r:V->Option Int->Option Int->Hp->VK->Prop)(te:TE)(tl th:TO):TE:=λa H Q=>te a H λx b=>tl a b λl H2=>th a H2 λu c=>r x l u c Q
theorem LQ(m:k9 X r)(n:PE X e te)(p:PO X lo tl)(t:PO X hi th):PE X (.Subscript e (.Slice lo hi none p2) pos) (LP r te tl th):=by
 intro a s d H Q I h;refine Subscript_ (aK (n a s d H _ I h) λv y i=>?_);obtain⟨x,z,B,C,E⟩:=i;refine wpAny_Slice (aK (p a y d z _ B E) λf G ⟨l,H2,J,L,M⟩=>aK (t a G d H2 _ J M) λg c i=>?_);obtain⟨u,j,N,O,U⟩:=i;rw[evalPart_none];refine wpAny_pure ?_
 have Y:Inv X a d j { c with heap:=c.heap.push { cls:=.type "slice",data:=.fields #[f,g,.none] } }:=N.kept (t':=c.toks) λb ob q=>bx _ q
 obtain⟨T,id,hT,ht,hg⟩:=m a { c with heap:=c.heap.push { cls:=.type "slice",data:=.fields #[f,g,.none] } } d j x v f g l u c.heap.objs.size Q Y C (Zsx ..) L O U
 show wpAny (model X.prog X.w) X.A (Ir e (.Slice lo hi none p2) v (.ref c.heap.objs.size)) (EP X a d Q) X.xe { c with heap:=c.heap.push { cls:=.type "slice",data:=.fields #[f,g,.none] } }
 exact tail_any (ops:=[.ref c.heap.objs.size,v]) ht hT hg (by rfl)
def k_(xs:List V)(lo hi:Option Int):List V:=(xs.drop (HT.aV xs.length 0 lo)).take (HT.aV xs.length xs.length hi-HT.aV xs.length 0 lo)
theorem BJ(xs:List V)(lo hi:Option Int):(k_ xs lo hi).length<=xs.length:=by
 grind[k_,lW,Ac]
def LR(K:aw):V->Option Int->Option Int->Hp->VK->Prop:=λx lo hi H Q=>∃a xs,x=.ref a/\cx K H a xs∧
 ¬(HT.aV xs.length 0 lo=0/\HT.aV xs.length xs.length hi=xs.length)/\∀p,H p=none->Q (.ref p) (upd H p (.tup (k_ xs lo hi)))
theorem LS:k9 X (LR X.K):=by
 intro f s t H x v u w lo hi y Q I i j m n h
 refine dq h λa xs c p hw q=>?_;clear h;subst c
 cases i
 refine aP (I.tuple p) λd r g hz=>?_
 have hlen:d.toArray.size=xs.length:=by rw[cH];exact r.length.symm
 refine⟨"tuple",_,su.lookup,g.typeIs,?_⟩;refine HT.LK g j m n (by rw[hlen];exact hw) ?_ (by lia);rw[hlen];refine⟨.ref s.heap.objs.size,_,I.laid (t':=s.toks) (o:=.tup (k_ xs lo hi)) (λb z q=>bx _ q) (a5 _) ?_,rfl,q _ (I.aR.fresh (a5 _))⟩;exact⟨cj (BJ xs lo hi) hz,_,(r.drop (HT.aV xs.length 0 lo)).take (HT.aV xs.length xs.length hi-HT.aV xs.length 0 lo),vS _ _⟩
def LU(K:aw):R2:=λx y H Q=>∃a b xs ys,x=.ref a/\y=.ref b/\cx K H a xs/\cx K H b ys/\xs≠[]/\xs.length+ys.length<=aB∧
 (ys=[]->Q (.ref a) H)/\(ys≠[]->∀p,H p=none->Q (.ref p) (upd H p (.tup (xs++ys))))
theorem Vals.wV(r:Vals xs us):us=[]↔xs=[]:=by
 cases r with
 | nil=>simp
 | cons _ _=>simp
theorem LV:cq X (dw .Add) (LU X.K):=by
 intro m s L H x y v u Q I p r h
 refine dd h λa b xs c=>eh c λys g i t d=>kc d λA B hz C E=>?_;clear h c d;subst g;subst i
 cases p;cases r
 refine aP (I.tuple t) λG j J _=>?_
 refine aP (I.tuple A) λn f p2 _=>?_
 refine HT.LG J p2 (λz=>B (j.wV.mp z)) (λz=>⟨.ref a,H,I,rfl,C (f.wV.mp z)⟩) (λz=>?_) (by rw[<-j.length,<-f.length];exact hz);refine⟨.ref s.heap.objs.size,_,I.laid (t':=s.toks) (o:=.tup (xs++ys)) (λb M q=>bx _ q) (a5 _) ?_,rfl,E (λw=>z (f.wV.mpr w)) _ (I.aR.fresh (a5 _))⟩;exact⟨by simp_all,_,j.append f,vS _ _⟩
end
noncomputable def hH(n:Nat)(i:Int):Option Nat:=if 0<=i then(if i<n then some i.toNat else none)else if-(n:Int)<=i then some (i+n).toNat else none
def bA{a:Type}(xs:List a)(i:Int):Option a:=(hH xs.length i).bind λj=>xs[j]?
theorem BL{n:Nat}{i:Int}{j:Nat}(h:hH n i=some j):seqIndex? i n=some j/\j<n/\ -(n:Int)<=i/\i<n:=by
 unfold hH at h
 by_cases b:0<=i
 ·rw[if_pos b]at h
  by_cases a:i<n
  ·rw[if_pos a]at h
   grind[gr,Iu]
  simp_all
 ·rw[if_neg b]at h
  by_cases a: -(n:Int)<=i
  ·rw[if_pos a]at h
   grind[gr,seqIndex_neg]
  simp_all
theorem wW{a:Type}{xs:List a}{i:Int}{v:a}(h:bA xs i=some v):∃j,seqIndex? i xs.length=some j/\xs[j]?=some v/\j<xs.length/\ -(xs.length:Int)<=i/\i<xs.length:=by
 grind[bA,hH,BL]
theorem wX{a:Type}{xs:List a}{j:Nat}{v:a}(h:xs[j]?=some v):bA xs (j:Int)=some v:=by
 have b:j<xs.length:=(cA.mp h).1
 simp_all[hH,if_pos,bA]
def BM(b:Expr):Prop:=∀o i,vT b false o i=operate [o,i] (jY o i)
def lg(X:Cx)(r:R2):Prop:=
 ∀(c a:Expr)(b:List (Addr × Obj))(s:ao)(d:St)(H:Hp)(x y:V)(v u:Value)(Q:VK),Inv X b d H s->RelV x v->RelV y u->r x y H Q->
  vT a false v u=operate [v,u] (jY v u)->wpAny (model X.prog X.w) X.A (Ir c a v u) (EP X b d Q) X.xe s
def tr(X:Cx)(id:String)(r:V->List V->Hp->VK->Prop):Prop:=
 ∀(a:List (Addr × Obj))(s:ao)(b:St)(H:Hp)(x:V)(xs:List V)(v:Value)(us:List Value)(Q:VK),Inv X a b H s->RelV x v->Vals xs us->r x xs H Q->
  wpAny (model X.prog X.w) X.A (call (.builtin id) (v::us)) (EP X a b Q) X.xe s
section
variable {X:Cx}{a b:Expr}{ta tb:TE}{pos:Pos}
theorem lg.or(h:lg X r)(h':lg X m):lg X (λx y H Q=>r x y H Q\/m x y H Q):=by
 intro c d e s f H x y v u Q I g i q j;rcases q with q | q
 ·exact h c d e s f H x y v u Q I g i q j
 ·exact h' c d e s f H x y v u Q I g i q j
theorem BN(d:lg X r)(e:PE X a ta)(f:PE X b tb)(g:BM b):PE X (.Subscript a b pos) (qM r ta tb):=by
 intro c s i H Q I h;exact Subscript_ (wJ e f I h λv u j x y H2 m n p q=>d a b c j i H2 x y v u Q m n p q (g _ _))
def BO(K:aw):R2:=λx y H Q=>∃p xs i v,x=.ref p/\y=.int i/\b8 K H p xs/\bA xs i=some v/\Q v H
def BP(K:aw):R2:=λx y H Q=>∃p xs i v,x=.ref p/\y=.int i/\cx K H p xs/\bA xs i=some v/\Q v H
def BQ:R2:=λx y H Q=>∃z i c,x=.str z/\y=.int i/\z.length<=aB/\bA z.cps.toList i=some c/\Q (.str ⟨#[c]⟩) H
theorem BR:lg X (BO X.K):=by
 intro m n d s L H x y v u Q I T U h M
 refine dd h λp xs i c=>eh c λz A B Y e=>bX e λhe q=>?_;clear h c e;subst A;subst B
 cases T;obtain⟨t,rfl⟩:=U
 refine aP (I.list Y) λC r E hz=>?_
 refine eh (wW he) λj g h2 h3 c=>bX c λh4 h5=>?_;clear c
 obtain⟨w,N,G⟩:=r.get h2
 have hl:=r.length
 have hn:=m4
 have f:EP X d L Q w s:=⟨z,H,I,G,q⟩
 by_cases O:0<=i
 ·have J:i.toNat=j:=by
   rw[Iu O h5]at g;exact gr g
  exact item_listR E.isList O (by lia) (by rw[J];simpa using N) f M
 ·have J:(i+(C.toArray.size:Int)).toNat=j:=by
   rw[seqIndex_neg (by lia) h4]at g;rw[cH,<-hl];exact gr g
  exact Yv (x:=w) E.isList.typeIs Yw.lookup
   (wpAny_getItem_list_neg (Q:=λr s'=>r=w/\EP X d L Q r s') E.isList (by omega) (by simp_all) (by lia) (by rw[J];simpa using N) ⟨rfl,f⟩) M
theorem LW:lg X (BP X.K):=by
 intro f g d s C H x y v u Q I G J h L
 refine dd h λp xs i c=>eh c λz m n M e=>bX e λN q=>?_;clear h c e;subst m;subst n
 cases G;obtain⟨t,rfl⟩:=J
 refine aP (I.tuple M) λO r E hz=>?_
 refine eh (wW N) λj Y T h3 c=>bX c λh4 h5=>?_;clear c
 obtain⟨w,ew,A⟩:=r.get T
 have hl:=r.length
 have hn:=m4
 have B:EP X d C Q w s:=⟨z,H,I,A,q⟩
 exact Yv (x:=w) E.typeIs slot_tuple_getitem.lookup
  (getItem_tuple (j:=j) (Q:=λr U=>r=w/\EP X d C Q r U) E (by lia) (by lia) (by simp_all) (by grind) ⟨rfl,B⟩) L
theorem LX:lg X BQ:=by
 intro e f n s L H x y v u Q I r w h A
 refine ey h λz i c g m d=>bK d λhz B q=>?_;clear h d;subst g;subst m
 obtain⟨t,rfl⟩:=r;obtain⟨t',rfl⟩:=w
 refine eh (wW B) λj p C M d=>bX d λE G=>?_;clear d
 have J:z.cps.toList.length=z.length:=by simp[Str.length]
 rw[J]at p E G
 have hn:=m4
 exact tail_any (Iv s z t) slot_str_getitem.lookup (getItem_str (c:=c) (by
  grind) (by rw[p];simpa using C) ⟨.str ⟨#[c]⟩,H,I.tok _,⟨_,rfl⟩,q⟩) A
def LY(K:aw):R2:=λx y H Q=>BO K x y H Q\/BP K x y H Q\/BQ x y H Q
theorem LZ:lg X (LY X.K):=BR.or (LW.or LX)
theorem L0(c:List Value)(n j:Nat)(u:Value):eZ (·.setIfInBounds j u) { cls:=.type "list",data:=.seq c.toArray n }={ cls:=.type "list",data:=.seq (c.set j u).toArray n }:=by
 simp[eZ]
theorem Inv.lst{s:ao}{xs:List V}(I:Inv X f g H s)(h:H p=some (.lst xs)):
  ∃(c:List Value)(n:Nat),Vals xs c/\s.heap.get? p=some { cls:=.type "list",data:=.seq c.toArray n }/\xs.length<=aB:=by
 refine bX (I.aR p _ h) λz d=>cz d λc n r e=>?_;clear d
 exact⟨c,n,r,e,z⟩
theorem Inv.L1{s:ao}{ys:List V}{c its':List Value}{n g:Nat}(I:Inv X d j H s)(h:H p=some (.lst xs))(m:s.heap.get? p=some { cls:=.type "list",data:=.seq c.toArray n })(i:f { cls:=.type "list",data:=.seq c.toArray n }={ cls:=.type "list",data:=.seq its'.toArray g })(r:Vals ys its')(hz:ys.length<=aB)(t:Nat):
  Inv X d j (upd H p (.lst ys)) { s with heap:=s.heap.update p f,toks:=t }:=by
 have e:(s.heap.update p f).get? p=some { cls:=.type "list",data:=.seq its'.toArray g }:=by
  rw[lY f m (by rw[i]<;>rfl),i]
 refine I.write (x:=p) (e:=p) (by rw[h];trivial) (.inl rfl) (λb u v q=>(Ad _ _ (cn v)).trans q) ⟨_,e⟩ ?_;exact⟨hz,its',g,r,e⟩
def L3:V->V->V->Hp->(Hp->Prop)->Prop:=λo i v H Q=>∃p xs k j,o=.ref p/\i=.int k/\H p=some (.lst xs)/\hH xs.length k=some j/\Q (upd H p (.lst (xs.set j v)))
theorem L4:Bf X L3:=by
 intro c s x H o i v E G u Q I y z A h
 refine dd h λp xs k d=>eh d λj f g w e=>bX e λB q=>?_;clear h d e;subst f;subst g
 cases y;obtain⟨t,rfl⟩:=z
 refine cM (I.lst w) λm n r C hz=>?_
 refine gA (BL B) λJ L M N=>?_
 have O:=r.length
 have hn:=m4
 have T:Inv X c x (upd H p (.lst (xs.set j v))) { s with heap:=s.heap.update p (eZ (·.setIfInBounds j u)) }:=
  I.L1 w C (L0 m n j u) (r.set A j) (by rw[iC];exact hz) s.toks
 grind[Iu,gr,PySem.W.ki_setAt,cH,seqIndex_neg,PySem.W.ki_setBack]
theorem L5(lo c:Option Int)(n:Nat):(vU lo c none n).1=((HT.aV n 0 lo:Nat):Int)/\(vU lo c none n).2.1=((HT.aV n n c:Nat):Int)/\(vU lo c none n).2.2=1:=by
 refine⟨?_,?_,rfl⟩
 ·cases lo with
  | none=>rfl
  | some i=>
   simp only[vU,HT.aV,Yx,show(1:Int)>0 by decide,if_true]
   grind
 ·cases c with
  | none=>rfl
  | some i=>
   simp only[vU,HT.aV,Yx,show(1:Int)>0 by decide,if_true]
   grind
theorem L6(c:List Value)(lo d:Option Int):slicePick c.toArray lo d none=((c.drop (HT.aV c.length 0 lo)).take (HT.aV c.length c.length d-HT.aV c.length 0 lo)).toArray:=by
 obtain⟨e,f,g⟩:=L5 lo d c.toArray.size;unfold slicePick;rw[e,f,g]
 simp only[sliceRange_one,pick_run,cH]<;>rfl
def L7(K:aw):V->Option Int->Option Int->Hp->VK->Prop:=λx lo c H Q=>∃a xs,x=.ref a/\b8 K H a xs/\∀p,H p=none->Q (.ref p) (upd H p (.lst (k_ xs lo c)))
theorem L8:k9 X (L7 X.K):=by
 intro e s t H x v u w lo c y Q I g i j m h
 refine cM h λa xs d n q=>?_;clear h;subst d
 cases g
 refine aP (I.list n) λp r f hz=>?_
 have hlen:=r.length
 refine⟨"list",_,Yw.lookup,f.isList.typeIs,?_⟩;refine wpAny_getItem_list_slice f.isList i j m .none (by simp) ?_ (by simp_all);rw[L6,<-hlen];refine⟨.ref s.heap.objs.size,_,I.laid (t':=s.toks) (o:=.lst (k_ xs lo c)) (λb z q=>bx _ q) (a5 _) ?_,rfl,q _ (I.aR.fresh (a5 _))⟩;exact⟨cj (BJ xs lo c) hz,_,0,(r.drop (HT.aV xs.length 0 lo)).take (HT.aV xs.length xs.length c-HT.aV xs.length 0 lo),cL _ rfl⟩
theorem wY:gP X (.builtin "len") (λxs H Q=>∃p ys,xs=[.ref p]/\(b8 X.K H p ys\/cx X.K H p ys)/\Q (.int ys.length) H):=by
 intro g s j H xs us Q I r h
 refine cM h λp ys c hq q=>?_;clear h;subst c
 obtain⟨u,rfl,i⟩:=gQ r;cases i
 have hn:=m4
 rcases hq with hq | hq
 ·refine aP (I.list hq) λd e f hz=>?_
  have hlen:=e.length
  exact Calls.call_len_list f.isList (by grind) ⟨.int ys.length,H,I.tok _,⟨s.toks+1,by rw[cH,hlen]⟩,q⟩
 ·refine aP (I.tuple hq) λd e f hz=>?_
  have hlen:=e.length
  exact len_tuple f (by grind) ⟨.int ys.length,H,I.tok _,⟨s.toks+1,by rw[cH,hlen]⟩,q⟩
theorem L9:gP X (.builtin "len") (λxs H Q=>∃z,xs=[.str z]/\z.length<=aB/\Q (.int z.length) H):=by
 intro f s g H xs us Q I r h
 refine aP h λz c hz q=>?_;clear h;subst c
 refine b5 (gQ r) λu c d=>gz d λt e=>?_;clear d;subst c;subst e
 have hn:=m4
 exact len_str (by lia) ⟨.int z.length,H,I.tok _,⟨_,rfl⟩,q⟩
theorem L_:gP X (.type "list") (λxs H Q=>∃p ys,xs=[.ref p]/\(b8 X.K H p ys\/cx X.K H p ys)/\∀l,H l=none->Q (.ref l) (upd H l (.lst ys))):=by
 intro f s z H xs us Q I r h
 refine cM h λp ys j hq q=>?_;clear h;subst j
 obtain⟨u,rfl,A⟩:=gQ r;cases A
 have B:∀(c:List Value),Vals ys c->ys.length<=aB->∀(h':Heap)(m:Nat),(∀b y,s.heap.get? b=some y->h'.get? b=some y)->
   h'.get? s.heap.objs.size=some { cls:=.type "list",dict:=none,data:=.seq c.toArray m,slots:= #[] }->EP X f z Q (.ref s.heap.objs.size) { s with heap:=h' }:=λc g hz h' m C e=>
  ⟨.ref s.heap.objs.size,_,I.laid (t':=s.toks) C (a5 _) (show dB X.prog X.w _ h' _ (.lst ys) from⟨hz,c,m,g,e⟩),rfl,q _ (I.aR.fresh (a5 _))⟩
 rcases hq with hq | hq
 ·refine aP (I.list hq) λc g i hz=>?_
  have hlen:=g.length
  refine aP i.isList λo t v d=>gz d λn x=>?_;clear d
  exact call_list_seq p (.inl rfl) t v x (by grind) (by simp_all)
 ·refine aP (I.tuple hq) λc g i hz=>?_
  have hlen:=g.length
  refine aP i λo t v d=>gz d λn x=>?_;clear i d
  exact call_list_seq p (.inr rfl) t v x (by grind) (by simp_all)
theorem BS:gP X (.type "tuple") (λxs H Q=>∃p ys,xs=[.ref p]/\((b8 X.K H p ys/\∀l,H l=none->Q (.ref l) (upd H l (.tup ys)))\/(cx X.K H p ys/\Q (.ref p) H))):=by
 intro c s j H xs us Q I r h;obtain⟨p,ys,rfl,h⟩:=h;obtain⟨u,rfl,n⟩:=gQ r;cases n;rcases h with⟨f,q⟩ | ⟨f,q⟩
 ·obtain⟨d,g,i,hz⟩:=I.list f
  have hlen:=g.length
  refine call_tuple_list i.isList (λh' t=>?_) (by simp_all)
  have m:Inv X c j H { s with heap:=h' }:=I.kept (t':=s.toks) t
  have v:Inv X c j (upd H h'.objs.size (.tup ys)) { s with heap:=h'.push { cls:=.type "tuple",data:=.seq d.toArray } }:=
   m.laid (t':=s.toks) (λb o e=>bx _ e) (a5 _) (show dB X.prog X.w _ _ _ (.tup ys) from⟨hz,d,g,vS _ _⟩)
  exact⟨.ref h'.objs.size,_,v,rfl,q _ (m.aR.fresh (a5 _))⟩
 ·obtain⟨d,g,i,hz⟩:=I.tuple f
  exact call_tuple_same i ⟨.ref p,H,I,rfl,q⟩
def tw(K:aw)(T:String)(x:V)(H:Hp):Prop:=match x with
 | .str _=>T="str"
 | .int _=>T="int"
 | .ref p=>(T="list"/\∃xs,b8 K H p xs)\/(T="tuple"/\∃o,K.lookup p=some o/\o.cls=.type "tuple"/\o.dict=none)∨
   (T="dict"/\((∃c,H p=some (.dK c))\/∃c,H p=some (.dT c)))\/(T="set"/\∃S n,H p=some (.set S n))
 | _=>False
theorem BU{s:ao}(I:Inv X y G H s)(r:RelV x v)(j:tw X.K T x H):
  s.TypeIs v T/\∀a,v=.ref a->∃A,s.heap.get? a=some A/\A.dict=none:=by
 cases x with
 | str z=>
  obtain⟨t,rfl⟩:=r;cases(show T="str" from j);exact⟨Iv s z t,λ_ e=>nomatch e⟩
 | int i=>
  obtain⟨t,rfl⟩:=r;cases(show T="int" from j);exact⟨typeIs_int s i t,λ_ e=>nomatch e⟩
 | ref p=>
  cases r;rcases j with⟨rfl,xs,B⟩ | ⟨rfl,o,g,C,m⟩ | ⟨rfl,g⟩ | ⟨rfl,S,n,g⟩
  ·refine aP (I.list B) λE _ q _=>?_
   refine⟨q.isList.typeIs,λa e=>?_⟩;cases e
   refine dq q λo n e c m _=>?_;clear q
   exact⟨o,e,m⟩
  ·refine⟨⟨o,I.hD p o g,C⟩,λa e=>?_⟩
   cases e;exact⟨o,I.hD _ o g,m⟩
  ·have z:∃o,s.heap.get? p=some o/\o.ExactDict:=by
    rcases g with⟨u,g⟩ | ⟨u,g⟩
    ·refine bK (I.aR p _ g) λ_ _ d=>b5 d λ_ _ f=>ey f λo _ _ e h _=>?_;clear d f
     exact⟨o,e,h⟩
    ·refine bK (I.aR p _ g) λ_ _ d=>b5 d λ_ _ f=>ey f λo _ _ e h _=>?_;clear d f
     exact⟨o,e,h⟩
   obtain⟨o,e,h⟩:=z;refine⟨⟨o,e,h.1⟩,λa w=>?_⟩;cases w;exact⟨o,e,h.2.1⟩
  ·refine dd (I.aR p _ g) λo _ _ d=>aP d λ_ e h _=>?_;clear d
   refine⟨⟨o,e,h.1⟩,λa w=>?_⟩;cases w;exact⟨o,e,h.2.1⟩
 | _=>exact dE j
noncomputable def Ma(K:aw)(T:String)(r:V->List V->Hp->VK->Prop)(d:TE):TE:=λe H Q=>d e H λx c=>tw K T x c/\r x [] c Q
noncomputable def Mb(K:aw)(T:String)(r:V->List V->Hp->VK->Prop)(e:TE)(t:TA):TE:=λc H Q=>e c H λx d=>tw K T x d/\t c d λxs H2=>r x xs H2 Q
variable {o e:Expr}{es:List Expr}{to:TE}{t:TA}{name:Str}{apos ji:Pos}{T id:String}{r:V->List V->Hp->VK->Prop}
theorem Mc(p:PlainAttrs T)(g:Slot T name id)(i:typeOf (.builtin id)=pure (.type "method_descriptor"))(q:tr X id r)(u:PE X o to)
  (d:Ae o name X.env (eval o X.env)=eval o X.env:=by rfl) (f:(apos.endLine==ji.line)=true:=by rfl):PE X (.Call (.Attribute o name apos) [] [] ji) (Ma X.K T r to):=by
 intro c s j H Q I h;refine wpAny_Call_method0_late d f (aK (u c s j H _ I h) λv w y=>?_);obtain⟨x,z,m,n,A,B⟩:=y;obtain⟨C,E⟩:=BU m n A;exact⟨T,id,p,g,i,C,E,Yy rfl (PySem.evalArgs_none (q c w j z x [] v [] Q m n .nil B))⟩
theorem md(w:PlainAttrs T)(i:Slot T name id)(m:typeOf (.builtin id)=pure (.type "method_descriptor"))(y:tr X id r)(z:PE X o to)(A:PA X (e::es) t)
  (f:Ae o name X.env (eval o X.env)=eval o X.env:=by rfl)
  (j:((g7 ji (bq (e::es) X.env)).all (λx=>!x.1)&&(backToKw ji (keywordEach [] X.env)).all (λx=>x.1.isSome)
   &&decide ((e::es).length+([]:List vP).length+(if([]:List vP).isEmpty then 0 else 1)<30))=true:=by rfl)
  (g:(apos.endLine==ji.line)=true:=by rfl) (B:bq (e::es) X.env=(false,eval e X.env)::bq es X.env:=by rfl) (d:(g7 ji (bq es X.env)).any (·.1)=false:=by rfl):
  PE X (.Call (.Attribute o name apos) (e::es) [] ji) (Mb X.K T r to t):=by
 intro c s n H Q I h;refine wpAny_Call_method_late f j g rfl (aK (z c s n H _ I h) λv C E=>?_);obtain⟨x,G,p,q,J,L⟩:=E;obtain⟨M,N⟩:=BU p q J;refine⟨T,id,w,i,m,M,N,?_⟩
 have u:=A ji c C n G _ p L
 rw[B]at u ⊢;refine Yy (by show(false||(g7 ji (bq es X.env)).any (·.1))=false;rw[d]<;>rfl) (Calls.evalArgs_plain ?_)
 exact aK u<|by rintro us O ⟨vs,H2,U,Y,q2⟩;exact y c O n H2 x vs v us Q U q Y q2
end
def tE(X:Cx)(id:String)(r:V->List V->Hp->VK->Prop):Prop:=
 ∀(a:List (Addr × Obj))(s:ao)(b:St)(H:Hp)(x:V)(xs:List V)(v:Value)(us:List Value)(Q:VK),Inv X a b H s->RelV x v->Vals xs us->r x xs H Q->
  wpAny (model X.prog X.w) X.A (call (.builtin id) (v::us)) (EP X a b Q) X.xe s
theorem Vals.one{x:V}{us:List Value}(h:Vals [x] us):∃u,us=[u]/\RelV x u:=by
 cases h with
 | cons r t=>cases t;exact⟨_,rfl,r⟩
theorem Vals.zero:∀{us:List Value},Vals [] us->us=[]
 | _,.nil=>rfl
theorem Vals.dropLast{xs:List V}{us:List Value}(h:Vals xs us):Vals xs.dropLast us.dropLast:=by
 induction h with
 | nil=>exact .nil
 | cons r t a=>
  cases t with
  | nil=>exact .nil
  | cons q t'=>exact .cons r a
section
variable {X:Cx}{pins:List (Addr × Obj)}{σ:St}{H:Hp}{s:ao}{l b:Addr}{xs ys zs:List V}
theorem Inv.tF{a its':List Value}{n:Nat}{t':Nat}(I:Inv X pins σ H s)(c:H l=some (.lst xs))(e:s.heap.get? l=some { cls:=.type "list",data:=.seq a.toArray n })(d:f a.toArray=its'.toArray)(g:Vals ys its')(hz:ys.length<=aB):
  Inv X pins σ (upd H l (.lst ys)) { s with heap:=s.heap.update l (eZ f),toks:=t' }:=by
 have q:=PySem.IsL.update e f
 rw[d]at q;refine I.write (x:=l) (e:=l) (by rw[c];exact trivial) (.inl rfl) (λj u h i=>(Ad s.heap (eZ f) (cn h)).trans i) ⟨_,q⟩ ?_;exact⟨hz,its',_,g,q⟩
theorem Inv.Md{a:List Value}{t':Nat}(I:Inv X pins σ H s)(c:Vals ys a)(hz:ys.length<=aB):
  Inv X pins σ (upd H s.heap.objs.size (.lst ys)) { s with heap:=s.heap.push { cls:=.type "list",data:=.seq a.toArray },toks:=t' }:=
 I.laid (λ_ _ q=>bx _ q) (a5 _) ⟨hz,a,0,c,cL _ rfl⟩
theorem Inv.fresh(I:Inv X pins σ H s):H s.heap.objs.size=none:=I.aR.fresh (a5 _)
theorem Inv.qO(I:Inv X pins σ H s)(d:H l=some (.lst xs)):xs.length<=aB/\∃(a:List Value)(n:Nat),Vals xs a/\xs.length=a.length/\s.heap.get? l=some { cls:=.type "list",data:=.seq a.toArray n }:=by
 refine bX (I.aR l _ d) λz c=>cz c λa n r e=>?_;clear c
 exact⟨z,a,n,r,r.length,e⟩
theorem BV{n:Nat}(h:n<=aB):Af n=false:=by
 unfold Af;exact decide_eq_false (by lia)
end
section
variable {X:Cx}
def Me:V->List V->Hp->VK->Prop:=λx vs H Q=>∃l xs y,x=.ref l/\vs=[y]/\H l=some (.lst xs)/\xs.length<aB/\Q .ay (upd H l (.lst (xs++[y])))
theorem tG:tE X "list.append" Me:=by
 intro f s p H x vs v us Q I i j h
 refine ey h λl xs y c d a=>bK a λg hz q=>?_;clear h a;subst c;subst d
 cases i;obtain⟨u,rfl,m⟩:=j.one
 refine bX (I.qO g) λz a=>cM a λb n r t e=>?_;clear a
 refine vV F.slot_list_append ⟨_,e,rfl⟩ F.entry_list_append (F.args_list_append_2 _ _) (PySem.list_append l b.toArray n u (by simp_all)) ⟨e,?_⟩;refine⟨.ay,_,I.tF (its':=b++[u]) g e (by simp) (r.append (.cons m .nil)) ?_,rfl,q⟩
 grind
def Mf:V->List V->Hp->VK->Prop:=λx vs H Q=>∃l b xs a,x=.ref l/\vs=[.ref b]/\H l=some (.lst xs)/\H b=some (.lst a)/\xs.length+a.length<=aB/\Q .ay (upd H l (.lst (xs++a)))
theorem Zip:tE X "list.extend" Mf:=by
 intro m s G H x vs v us Q I t w h
 refine dd h λl b xs a=>eh a λJ i j p g=>bK g λy hz q=>?_;clear h a g;subst i;subst j
 cases t;obtain⟨u,rfl,A⟩:=w.one;cases A
 refine bX (I.qO p) λz a=>cM a λd n r L e=>?_;clear a
 refine bX (I.qO y) λM a=>cM a λc n2 B C E=>?_;clear a
 have hsz:d.toArray.size+c.toArray.size<=aB:=by rw[cH,cH];lia
 have f:¬(!d.toArray.isEmpty&&Af (d.toArray.size+c.toArray.size))=true:=by
  rw[BV hsz,qr];exact bP
 refine vV Yz ⟨_,e,rfl⟩ YA (YB _ _)
  (YC l d.toArray n b c.toArray n2 f (by rw[cH];lia) (fo hsz)) ⟨e,E,?_⟩
 refine⟨.ay,_,I.tF (its':=d++c) p e (by simp) (r.append B) ?_,rfl,q⟩;rw[bQ];omega
def Mg:V->List V->Hp->VK->Prop:=λx vs H Q=>∃l xs y,x=.ref l/\vs=[]/\H l=some (.lst xs)/\xs[xs.length-1]?=some y/\Q y (upd H l (.lst xs.dropLast))
theorem Mh:tE X "list.pop" Mg:=by
 intro i s C H x vs v us Q I m p h
 refine ey h λl xs y c d b=>bK b λj t q=>?_;clear h b;subst c;subst d
 cases m
 have f:=p.zero
 subst f
 refine bX (I.qO j) λz b=>cM b λa n r w e=>?_;clear b
 obtain⟨u,A,B⟩:=r.get t
 have g:a.toArray[a.toArray.size-1]?=some u:=by
  show a.toArray[a.length-1]?=some u
  rw[<-sD,<-w];exact A
 refine vV F.slot_list_pop ⟨_,e,rfl⟩ F.entry_list_pop (F.args_list_pop_1 _) (MeetsSeq.list_pop_last l a.toArray n u g (by simp_all)) ⟨e,?_⟩;refine⟨y,_,I.tF (its':=a.dropLast) j e ?_ r.dropLast ?_,B,q⟩
 ·simp
 grind
end
section
variable {prog:a6}{w:World}{A:a8}{E:Value->ao->Prop}{s:ao}
end
section
variable {X:Cx}
end
end L2
namespace BW
open PySem PySem.W PySem.Calls PyProof.Rows
theorem Mi:∀(ns:List Int)(vs:List Value),WellAll P h vs (ns.map WData.int)->qs vs ns:=by
 intro ns
 induction ns with
 | nil=>
  intro vs w;rw[qt]at w;cases w;exact .nil
 | cons n ns c=>
  intro vs w;rw[a_]at w
  cases w with
  | cons a b=>
   cases a;exact .cons _ _ (c _ b)
theorem Mj{l:OpenLaw}{n:Nat}(hn:l.most=some n){h:Heap}(b:l.row.toRowW.claim.pre args=true)(g:WellAll P h c args):
  ∃a vs ns,c=[eY a]/\args=[WData.list (ns.map WData.int)]/\h.get? a=some { cls:=.type "list",data:=.seq vs.toArray }/\qs vs ns/\ns.length<=n:=by
 have i:WShape.hasAll [] args [.list .int]=true:=(pre_splitW b).1
 have m:l.pre.holds [] { args:=args }=true:=(pre_splitW b).2
 refine cM (hasAllW_cons i) λd r j s t=>?_;subst j
 obtain rfl:=hasAllW_nil t;obtain⟨xs,rfl,u⟩:=hasW_list s;obtain⟨ns,rfl⟩:=items_int u
 have hlen:ns.length<=n:=by
  unfold OpenLaw.pre at m
  have f:(WTm.not (.lt (.lit (.int (n:Int))) (.len (.arg 0)))).holds [] { args:=[.list (ns.map .int)] }=true:=by
   have f:=(holds_andW m).1
   rw[hn]at f;exact f
  have p:=condW_of f (by rfl)
  rw[aJ]at p
  refine YD λq=>?_
  have y:(n:Int)<((ns.length:Nat):Int):=by omega
  first
   | simp_all
   | (simp at p;omega)
 cases g with
 | cons v w=>
  cases w
  cases v with
  | list x e=>exact⟨_,_,ns,rfl,rfl,x,Mi ns _ e,hlen⟩
theorem Mk(l:OpenLaw)(args:List WData):l.row.toRowW.claim.post args (.bool true) args=true:=
 postW_of (r:=l.row.toRowW) (X:=(true==true))
  (by rfl)
  (show(WTm.eq .res (.lit (.bool true))).value [] { args:=args,res:=some (.bool true),after:=args }=some (.bool (true==true)) from w_eq_bool (w_res rfl) w_lit) rfl
theorem Ml{l:OpenLaw}{n:Nat}{d:DefRec}(hn:l.most=some n)(t:d.params.defaults=[])(call:∀(w:World)(c b:ao)(m u:Str->Option Value)(fa:Addr)(o:Obj)(v p doc:Value)(a:Addr)(vs:List Value)(ns:List Int),
   Ground q e [] L w c m u b.heap->M w b.heap->
   b.heap.get? fa=some o->o.data=.func (docDef d.name d.params d.body d.scope v p doc)->b.heap.CodeRec p d.name->m d.name=some (.ref fa)->
   b.heap.get? a=some { cls:=.type "list",data:=.seq vs.toArray }->qs vs ns->ns.length<=n->b.gens= #[]->
   qm (model l.prog w) oj (.call (.ref fa) ⟨[.ref a],[]⟩) (λr s=>r=.ok (.ret (.bool true))/\OldK b.heap s.heap/\s.os=b.os/\mN s.gens) b):
  WalkO q e L M l.row.toRowW d [] (λf vs=>Iw f vs):=by
 intro w c b m u G Y fa o v p doc N kV O Q x E y T args H as h I U z hlo;obtain rfl:N=.none:=Dflts.none E t;obtain rfl:kV=.none:=Dflts.noKw E
 refine ey (Mj hn h z) λa vs ns A B i=>bK i λj g hlen=>?_;clear i;subst A;subst B
 refine enter_call (qo (call w c b m u fa o v p doc a vs ns G Y O (fd_plain Q) x y j g hlen T) λr s J=>?_)
 refine gA J λC h2 h3 h4=>?_;clear J;subst C
 exact⟨.inl ⟨.bool true,.bool true,[],rfl,λ_=>rfl,.bool true,Mk l _,λ_=>⟨Iy,λ_ hm=>(nomatch hm)⟩⟩,h2,h3,h4⟩
section
variable {prog:a6}{w:World}{A:a8}{E:Value->ao->Prop}{s:ao}{K:Frag}
end
end BW
namespace L2
open PySem PySem.Spec PyProof.Rows
theorem tH:∀{vs:List Value}{ns:List Int},qs vs ns->Vals (ns.map V.int) vs
 | _,_,.nil=>.nil
 | _,_,.cons n t h=>.cons ⟨t,rfl⟩ (tH h)
def wZ(H:Hp):Prop:=∀b,H b=none\/∃o xs,H b=some (.dA o (.lst xs))
theorem Mm{K:aw}{k:Nat}{c:ao}{vs:List Value}{ns:List Int}(KX:K.In c.heap)(y:c.heap.Ns jV N)(g:c.heap.Ns H0 mb)(Q:∀x:Str,x≠"__name__"->mb x=et x)(A:c.heap.NoLimit)(hg:c.gens= #[])(O:c.heap.get? a=some { cls:=.type "list",data:=.seq vs.toArray })(hi:qs vs ns)(hl:ns.length<=aB)(hr:bL k oj)(F:∀base:Heap,K.In base->base.Ns jV N->dS P w K N base CX k fa fd [x] sp)(t:∀(s:ao)(u:Value),vO s fd ⟨[u],[]⟩ [(x,u)])(T:∀H:Hp,wZ H->b8 K H a (ns.map V.int)->sp [.ref a] H (λv _=>v=.bl true) λ_ _ _=>False)(U:∀H e i,CX [] H c (λ_ _ _=>False) e i->False):
  qm (model P w) oj (.call (.ref fa) ⟨[.ref a],[]⟩) (λr i=>r=.ok (.ret (.bool true))/\OldK c.heap i.heap/\i.os=c.os/\mN i.gens) c:=by
 have rv:=tH hi
 have B:=hi.length
 have p:∀H:Hp,wZ H->b8 K H a (ns.map V.int)->de P w H c.heap->(∀b,H b≠none->b=a)->(H a≠none->K.lookup a=none)->
   qm (model P w) oj (.call (.ref fa) ⟨[.ref a],[]⟩) (λr i=>r=.ok (.ret (.bool true))/\OldK c.heap i.heap/\i.os=c.os/\mN i.gens) c:=by
  intro H hO hS C hA hK
  have f:∀{b:Addr}{o:Obj},c.heap.get? b=some o->H b=none->(k7 c.heap H).get? b=some o:=λe n=>JN e n
  have Y:∀{b:Addr}{o:Obj}{es:Array DictEntry}{E:Nat},c.heap.get? b=some o->o.data=.dict es E->H b=none:=λ{b o es E} e d=>by
   cases q:H b with
   | none=>rfl
   | some u=>
    have e':b=a:=hA b (by rw[q];simp)
    subst e'
    rw[O]at e;cases e
    have d':Data.seq vs.toArray _=Data.dict es E:=d
    cases d'
  have j:∀{b:Addr}{m:Str->Option Value},c.heap.Ns b m->(k7 c.heap H).Ns b m:=λ{b m} ⟨o,es,E,e,d,r⟩=>⟨o,es,E,f e (Y e d),d,r⟩
  have G:K.In (k7 c.heap H):=λb o e=>f (KX b o e) (by
   cases q:H b with
   | none=>rfl
   | some u=>
    have e':b=a:=hA b (by rw[q];simp)
    subst e'
    rw[hK (by rw[q];simp)]at e;cases e)
  have hM:Mod K N (k7 c.heap H):=⟨G,j y,⟨mb,j g,Q⟩,by obtain⟨mc,h1,h2⟩:=A;exact⟨mc,j h1,h2⟩⟩
  have e0:tq P w K N (k7 c.heap H) oj [] c H:=⟨rfl,hM,λb o e=>JP e,YE (JM _ _),trivial,λb g=>absurd (show b∈([]:List Addr) from g) (by simp),C,.of_eq hg⟩
  refine qo ((F _ G (j y)).run oj [] c H ⟨[.ref a],[]⟩ [.ref a] [.ref a] _ _ hr e0 (t c (.ref a)) (.cons rfl .nil) (T H hO hS)) λr i h=>?_
  cases r with
  | error e=>exact(U H e i h).elim
  | ok fl=>
   cases fl with
   | next=>exact dE h
   | brk=>exact dE h
   | cont=>exact dE h
   | ret u=>
    refine iE h λv H' os I un J L=>bX L λr' q=>?_;clear h L
    have q':v=.bl true:=q
    subst q';obtain rfl:u=jU true:=r';refine⟨rfl,OldK.of_keep λb o e=>?_,os,I⟩
    cases q:H b with
    | none=>exact un.keep b o e q (by intro z;exact absurd (show b∈([]:List Addr) from z) (by simp)) (by simp)
    | some u=>
     rcases hO b with z | ⟨ob,xs,z⟩
     ·rw[q]at z;cases z
     ·have z2:=un.iT b ob _ z
      obtain⟨e1,_⟩:=C b _ z;obtain⟨e2,_⟩:=J b _ z2
      rw[e]at e1;cases e1
      exact e2
 cases hk:K.lookup a with
 | some o=>
  have e:=KX a o hk
  rw[O]at e;cases e
  refine p (λ_=>none) (λ_=>.inl rfl) (.inr ⟨_,vs.toArray,_,hk,rfl,rfl,rfl,by rw[cH,B];exact hl,by simpa using rv⟩) (λb u z=>by have M:(none:Option HO)=some u:=z;cases M) (λb z=>absurd rfl z) λz=>absurd rfl z
 | none=>
  refine p (λb=>if b=a then some (.dA { cls:=.type "list",data:=.seq vs.toArray } (.lst (ns.map V.int)))else none) (λb=>?_) (.inl (.inr ⟨{ cls:=.type "list",data:=.seq vs.toArray },if_pos rfl⟩)) (λb u z=>?_) (λb z=>?_) λ_=>hk
  ·by_cases g:b=a
   ·exact .inr ⟨_,_,if_pos g⟩
   ·exact .inl (if_neg g)
  ·by_cases g:b=a
   ·have M:=(if_pos g).symm.trans z
    cases M;subst g;exact⟨O,by rw[aJ];exact hl,vs,_,rv,O⟩
   ·have M:=(if_neg g).symm.trans z
    cases M
  ·by_cases g:b=a
   ·exact g
   ·exact absurd (if_neg g) z
theorem Mn{l:YF}{n k:Nat}{q:a6}{c:List Str}{I:(Str->Option Value)->Heap->Prop}{C:World->Heap->Prop}{d:DefRec}{K:Params->aw}{CX:World->jH}{sp:World->Sp}{x:Str}
  (hn:l.most=some n) (r:n<=aB) (t:d.params.defaults=[]) (J:bL k oj)
  (L:∀(w:World)(h:Heap),C w h->(K w.params).In h)
  (F:∀(w:World)(j:Str->Option Value)(fa:Addr)(h:Heap),(K w.params).In h->h.Ns jV j->j d.name=some (.ref fa)->
   ∃y:d7,(∀(s:ao)(u:Value),vO s y ⟨[u],[]⟩ [(x,u)])∧
    ∀base:Heap,(K w.params).In base->base.Ns jV j->dS l.prog w (K w.params) j base (CX w) k fa y [x] (sp w))
  (M:∀(w:World)(H:Hp)(a:Addr)(ns:List Int),ns.length<=n->wZ H->b8 (K w.params) H a (ns.map V.int)->sp w [.ref a] H (λv _=>v=.bl true) λ_ _ _=>False)
  (z:∀(w:World)(H:Hp)(s:ao)(e:Value)(A:ao),CX w [] H s (λ_ _ _=>False) e A->False):
  YG q c I C l.row.toRowW d [] (λf vs=>Iw f vs):=by
 refine BW.Ml hn t λw E m j mb fa o pm cd doc a vs ns G Y ho hd N B p i hlen O=>?_
 have KX:=L w _ Y
 obtain⟨y,Q,U⟩:=F w j fa _ KX G.T.g B
 exact Mm KX G.T.g G.T.b G.T.builtins G.T.nolimit O p i (cj hlen r) J U Q (by grind) λH e A=>z w H m e A
noncomputable def m6(s:Stmt):Arguments:=match s with
 | .FunctionDef _ a _ _ _ _ _ _ _ _=>a
 | _=>{ posonlyargs:=[],args:=[],vararg:=none,kwonlyargs:=[],kw_defaults:=[],kwarg:=none,defaults:=[] }
noncomputable def iV(s:Stmt):List Stmt:=match s with
 | .FunctionDef _ _ b _ _ _ _ _ _ _=>b
 | _=>[]
noncomputable def dF(s:Stmt):Scope:=match s with
 | .FunctionDef _ _ _ _ _ _ sc _ _ _=>sc
 | _=>{ kind:=.function,names:=[],isGenerator:=false,isCoroutine:=false }
noncomputable abbrev dG:jH:=λ_ _ _ _ _ _=>False
noncomputable abbrev E0:XK:=λ_ _ _=>False
theorem BX:wQ dG X E0:=λ_ _ _ _ _ _ _ h=>h.elim
structure kl(K:aw)(x qual:Str)(st:Stmt)(f:Addr)(fd:d7):Prop where
 ex:∃(oc:Value)(od:Option Addr)(kV doc pm:Value)(an:Option Addr)(BY ct:Value)(Mo:Array (Option Value)),
  fd=oh x qual (m6 st) (iV st) (dF st) .none kV doc pm an BY ct/\K.lookup f=some ⟨oc,od,.func fd,Mo⟩/\Aa K BY qual=true
 kp:mP K (.ref f)=true
section
variable {P:a6}{w:World}{K:aw}{mg:Str->Option Value}{base:Heap}
theorem kl.ok{x b:Str}{st:Stmt}{f:Addr}{n:d7}{N ps:List Str}{k:Nat}{sp:Sp}(F:kl K x b st f n)(S:m5 N ps (dF st))(len:∀vs H Q E,sp vs H Q E->vs.length=ps.length)
  (d:∀(c:Value)(A:a8)(a:List Env)(s:ao)(H:Hp)(vs:List V)(Q:VK)(E:XK),bL k (A.deeper (iR b (dF st) s.heap.objs.size f c))->sp vs H Q E->
   ∃t,gd (jh dG P w K mg base N b (dF st) f c A a s H E).ki (iV st) t/\t { nx:=λ_ H'=>Q .ay H',rt:=Q } (start N vs) H):dS P w K mg base dG (k+1) f n ps sp:=by
 refine dd F.ex λu v kV e=>dd e λdoc y z g=>ey g λc B p i lk j=>?_;clear e g;subst i
 refine LF lk j S len λA a s H vs Q E r m=>?_
 obtain⟨t,h,q⟩:=d c A a s H vs Q E r m;exact⟨t,h.ki,q⟩
theorem kl.binds{x a:Str}{st:Stmt}{f:Addr}{m:d7}{ps:List Str}(F:kl K x a st f m)
  (h:∀(kV doc e:Value)(g:Option Addr)(b i:Value)(us:List Value),us.length=ps.length->bindArgs (oh x a (m6 st) (iV st) (dF st) .none kV doc e g b i) ⟨us,[]⟩=pure (ps.zip us)):jI K m ps []:=by
 refine dd F.ex λq r kV c=>dd c λdoc e g d=>ey d λb i n j lk p=>?_;clear c d;subst j
 exact .all (h kV doc e g b i)
theorem BZ{x a:Str}{st:Stmt}{f:Addr}{i:Value}{j e:Option Addr}{d:Array (Option Value)}{kV doc g b h:Value}(l:K.lookup f=some ⟨i,j,.func (oh x a (m6 st) (iV st) (dF st) .none kV doc g e b h),d⟩)
  (c:Aa K b a=true) (k:mP K (.ref f)=true):kl K x a st f (oh x a (m6 st) (iV st) (dF st) .none kV doc g e b h):=⟨(by grind),k⟩
end
theorem oV{A:a8}{k:Nat}(a:bL k A):A.units+1<cLine:=kX (by lia) a.units
theorem Mp{n:Nat}(h:n<=1000):n<aB:=kX h (by decide)
section
variable {X:Cx}
theorem pv(i:Nat)(b:X.N[i]?=some x:=by rfl)(c:eN X.env.scope x:=by first | exact Or.inl rfl | exact sE (Or.inl rfl) | exact sE (sE rfl))(d:(x==("__debug__":Str))=false:=by decide)(a:(x==("__classdict__":Str))=false:=by decide):PE X (.Name x e) (Ba i):=iU b c d a
end
def av(H H':Hp):Prop:=∀b o,H b=some o->H' b=some o
theorem av.refl(H:Hp):av H H:=λ_ _ h=>h
theorem av.trans(a:av H d)(b:av d H2):av H H2:=λc o h=>b c o (a c o h)
theorem av.seq{K:aw}{H H':Hp}{a:Addr}{xs:List V}(e:av H H')(h:b8 K H a xs):b8 K H' a xs:=by
 rcases h with(h | ⟨o,h⟩) | h
 ·exact .inl (.inl (e _ _ h))
 ·exact .inl (.inr ⟨o,e _ _ h⟩)
 ·exact .inr h
section
variable {κ:Type}[DecidableEq κ]
noncomputable def hV(a:List (κ × V))(k:κ):Option V:=(a.find? λb=>decide (b.1=k)).map (·.2)
noncomputable def putK(a:List (κ × V))(k:κ)(v:V):List (κ × V):=
 if(a.any λb=>decide (b.1=k))=true then a.map (λb=>if b.1=k then(b.1,v)else b)else a++[(k,v)]
theorem tI{p:κ × V}{r:List (κ × V)}{k:κ}(e:p.1=k):hV (p::r) k=some p.2:=by simp[hV,om,e]
theorem tJ{p:κ × V}{r:List (κ × V)}{k:κ}(e:¬p.1=k):hV (p::r) k=hV r k:=by simp[hV,om,e]
theorem B0(k:κ):∀a:List (κ × V),(a.any λb=>decide (b.1=k))=(hV a k).isSome
 | []=>rfl
 | p::r=>by
  rw[qu]
  by_cases e:p.1=k
  ·simp only[tI e,decide_eq_true e,Bool.true_or,Option.isSome_some]
  ·rw[tJ e,decide_eq_false e,Iz];exact B0 k r
theorem B1(a:List (κ × V))(k:κ)(v:V):(putK a k v).length<=a.length+1:=by
 unfold putK
 split
 ·rw[aJ];lia
 ·rw[bQ,bR,gL];lia
theorem gO.oW{o:Option V}{u:Option Value}(r:gO o u):o.isSome=u.isSome:=by
 cases o with
 | none=>cases u with
  | none=>rfl
  | some _=>exact(show False from r).elim
 | some _=>cases u with
  | none=>exact(show False from r).elim
  | some _=>rfl
theorem KV.val{a:List (κ × V)}{vs:List (κ × Value)}(r:KV a vs)(k:κ):gO (hV a k) (qv vs k):=by
 unfold KV at r
 induction r with
 | nil=>exact jZ
 | @cons p q ps c h t g=>
  obtain⟨f,i⟩:=h
  by_cases e:p.1=k
  ·have d:q.1=k:=f.symm.trans e
   have b:qv (q::c) k=some q.2:=by simp[qv,om,d]
   rw[tI e,b];exact i
  ·have d:¬q.1=k:=λz=>e (f.trans z)
   have b:qv (q::c) k=qv c k:=by simp[qv,om,d]
   rw[tJ e,b];exact g
theorem KV.any{a:List (κ × V)}{vs:List (κ × Value)}(r:KV a vs)(k:κ):(a.any λb=>decide (b.1=k))=vs.any λb=>decide (b.1=k):=by
 unfold KV at r
 induction r with
 | nil=>rfl
 | cons h t c=>rw[qu,qu,c,h.1]
theorem KV.w4{b:List (κ × V)}{vs:List (κ × Value)}(r:KV b vs)(k:κ)(d:RelV y u):
  KV (b.map λa=>if a.1=k then(a.1,y)else a) (vs.map λa=>if a.1=k then(a.1,u)else a):=by
 unfold KV at r ⊢
 induction r with
 | nil=>exact .nil
 | @cons p q ps i h t f=>
  rw[a_,a_];refine .cons ?_ f;obtain⟨c,g⟩:=h
  by_cases e:p.1=k
  ·rw[if_pos e,if_pos (c.symm.trans e)];exact⟨c,d⟩
  ·rw[if_neg e,if_neg (λz=>e (c.trans z))];exact⟨c,g⟩
theorem KV.put(r:KV a vs)(k:κ)(b:RelV y u):KV (putK a k y) (stored vs k u):=by
 unfold putK stored;rw[r.any k]
 by_cases e:(vs.any λc=>decide (c.1=k))=true
 ·rw[if_pos e,if_pos e];exact r.w4 k b
 ·rw[if_neg e,if_neg e];exact YH r ⟨rfl,b⟩
theorem KV.keys{a:List (κ × V)}{vs:List (κ × Value)}(r:KV a vs):a.map (·.1)=vs.map (·.1):=by
 unfold KV at r
 induction r with
 | nil=>rfl
 | cons h t b=>rw[a_,a_,b,h.1]
theorem KV.length{a:List (κ × V)}{vs:List (κ × Value)}(r:KV a vs):a.length=vs.length:=z3 r
end
theorem qP(r:RelV (kV k) u):(gM P w).is k u=true:=by
 cases k with
 | inl i=>obtain⟨t,e⟩:=(show ∃t,u=vJ i t from r);subst e;exact JD P w i t
 | inr x=>obtain⟨t,e⟩:=(show ∃t,u=i9 x t from r);subst e;exact JH P w x t
theorem B2:∀{ks:List Key}{us:List Value},Vals (ks.map kV) us->ItemsAre (gM P w) ks us
 | [],_,r=>by rw[qt]at r;cases r;exact .nil
 | k::ks,_,r=>by
  rw[a_]at r
  cases r with
  | cons h t=>exact .cons (qP h) (B2 t)
noncomputable abbrev KT(H:Hp):List (List Key × V)->List (List Key × Addr × Value)->Prop:=qf λp q=>p.1=q.1/\H q.2.1=some (.tup (p.1.map kV))/\RelV p.2 q.2.2
theorem KT.val{H:Hp}{a:List (List Key × V)}{xs:List (List Key × Addr × Value)}(r:KT H a xs)(k:List Key):gO (hV a k) ((atKey xs k).map (·.2)):=by
 induction r with
 | nil=>exact jZ
 | @cons p q ps c h t g=>
  obtain⟨f,_,i⟩:=h
  by_cases e:p.1=k
  ·have d:q.1=k:=f.symm.trans e
   have b:atKey (q::c) k=some q.2:=by simp[atKey,om,d]
   rw[tI e,b];exact i
  ·have d:¬q.1=k:=λz=>e (f.trans z)
   have b:atKey (q::c) k=atKey c k:=by simp[atKey,om,d]
   rw[tJ e,b];exact g
theorem KT.w4{a:List (List Key × V)}{xs:List (List Key × Addr × Value)}(r:KT H a xs)(k:List Key)(f:RelV y u):
  KT H (a.map λc=>if c.1=k then(c.1,y)else c) (xs.map (putAt k u)):=by
 induction r with
 | nil=>exact .nil
 | @cons p q ps j h t g=>
  rw[a_,a_];refine .cons ?_ g;obtain⟨b,d,i⟩:=h;unfold putAt
  by_cases e:p.1=k
  ·rw[if_pos e,if_pos (b.symm.trans e)];exact⟨b,d,f⟩
  ·rw[if_neg e,if_neg (λz=>e (b.trans z))];exact⟨b,d,i⟩
theorem KT.put(r:KT H a xs)(k:List Key)(d:H b=some (.tup (k.map kV)))(c:RelV y u):
  KT H (putK a k y) (oo xs k b u):=by
 have e:(a.any λf=>decide (f.1=k))=(atKey xs k).isSome:=by
  rw[B0,(r.val k).oW,Ag]
 unfold putK oo;rw[e]
 by_cases q:(atKey xs k).isSome=true
 ·rw[if_pos q,if_pos q];exact r.w4 k c
 ·rw[if_neg q,if_neg q];exact YH r ⟨rfl,d,c⟩
theorem KT.keeps(r:KT H a xs)(c:∀b ys,H b=some (.tup ys)->H' b=some (.tup ys)):KT H' a xs:=
 Paired.A6 r λ_ _ z=>⟨z.1,c _ _ z.2.1,z.2.2⟩
section
variable {P:a6}{w:World}{H:Hp}{h:Heap}{a:Addr}
theorem B3(ok:de P w H h)(e:Rd H a u):dB P w H h a u:=e.ok ok
theorem m7{b:List (Key × V)}(ok:de P w H h)(e:Rd H a (.dK b)):b.length<=aB/\(a==jA)=false/\∃vs,KV b vs/\h.DictOf (gM P w) a vs:=
 show dB P w H h a (.dK b) from B3 ok e
theorem Mq{b:List (Key × V)}(ok:de P w H h)(e:H a=some (.dK b)):b.length<=aB/\(a==jA)=false/\∃vs,KV b vs/\h.DictOf (gM P w) a vs:=m7 ok (.inl e)
theorem qQ{ks:List Key}(ok:de P w H h)(e:H a=some (.tup (ks.map kV))):(vL (gM P w)).is h ks a:=by
 refine bX ((show dB P w H h a (.tup (ks.map kV)) from ok a _ e)) λ_ b=>b5 b λf r c=>aP c λo g i d=>gz d λn j=>?_;clear b c d
 exact⟨o,f.toArray,n,g,i,j,by simpa using B2 r⟩
theorem qR{b:List (List Key × V)}(ok:de P w H h)(e:Rd H a (.dT b)):b.length<=aB/\(a==jA)=false∧
  ∃xs,KT H b xs/\h.DictOfH (vL (gM P w)) a xs:=by
 refine bK ((show dB P w H h a (.dT b) from B3 ok e)) λz y c=>b5 c λxs r d=>ey d λo es i j n f=>bK f λs u v=>?_;clear c d f
 refine⟨z,y,xs,r,o,es,i,j,n,s,u,λx hx=>?_,v⟩
 have all:∀{l:List (List Key × V)}{m:List (List Key × Addr × Value)},KT H l m->∀x∈m,(vL (gM P w)).is h x.1 x.2.1:=by
  intro l m q
  induction q with
  | nil=>intro x hx;exact nomatch hx
  | @cons p q ps B g t A=>
   intro x hx;rcases a9.mp hx with e | hx
   ·subst e
    exact qQ ok (by rw[<-g.1];exact g.2.1)
   ·exact A x hx
 exact all r x hx
theorem Mr{b:List (List Key × V)}(ok:de P w H h)(e:H a=some (.dT b)):b.length<=aB/\(a==jA)=false∧
  ∃xs,KT H b xs/\h.DictOfH (vL (gM P w)) a xs:=qR ok (.inl e)
end
def oX(H:Hp)(a:Addr)(y:V)(r:Option V):Prop:=
 (∃c k,Rd H a (.dK c)/\y=kV k/\r=hV c k)\/∃c k b,Rd H a (.dT c)/\y=.ref b/\H b=some (.tup (k.map kV))/\r=hV c k
def oY(H:Hp)(a:Addr)(y v:V)(H':Hp):Prop:=
 (∃c k,H a=some (.dK c)/\y=kV k/\c.length<aB/\H'=upd H a (.dK (putK c k v)))∨
 ∃c k b,H a=some (.dT c)/\y=.ref b/\H b=some (.tup (k.map kV))/\c.length<aB/\H'=upd H a (.dT (putK c k v))
theorem oY.k{H:Hp}{a:Addr}{b:List (Key × V)}{k:Key}{v:V}(e:H a=some (.dK b))(c:b.length<aB):oY H a (kV k) v (upd H a (.dK (putK b k v))):=.inl ⟨b,k,e,rfl,c,rfl⟩
section
variable {X:Cx}{pins:List (Addr × Obj)}{σ:St}{H:Hp}{s:ao}{a:Addr}{y v:V}{u r:Value}{o:Option V}{A:a8}{E:Value->ao->Prop}
theorem Inv.big(I:Inv X pins σ H s):jA<s.heap.objs.size:=by
 have h:jV<s.heap.objs.size:=(I.mod.glob.keeps I.bk).lt
 exact oq (by decide) h
theorem Ms(B:A.units+1<cLine)(I:Inv X pins σ H s)(g:oX H a y (some v))(t:RelV y u)(h:∀i x,Inv X pins σ H x->RelV v i->Q i x):
  wpAny (model X.prog X.w) A (jY (.ref a) u) Q E s:=by
 rcases g with⟨j,k,e,m,l⟩ | ⟨j,k,b,e,m,C,l⟩
 ·subst m
  refine bK (m7 I.aR e) λz G c=>b5 c λvs d n=>?_;clear c
  obtain⟨i,hw,f⟩:=gO.some_of (v:=v) (o:=qv vs k) (by rw[l];exact d.val k);exact wpAny_getItem_of (qP t) n.mapOf hw (h i _ (I.tok _) f)
 ·subst m
  cases(show u=eY b from t)
  refine bK (qR I.aR e) λz G c=>b5 c λxs d n=>?_;clear c
  obtain⟨i,hw,f⟩:=gO.some_of (v:=v) (o:=(atKey xs k).map (·.2)) (by rw[l];exact d.val k);obtain⟨p,J,q⟩:=bC.mp hw;refine YI (Ai B) (qQ I.aR C) n J ?_;rw[q];exact h i _ (I.tok _) f
theorem w5(t:A.units+1<cLine)(I:Inv X pins σ H s)(g:oX H a y o)(n:RelV y u)(h:∀p,Inv X pins σ H p->Q (.bool o.isSome) p):
  wpAny (model X.prog X.w) A (bF .In u (.ref a)) Q E s:=by
 rcases g with⟨f,k,e,i,l⟩ | ⟨f,k,b,e,i,x,l⟩
 ·subst i
  refine bK (m7 I.aR e) λz j c=>b5 c λvs d m=>?_;clear c
  refine wpAny_in_of (qP n) j m.mapOf ?_;rw[<-(d.val k).oW,<-l];exact h _ (I.tok _)
 ·subst i
  cases(show u=eY b from n)
  refine bK (qR I.aR e) λz j c=>b5 c λxs d m=>?_;clear c
  refine wpAny_in_heap (Ai t) (qQ I.aR x) j m ?_
  have q:=(d.val k).oW
  rw[Ag]at q;rw[<-q,<-l];exact h _ (I.tok _)
theorem Mt(t:A.units+1<cLine)(I:Inv X pins σ H s)(g:oX H a y o)(n:RelV y u)(h:∀p,Inv X pins σ H p->Q (.bool (!o.isSome)) p):
  wpAny (model X.prog X.w) A (bF .NotIn u (.ref a)) Q E s:=by
 rcases g with⟨f,k,e,i,l⟩ | ⟨f,k,b,e,i,x,l⟩
 ·subst i
  refine bK (m7 I.aR e) λz j c=>b5 c λvs d m=>?_;clear c
  refine wpAny_notIn_of (qP n) j m.mapOf ?_;rw[<-(d.val k).oW,<-l];exact h _ (I.tok _)
 ·subst i
  cases(show u=eY b from n)
  refine bK (qR I.aR e) λz j c=>b5 c λxs d m=>?_;clear c
  refine YJ (Ai t) (qQ I.aR x) j m ?_
  have q:=(d.val k).oW
  rw[Ag]at q;rw[<-q,<-l];exact h _ (I.tok _)
theorem w6{h':Heap}{t':Nat}(I:Inv X pins σ H s)(d:qI (H a))(f:lV a s.heap h')(g:∃q,h'.get? a=some q)(new:dB X.prog X.w (upd H a c) h' a c):
  Inv X pins σ (upd H a c) { s with heap:=h',toks:=t' }:=
 I.write (x:=a) (e:=a) d (.inl rfl) (λb q h z=>(f.2 b h).trans z) g new
theorem Mu{h':Heap}{b:List (Key × V)}(z:b.length<=aB)(d:(a==jA)=false)(c:KV b vs)(e:h'.DictOf (gM P w) a vs):
  dB P w H' h' a (.dK b):=⟨z,d,vs,c,e⟩
theorem Mv(O:A.units+1<cLine)(I:Inv X pins σ H s)(g:oY H a y v H')(G:RelV y u)(J:RelV v r)(h:∀L,Inv X pins σ H' L->Q () L):
  wpAny (model X.prog X.w) A (setItem (.ref a) u r) Q E s:=by
 rcases g with⟨f,k,e,n,l,p⟩ | ⟨f,k,b,e,n,M,l,p⟩
 ·subst n p
  refine bK (Mq I.aR e) λz t d=>b5 d λvs i x=>?_;clear d
  have hz:vs.length<=aB:=by rw[<-i.length];exact z
  have B:(putK f k v).length<=aB:=by have:=B1 f k v;lia
  refine wpAny_setItem_pairs (hsz:=hz) (qP G) x λh' j C=>h _ ?_
  have T:∃q,h'.get? a=some q:=by obtain⟨q,_,_,m,_⟩:=j;exact⟨q,m⟩
  exact w6 I (by rw[e];exact jZ) C T (Mu B t (i.put k J) j)
 ·subst n p
  cases(show u=eY b from G)
  refine bK (Mr I.aR e) λz t d=>b5 d λxs i x=>?_;clear d
  have hz:xs.length<=aB:=by rw[<-z3 i];exact z
  have B:(putK f k v).length<=aB:=by have:=B1 f k v;lia
  refine YK (hsz:=hz) (Ai O) (qQ I.aR M) x λh' j C=>h _ ?_
  refine ey j λq es U m Y d=>gA d λh3 h4 _ h5=>?_;clear j d
  refine w6 I (by rw[e];exact jZ) C ⟨q,m⟩ ⟨B,t,_,(i.put k M J).keeps λc ys N=>?_,q,es,U,m,Y,h3,h4,h5⟩;rw[bz (A5 N e (λz=>nomatch z))];exact N
end
section
variable {X:Cx}{pins:List (Addr × Obj)}{σ:St}{H:Hp}{s:ao}{a:Addr}{qH:List (Key × V)}{k:Key}{u:Value}{A:a8}{E:Value->ao->Prop}
theorem B4(I:Inv X pins σ H s)(e:Rd H a (.dK qH))(h:∀t d,Inv X pins σ H d->Q (.int qH.length t) d):wpAny (model X.prog X.w) A (call (.builtin "len") [.ref a]) Q E s:=by
 refine bK (m7 I.aR e) λz f b=>b5 b λvs c g=>?_;clear b
 refine call_len_dict f g (by rw[<-c.length];rw[ql]at z;lia) ?_;rw[<-c.length];exact h _ _ (I.tok _)
end
def w8(i:Expr):Prop:=∀a b,vT i false a b=operate [a,b] (jY a b)
theorem B5{prog:a6}{w:World}{A:a8}{E:Value->ao->Prop}{s:ao}{g:Env}{b a:Expr}{p:Pos}{T id:String}{Q:Value->ao->Prop}
  (t:sC (.type T) "__getitem__"=pure (some (.builtin id))) (u:w8 a)
  (h:wpAny (model prog w) A (eval b g) (λo e=>wpAny (model prog w) A (eval a g) (λi c=>c.TypeIs o T/\wpAny (model prog w) A (jY o i) Q E c) E e) E s):
  wpAny (model prog w) A (eval (.Subscript b a p) g) Q E s:=by
 refine Subscript_ (kU h (λo e m=>kU m (λi c d=>?_) λ_ _ x=>x) λ_ _ x=>x);obtain⟨q,d⟩:=d;unfold Ir;refine wpAny_bind ?_;rw[getitemInPython_of_ne q.not_modules];refine wpAny_bind (qw q t ?_)
 have j:wpAny (model prog w) A (vT a false o i) (λr f=>wpAny (model prog w) A (letTemporaryGo b o r>>=λ_=>pure r) Q E f) E c:=by
  rw[u o i];exact wpAny_operating (kU d (λr f n=>wpAny_bind (wpAny_letTemporaryGo (wpAny_pure n))) λ_ _ x=>x)
 first
  | exact wpAny_pure (wpAny_bind j)
  | exact wpAny_bind (wpAny_pure (wpAny_bind j))
  | exact wpAny_bind j
theorem Mw{s:ao}(I:Inv X h i H s)(g:oX H a y o):s.TypeIs (.ref a) "dict":=by
 rcases g with⟨d,k,e,_,_⟩ | ⟨d,k,b,e,_,_,_⟩
 ·refine bK (m7 I.aR e) λ_ _ c=>b5 c λvs _ f=>?_;clear c
  exact f.typeIs
 ·refine bK (qR I.aR e) λ_ _ c=>b5 c λxs _ f=>?_;clear c
  exact f.typeIs
noncomputable def Mx(c d:TE):TE:=λb H Q=>c b H λx e=>d b e λy H2=>∃a v,x=.ref a/\oX H2 a y (some v)/\Q v H2
noncomputable def My(d e f:TE):TS:=λD b H=>f b H λv g=>d b g λx H2=>e b H2 λy h=>∃a c,x=.ref a/\oY h a y v c/\D.nx b c
section
variable {X:Cx}{o i e value:Expr}{pos pos' wN:Pos}{td ty tv:TE}
theorem Mz(j:X.A.units+1<cLine)(m:PE X o td)(n:PE X i ty)(p:w8 i):PE X (.Subscript o i pos) (Mx td ty):=by
 intro b s d H Q I h;refine B5 YL.lookup p (aK (m b s d H _ I h) λu q ⟨x,r,t,w,z⟩=>aK (n b q d r _ t z) λL M B=>?_);obtain⟨y,H2,f,C,a,v,E,g,G⟩:=B;subst E;obtain rfl:u=eY a:=w;exact⟨Mw f g,Ms j f g C λN O J c=>⟨v,H2,J,c,G⟩⟩
theorem MA(d:X.A.units+1<cLine)(f:PE X o td)(j:PE X i ty)(m:PE X value tv)(n:gu value (some (.Subscript o i pos')) pos.line X.env=pure false):
  PS X (.Assign [.Subscript o i pos'] value pos) (My td ty tv):=by
 intro b s c H D I h;refine wpAny_Assign_Subscript (aK (m b s c H _ I h) λr p ⟨v,q,t,w,z⟩=>aK (f b p c q _ t z) λu B ⟨x,H2,C,E,G⟩=>aK (j b B c H2 _ C G) λU Y J=>?_) n;obtain⟨y,H3,L,M,a,N,O,g,Q⟩:=J;subst O;obtain rfl:u=eY a:=E
 exact Mv d L g M w λs4 T=>⟨c,N,T,Q⟩
end
theorem MB(h:Heap)(a:jA<h.objs.size):dB P w H (h.push { cls:=.type "dict",data:=.dict #[] }) h.objs.size (.dK []):=
 ⟨ef _,beq_eq_false_iff_ne.mpr (cn (bO a)),[],.nil,Heap.DictOf.new h⟩
def MC:TE:=λ_ H Q=>∀p,H p=none->Q (.ref p) (upd H p (.dK []))
section
variable {X:Cx}{pos:Pos}
theorem MD:PE X (.Dict [] [] pos) MC:=λb s c H Q I h=>
 wpAny_Dict_empty ⟨.ref s.heap.objs.size,_,I.laid (a:=s.heap.objs.size) (o:=.dK []) (t':=s.toks) (λ_ _ q=>bx _ q) (a5 _) (MB s.heap I.big),rfl,h _ (I.aR.fresh (a5 _))⟩
end
noncomputable def w9:List (TE × TE)->St->Hp->(List (V × V)->Hp->Prop)->Prop
  | [],_,H,Q=>Q [] H
  | (tk,b)::r,a,H,Q=>tk a H λx c=>b a c λy H2=>w9 r a H2 λps d=>Q ((x,y)::ps) d
noncomputable abbrev VV:List (V × V)->List (Value × Value)->Prop:=qf λp q=>RelV p.1 q.1/\RelV p.2 q.2
def w_(X:Cx)(c:Pos)(keys:List (Option Expr))(a:List Expr)(d:List (TE × TE)):Prop:=
 ∀(b:List (Addr × Obj))(s:ao)(e:St)(H:Hp)(Q:List (V × V)->Hp->Prop),Inv X b e H s->w9 d e H Q->
  wpAny (model X.prog X.w) X.A (evalPairs (pairTrees keys a X.env c)) (λvs f=>∃ps H',Inv X b e H' f/\VV ps vs/\Q ps H') X.xe s
theorem ME:w_ X b [] [] []:=λa s c H Q I h=>pairTrees_nil_walk ⟨[],H,I,.nil,h⟩
theorem MF(f:PE X k tk)(g:PE X v i)(j:w_ X b ks vs c):
  w_ X b (some k::ks) (v::vs) ((tk,i)::c):=λa s d H Q I h=>
 pairTrees_cons_walk (aK (f a s d H _ I h) λu m ⟨x,n,p,q,r⟩=>aK (g a m d n _ p r) λG t ⟨y,H2,w,z,A⟩=>
  aK (j a t d H2 _ w A)<|by rintro ws J ⟨ps,B,C,e,E⟩;exact⟨(x,y)::ps,B,C,.cons ⟨q,z⟩ e,E⟩)
section
variable {X:Cx}{pins:List (Addr × Obj)}{σ:St}{H:Hp}{s:ao}{a:Addr}{y d:V}{u r:Value}{o:Option V}{A:a8}{E:Value->ao->Prop}
end
section
variable {X:Cx}{o e f:Expr}{apos ji:Pos}{td ty tx:TE}
end
section
variable {X:Cx}{pins:List (Addr × Obj)}{σ:St}{H:Hp}{s:ao}{a:Addr}{qH:List (Key × V)}{A:a8}{E:Value->ao->Prop}
end
section
variable {X:Cx}{pins:List (Addr × Obj)}{σ:St}{H:Hp}{s:ao}{a:Addr}{y:V}{u:Value}{A:a8}{E:Value->ao->Prop}
end
end L2
namespace DL
open PySem PySem.Spec PyProof.Rows L2
inductive D where
 | ay | bl (b:Bool) | int (i:Int) | str (x:Str) | tup (xs:List D) | lst (xs:List D) | aW (ns:List Int) | aH (ks:List Key) (vs:List D) | tab (ks vs:List D)
noncomputable def ez:Nat->Heap->Value->D->Prop
 | n+1,h,.ref b,.tup ds=>∃a:List Value,IsTup h b a.toArray/\a.length=ds.length/\∀p∈a.zip ds,ez n h p.1 p.2
 | _+1,_,.int i _,.int j=>i=j
 | _+1,_,.str x _,.str y=>x=y
 | _,_,_,_=>False
theorem IsTup.inj{x y:List Value}(a:IsTup h b x.toArray)(c:IsTup h b y.toArray):x=y:=by
 refine aP a λo e _ d=>gz d λn q=>?_;clear a d
 refine aP c λf g _ d=>gz d λi j=>?_;clear c d
 simp_all
theorem B6{c d:Type}{R:c->d->Prop}(hR:∀a x y,R a x->R a y->x=y):∀{l:List c}{xs ys:List d},l.length=xs.length->l.length=ys.length->(∀p∈l.zip xs,R p.1 p.2)->(∀p∈l.zip ys,R p.1 p.2)->xs=ys
 | [],[],[],_,_,_,_=>rfl
 | a::l,x::xs,y::ys,e,h,f,g=>by
  have:=B6 hR (l:=l) (xs:=xs) (ys:=ys) (by grind) (by grind) (λp b=>f p (by simp[b])) λp b=>g p (by simp[b])
  rw[this,hR a x y (f (a,x) (by simp)) (g (a,y) (by simp))]
theorem ez.inv{n:Nat}{h:Heap}{v:Value}{d:D}(a:ez n h v d):(∃m b ds c,n=m+1/\v=.ref b/\d=.tup ds/\IsTup h b (c:List Value).toArray/\c.length=ds.length/\∀p∈c.zip ds,ez m h p.1 p.2)\/(∃i t,v=.int i t/\d=.int i)\/∃x t,v=.str x t/\d=.str x:=by
 cases n with
 | zero=>exact dE a
 | succ n=>
  cases v with
  | ref b=>
   cases d with
   | tup ds=>obtain⟨c,q⟩:=a;exact .inl ⟨n,b,ds,c,rfl,rfl,rfl,q⟩
   | _=>exact dE a
  | int i t=>
   cases d with
   | int j=>exact .inr (.inl ⟨i,t,rfl,congrArg D.int (Aj a)⟩)
   | _=>exact dE a
  | str x t=>
   cases d with
   | str y=>exact .inr (.inr ⟨x,t,rfl,congrArg D.str (Aj a)⟩)
   | _=>exact dE a
  | _=>exact dE a
theorem ez.inj{h:Heap}(n:Nat):∀(v:Value)(x y:D),ez n h v x->ez n h v y->x=y:=by
 induction n with
 | zero=>exactλ_ _ _ a _=>dE a
 | succ n d=>
  intro v x y a c
  rcases a.inv with⟨m,b,ds,i1,e,rfl,rfl,f,g,j⟩ | ⟨i,t,rfl,rfl⟩ | ⟨i,t,rfl,rfl⟩<;>rcases c.inv with⟨z,A,p,i2,q,ev,rfl,r,s,u⟩ | ⟨w,t',ev,rfl⟩ | ⟨w,t',ev,rfl⟩<;>cases ev
  ·cases e;cases q
   cases IsTup.inj f r;rw[B6 d g s j u]
  ·rfl
  ·rfl
theorem ez.keeps(k:∀b c,IsTup h b c->IsTup h' b c)(n:Nat):∀(v:Value)(x:D),ez n h v x->ez n h' v x:=by
 induction n with
 | zero=>exactλ_ _ a=>dE a
 | succ n d=>
  intro v x a;rcases a.inv with⟨m,b,ds,i1,e,rfl,rfl,f,g,j⟩ | ⟨i,t,rfl,rfl⟩ | ⟨i,t,rfl,rfl⟩
  ·cases e;exact⟨i1,k _ _ f,g,λp q=>d _ _ (j p q)⟩
  ·rfl
  ·rfl
noncomputable instance:DecidableEq D:=λ_ _=>sF _
theorem MG{xs ys:List D}{n m:Nat}(c:n=xs.length)(d:m=ys.length):((dY (min n m)).all (λj=>decide (xs[j]?=ys[j]?))&&n==m)=decide (D.tup xs=D.tup ys):=by
 subst c d;rw[j6,bB,ja,decide_eq_true_eq,beq_iff_eq]
 constructor
 ·rintro⟨a,b⟩
  congr 1
  refine vX λj=>?_
  grind
 ·intro h;cases h;simp
theorem tK{a b:Type}{l:List a}{xs:List b}{j:Nat}(h:j<l.length)(c:l.length=xs.length):∃x,xs[j]?=some x/\(l[j],x)∈l.zip xs:=by
 refine⟨xs[j]'(by lia),c6 (by omega),?_⟩;rw[<-YM (h:=by simp;lia)]
 grind
theorem B7{s:ao}:∀(n:Nat){A:a8}{u v:Value}{x y:D},A.units+n<cLine->ez n s.heap u x->ez n s.heap v y->sG A s u v (decide (x=y))
 | 0,A,u,v,x,y,_,a,_=>dE a
 | n+1,A,u,v,x,y,J,a,c=>by
  have d:A.units<cLine:=by lia
  rcases a.inv with⟨m,b,xs,i1,e,rfl,rfl,f,h,q⟩ | ⟨i,t,rfl,rfl⟩ | ⟨i,t,rfl,rfl⟩<;>rcases c.inv with⟨L,r,ys,i2,w,rfl,rfl,g,p,z⟩ | ⟨j,t',rfl,rfl⟩ | ⟨j,t',rfl,rfl⟩
  rotate_left
  ·rw[decide_eq_false (by exact D.noConfusion)];exact SeqAt.EqAt.tuple_int _ _ f d
  ·rw[decide_eq_false (by exact D.noConfusion)];exact SeqAt.EqAt.tuple_str _ _ f d
  ·rw[decide_eq_false (by exact D.noConfusion)];exact SeqAt.EqAt.int_tuple _ _ g d
  ·rw[show decide (D.int i=D.int j)=(i==j) from j6.mpr (decide_eq_true_iff.trans (.trans ⟨D.int.inj,congrArg _⟩ beq_iff_eq.symm))];exact SeqAt.EqAt.int_int i t j t'
  ·rw[decide_eq_false (by exact D.noConfusion)];exact Yi _ _ _ _
  ·rw[decide_eq_false (by exact D.noConfusion)];exact SeqAt.EqAt.str_tuple _ _ g d
  ·rw[decide_eq_false (by exact D.noConfusion)];exact Yj _ _ _ _
  ·rw[show decide (D.str i=D.str j)=(i==j) from j6.mpr (decide_eq_true_iff.trans (.trans ⟨D.str.inj,congrArg _⟩ beq_iff_eq.symm))];exact SeqAt.EqAt.str_str i t j t'
  ·cases e;cases w
   by_cases e:b=r
   ·subst e
    rw[decide_eq_true (ez.inj (n+1) _ _ _ a c)];exact vY _
   refine YN e ?_;rw[<-MG (n:=i1.toArray.size) (m:=i2.toArray.size) (by simpa using h) (by simpa using p)]
   refine IA f g d λj B C=>?_
   obtain⟨x,E,G⟩:=tK (by simpa using B) h;obtain⟨y,H,I⟩:=tK (by simpa using C) p;rw[E,H,show decide (some x=some y)=decide (x=y) by rw[j6];simp];exact B7 n (by grind) (q _ G) (z _ I)
theorem B8{s:ao}:∀(n:Nat){v:Value}{x:D}{Q:Bool->ao->Prop},ez n s.heap v x->Q true s->wpAny (model P w) A (eqIsQuiet n v) Q E s
 | 0,v,x,Q,a,_=>dE a
 | n+1,v,x,Q,a,h=>by
  rcases a.inv with⟨m,b,ds,f,e,rfl,rfl,t,C,r⟩ | ⟨i,t,rfl,rfl⟩ | ⟨i,t,rfl,rfl⟩
  rotate_left
  ·rw[YO _ rfl];exact wpAny_pure h
  ·rw[YO _ rfl];exact wpAny_pure h
  cases e
  have B:=t.typeIs
  refine aP t λo G _ g=>gz g λm H=>?_;clear t g
  unfold eqIsQuiet;refine wpAny_bind (qw B F.slot_tuple_eq.lookup ?_)
  show wpAny _ _ (isInstance (.ref _) (.type "tuple")>>=_) _ _ s
  refine wpAny_bind (v3 B isSubtype_tuple_tuple ?_);simp only[Ak,kY,if_false];refine wpAny_bind (v5 G H ?_);refine wpAny_bind ?_
  show wpAny _ _ (forIn f.toArray _ _) _ _ s
  rw[<-YP];refine YQ _ (λrest r p=>r.1=none/\p=s/\∀v∈rest,∃d,ez n s.heap v d) _ ?_ ?_ _ _ ⟨rfl,rfl,λv J=>?_⟩
  ·rintro v rest r p ⟨y,rfl,c⟩
   obtain⟨d,q⟩:=c v bg;refine wpAny_bind (B8 n q ?_);simp only[Ak,kY,if_false];exact wpAny_pure ⟨rfl,rfl,λu z=>c u (bV _ z)⟩
  ·rintro⟨L,M⟩ p ⟨y,rfl,_⟩
   simp only at y;subst y;exact wpAny_pure h
  ·obtain⟨j,I,rfl⟩:=YR.mp (show v∈f by omega)
   obtain⟨x,_,q⟩:=tK I C
   grind
noncomputable def km(w:World):Nat->D->Int
 | _,.int i=>hashInt i
 | _,.str x=>jT w x
 | n+1,.tup ds=>IB (qx (ds.map (km w n)))
 | _,_=>0
noncomputable def qS:Nat->D->Nat
 | n+1,.tup ds=>(ds.map (qS n)).sum+1
 | _,_=>1
theorem B9{P:a6}{w:World}:∀(n:Nat){A:a8}{E:Value->ao->Prop}{s:ao}{v:Value}{x:D}{Q:Int->ao->Prop},A.units+n<cLine->ez n s.heap v x->Q (km w n x) { s with toks:=s.toks+qS n x }->wpAny (model P w) A (pyHash v) Q E s
 | 0,A,E,s,v,x,Q,_,a,_=>dE a
 | n+1,A,E,s,v,x,Q,G,a,h=>by
  rcases a.inv with⟨m,b,ds,y,e,rfl,rfl,t,H,r⟩ | ⟨i,t,rfl,rfl⟩ | ⟨i,t,rfl,rfl⟩
  rotate_left
  ·exact Yg h
  ·exact Yh h
  cases e
  have d:=t.typeIs
  refine aP t λo z _ c=>gz c λm B=>?_;clear t c
  unfold pyHash
  first | unfold pyHashByItsType | skip
  first | refine wpAny_bind (wpAny_cRoomFor_or (.inr (by lia)) ?_) | skip
  refine wpAny_bind (qw d Am.lookup ?_)
  show wpAny _ _ (if(some (Value.builtin "tuple.__hash__")==some dc)=true then _ else _) Q E s
  rw[if_neg (by rw[beq_builtin_none];exact bP)];refine wpAny_bind (qw d Am.lookup ?_)
  show wpAny _ _ (callSpecialIfBoundUnlessNone? (.ref _) "__hash__" _>>=_) Q E s
  refine wpAny_bind (wpAny_callSpecialIfBoundUnlessNone?_slot d Am (jD Am d F.entry_tuple_hash ?_ (F.args_tuple_hash_1 _)))
  show wpAny _ _ (Iq (.ref _)>>=_) _ _ s
  refine wpAny_bind (wpAny_tupleItemsOf z B ?_);refine wpAny_bind ?_;rw[<-YP]
  refine YQ _
   (λrest (b:Array Int) g=>∃done left,ds=done++left/\rest.length=left.length/\(∀p∈rest.zip left,ez n s.heap p.1 p.2)/\b.toList=done.map (km w n)/\g={ s with toks:=s.toks+(done.map (qS n)).sum })
   _ ?_ ?_ _ _ ⟨[],ds,rfl,by omega,by simpa using r,rfl,rfl⟩
  ·rintro x rest b g ⟨done,left,rfl,l,j,q,rfl⟩
   cases left with
   | nil=>simp at l
   | cons k u=>
    refine wpAny_bind (B9 n (by grind) (j (x,k) (by simp)) ?_);exact wpAny_pure ⟨done++[k],u,by simp,by simpa using l,λp C=>j p (by simp[C]),by simp[q],by simp[sI]⟩
  ·rintro b g ⟨done,left,rfl,l,j,q,rfl⟩
   have:left=[]:=by cases left<;>simp_all
   subst this;rw[gv]at h
   show wpAny _ _ (retInt (qx b.toList)) _ _ _
   rw[q];refine wpAny_ret_mkInt ?_
   show wpAny _ _ (if(decide (-(2:Int) ^ 63<=qx (done.map (km w n)))&&decide (qx (done.map (km w n))<2 ^ 63))=true then _ else _) Q E _
   replace h:Q (IB (qx (done.map (km w n)))) { s with toks:=s.toks+((done.map (qS n)).sum+1) }:=h
   unfold IB at h
   by_cases f:(decide (-(2:Int) ^ 63<=qx (done.map (km w n)))&&decide (qx (done.map (km w n))<2 ^ 63))=true
   ·rw[if_pos f]
    rw[if_pos f]at h;exact wpAny_pure (by simpa [sI]using h)
   ·rw[if_neg f]
    rw[if_neg f]at h;exact wpAny_bind (wpAny_rule (wpAny_pure (by simpa [sI]using h)))
theorem MH{h:Heap}{o:Obj}(j:h.get? d=some o)(m:o.data=.dict es p)(g:lV d h h')(b:Addr)(a:Array Value)(x:IsTup h b a):IsTup h' b a:=by
 refine aP x λi e c f=>gz f λn q=>?_;clear x f
 refine⟨i,(g.2 b ?_).trans e,c,n,q⟩
 grind
def qT(P:a6)(w:World):HeapKind P w D where
 is:=λh d a=>ez 8 h (.ref a) d
 hash:=km w 8
 draws:=qS 8
 room:=λA=>A.units+8<cLine
 inj:=λa b=>ez.inj 8 _ _ _ a b
 keeps:=λa e f g=>ez.keeps (MH e f g) 8 _ _ a
 pyHash:=λc a h=>B9 8 c a h
 eqBool:=λc a b h=>B7 8 c a b _ _ _ _ h
 quiet:=λa h=>B8 8 a h
noncomputable def dU(K:aw)(T:Addr->Option (List V)):Nat->V->D->Prop
 | n+1,.ref b,.tup ds=>∃xs,(T b=some xs\/cx K (λ_=>none) b xs)/\xs.length=ds.length/\∀p∈xs.zip ds,dU K T n p.1 p.2
 | _+1,.int i,.int j=>i=j
 | _+1,.str x,.str y=>x=y
 | _,_,_=>False
theorem dU.inv{K:aw}{T:Addr->Option (List V)}{n:Nat}{v:V}{d:D}(a:dU K T n v d):(∃m b ds xs,n=m+1/\v=.ref b/\d=.tup ds/\(T b=some xs\/cx K (λ_=>none) b xs)/\xs.length=ds.length/\∀p∈xs.zip ds,dU K T m p.1 p.2)\/(∃i m,n=m+1/\v=.int i/\d=.int i)\/∃x m,n=m+1/\v=.str x/\d=.str x:=by
 cases n with
 | zero=>exact dE a
 | succ n=>
  cases v with
  | ref b=>
   cases d with
   | tup ds=>obtain⟨xs,q⟩:=a;exact .inl ⟨n,b,ds,xs,rfl,rfl,rfl,q⟩
   | _=>exact dE a
  | int i=>
   cases d with
   | int j=>exact .inr (.inl ⟨i,n,rfl,rfl,congrArg D.int (Aj a)⟩)
   | _=>exact dE a
  | str x=>
   cases d with
   | str y=>exact .inr (.inr ⟨x,n,rfl,rfl,congrArg D.str (Aj a)⟩)
   | _=>exact dE a
  | _=>exact dE a
theorem dU.mono{K:aw}{T c:Addr->Option (List V)}(h:∀b xs,T b=some xs->c b=some xs)(n:Nat):∀(v:V)(x:D),dU K T n v x->dU K c n v x:=by
 induction n with
 | zero=>exactλ_ _ a=>dE a
 | succ n d=>
  intro v x a;rcases a.inv with⟨m,b,ds,xs,e,rfl,rfl,t,l,r⟩ | ⟨i,m,e,rfl,rfl⟩ | ⟨i,m,e,rfl,rfl⟩
  ·cases e;exact⟨xs,t.imp (h _ _) id,l,λp f=>d _ _ (r p f)⟩
  ·rfl
  ·rfl
theorem dU.raw{X:Cx}{s:ao}(I:Inv X h N H s)(n:Nat):∀(v:V)(u:Value)(x:D),RelV v u->dU X.K (iF H) n v x->ez n s.heap u x:=by
 induction n with
 | zero=>exactλ_ _ _ _ a=>dE a
 | succ n w=>
  intro v u x e a;rcases a.inv with⟨m,b,ds,xs,y,rfl,rfl,t,l,r⟩ | ⟨i,m,_,rfl,rfl⟩ | ⟨i,m,_,rfl,rfl⟩
  rotate_left
  ·obtain⟨t,rfl⟩:=e;rfl
  ·obtain⟨t,rfl⟩:=e;rfl
  cases e;cases y
  refine aP (I.tuple (t.elim (λq=>.inl (mX.mp q)) λq=>q.elim (λz=>by cases z) .inr)) λf g p _=>?_
  refine⟨f,p,by rw[<-g.length,l],λq A=>?_⟩;obtain⟨j,B,rfl⟩:=YR.mp A
  have c:j<xs.length:=by rw[YS]at B;have:=g.length;lia
  obtain⟨d,C,E⟩:=tK c l;obtain⟨u,G,J⟩:=g.get (c6 c);rw[YM]
  have L:=(cA.mp G).2
  have M:=(cA.mp C).2
  simp only[L,M];exact w _ _ _ J (r _ E)
def B_(K:aw)(a:Addr)(ks:List D)(vs:List V)(w:World)(T:Addr->Option (List V))(h:Heap):Prop:=
 (a==jA)=false/\ks.length<=aB/\∃xs:List (D × Addr × Value),xs.map (·.1)=ks/\(∀x∈xs,dU K T 8 (.ref x.2.1) x.1)/\Vals vs (xs.map (·.2.2))∧
  ∃o es b,h.get? a=some o/\o.ExactDict/\o.data=.dict es b/\es.toList=xs.map (λx=>⟨km w 8 x.1,.ref x.2.1,x.2.2⟩)/\ks.Nodup
noncomputable abbrev dH(K:aw)(a:Addr)(ks:List D)(vs:List V):HO:=.ext (B_ K a ks vs)
theorem xa{P:a6}{w:World}{h':Heap}{H':Hp}{K:aw}{a:Addr}{ks:List D}{vs:List V}(m:B_ K a ks vs w (iF H') h'):dB P w H' h' a (dH K a ks vs):=
 ⟨m,by obtain⟨_,_,_,_,_,_,o,_,_,e,_⟩:=m;exact⟨o,e⟩,by rintro q r s t ⟨b,c,xs,d,f,g,o,es,h,e,i⟩ j n;exact⟨b,c,xs,d,λx p=>dU.mono j 8 _ _ (f x p),g,o,es,h,n o e,i⟩⟩
noncomputable def kD:Key->D
 | .inl i=>.int i
 | .inr x=>.str x
noncomputable def m8:D->Option Key
 | .int i=>some (.inl i)
 | .str x=>some (.inr x)
 | _=>none
noncomputable def m_:Key->Bool
 | .inl _=>true
 | .inr x=>decide (x.length<=aB)
noncomputable abbrev St:=L2.St
theorem nc{K:aw}{H H':Hp}{a:Addr}{xs:List V}(e:av H H')(h:cx K H a xs):cx K H' a xs:=by
 exact h.imp (e _ _) id
theorem MI(e:av H H')(h:Rd H a u):Rd H' a u:=by
 rcases h with h | ⟨o,h⟩
 ·exact .inl (e _ _ h)
 ·exact .inr ⟨o,e _ _ h⟩
mutual
inductive Rep(K:aw)(H:Hp):V->D->Prop
 | ay:Rep K H .ay .ay
 | bl (b:Bool):Rep K H (.bl b) (.bl b)
 | int (i:Int):Rep K H (.int i) (.int i)
 | str (x:Str) (h:x.length<=aB):Rep K H (.str x) (.str x)
 | tup {a:Addr} {xs:List V} {ds:List D} (h:cx K H a xs) (r:aC K H xs ds):Rep K H (.ref a) (.tup ds)
 | lst {a:Addr} {xs:List V} {ds:List D} (h:Rd H a (.lst xs)) (r:aC K H xs ds):Rep K H (.ref a) (.lst ds)
 | aW {a:Addr} {ns:List Int} (h:b8 K H a (ns.map V.int)):Rep K H (.ref a) (.aW ns)
 | aH {a:Addr} {ob:Obj} {ks:List Key} {vs:List V} {ds:List D} (h:H a=some (.dA ob (.dK (ks.zip vs)))) (r:aC K H vs ds) (hl:ks.length=vs.length) (hn:ks.Nodup/\∀k∈ks,m_ k=true):Rep K H (.ref a) (.aH ks ds)
 | tab {a:Addr} {ks:List D} {vs:List V} {ds:List D} (h:H a=some (dH K a ks vs)) (r:aC K H vs ds):Rep K H (.ref a) (.tab ks ds)
inductive aC(K:aw)(H:Hp):List V->List D->Prop
 | nil:aC K H [] []
 | cons {v:V} {d:D} {vs:List V} {ds:List D} (r:Rep K H v d) (t:aC K H vs ds):aC K H (v::vs) (d::ds)
end
theorem Rep.go{K:aw}{H H':Hp}{P:D->Prop}{Q:List D->Prop}(m:∀{a xs ds},P (.tup ds)->cx K H a xs->cx K H' a xs)(e:∀{a xs ds},P (.lst ds)->Rd H a (.lst xs)->Rd H' a (.lst xs))(n:∀{a}{ns:List Int},P (.aW ns)->b8 K H a (ns.map V.int)->b8 K H' a (ns.map V.int))(s:∀{a f g}{ks:List Key}{ds},P (.aH ks ds)->H a=some (.dA f (.dK g))->H' a=some (.dA f (.dK g)))(t:∀{a ks vs ds},P (.tab ks ds)->H a=some (dH K a ks vs)->H' a=some (dH K a ks vs))
  (q:∀{ds},P (.tup ds)\/P (.lst ds)\/(∃ks,P (.aH ks ds))\/(∃ks,P (.tab ks ds))->Q ds) (j:∀{d ds},Q (d::ds)->P d/\Q ds) {v:V} {d:D} (r:Rep K H v d):P d->Rep K H' v d:=
 Rep.rec (motive_1:=λv d _=>P d->Rep K H' v d) (motive_2:=λvs ds _=>Q ds->aC K H' vs ds) (λ_=>.ay) (λb _=>.bl b) (λi _=>.int i) (λx h _=>.str x h) (λh _ c p=>.tup (m p h) (c (q (.inl p)))) (λh _ c p=>.lst (e p h) (c (q (.inr (.inl p))))) (λh p=>.aW (n p h)) (λh _ e hn c p=>.aH (s p h) (c (q (.inr (.inr (.inl ⟨_,p⟩))))) e hn) (λh _ c p=>.tab (t p h) (c (q (.inr (.inr (.inr ⟨_,p⟩)))))) (λ_=>.nil) (λ_ _ a b p=>.cons (a (j p).1) (b (j p).2)) r
theorem aC.go{K:aw}{H H':Hp}{P:D->Prop}{Q:List D->Prop}(b:∀{v d},Rep K H v d->P d->Rep K H' v d)(a:∀{d ds},Q (d::ds)->P d/\Q ds){vs:List V}:∀{ds:List D},aC K H vs ds->Q ds->aC K H' vs ds:=by
 induction vs with
 | nil=>intro ds r _;cases r;exact .nil
 | cons v vs c=>
  intro ds r p
  cases r with
  | cons r t=>exact .cons (b r (a p).1) (c t (a p).2)
theorem Rep.mono{K:aw}{H H':Hp}(e:av H H'){v:V}{d:D}(r:Rep K H v d):Rep K H' v d:=r.go (P:=λ_=>True) (Q:=λ_=>True) (λ_ h=>nc e h) (λ_ h=>MI e h) (λ_ h=>e.seq h) (λ_ h=>e _ _ h) (λ_ h=>e _ _ h) (λ_=>trivial) (λ_=>⟨trivial,trivial⟩) trivial
theorem aC.mono{K:aw}{H H':Hp}(e:av H H'){vs:List V}{ds:List D}(r:aC K H vs ds):aC K H' vs ds:=r.go (P:=λ_=>True) (Q:=λ_=>True) (λr _=>r.mono e) (λ_=>⟨trivial,trivial⟩) trivial
theorem aC.length{K:aw}{H:Hp}:∀{vs:List V}{ds:List D},aC K H vs ds->vs.length=ds.length
 | _,_,.nil=>rfl
 | _,_,.cons _ t=>by rw[bR,bR,aC.length t]
theorem aC.get{K:aw}{H:Hp}:∀{vs:List V}{ds:List D}{i:Nat}{d:D},aC K H vs ds->ds[i]?=some d->∃v,vs[i]?=some v/\Rep K H v d
 | _,_,_,_,.nil,e=>by simp at e
 | _,_,0,_,.cons r _,e=>by simp at e;subst e;exact⟨_,rfl,r⟩
 | _,_,i+1,d,.cons _ t,e=>by
  obtain⟨v,a,b⟩:=aC.get (i:=i) (d:=d) t (by simpa using e);exact⟨v,by simpa using a,b⟩
theorem aC.append{K:aw}{H:Hp}{vs:List V}:∀{ws:List V}{ds es:List D},aC K H vs ds->aC K H ws es->aC K H (vs++ws) (ds++es):=by
 induction vs with
 | nil=>intro ws ds es h s;cases h;exact s
 | cons v vs a=>
  intro ws ds es h s
  cases h with
  | cons r t=>exact .cons r (a t s)
theorem aC.drop{K:aw}{H:Hp}:∀{vs:List V}{ds:List D}(n:Nat),aC K H vs ds->aC K H (vs.drop n) (ds.drop n)
 | _,_,0,r=>r
 | _,_,_+1,.nil=>.nil
 | _,_,n+1,.cons _ t=>aC.drop n t
theorem aC.take{K:aw}{H:Hp}:∀{vs:List V}{ds:List D}(n:Nat),aC K H vs ds->aC K H (vs.take n) (ds.take n)
 | _,_,0,_=>.nil
 | _,_,_+1,.nil=>.nil
 | _,_,n+1,.cons r t=>.cons r (aC.take n t)
theorem aC.snoc{K:aw}{H:Hp}{vs:List V}{ds:List D}{v:V}{d:D}(r:aC K H vs ds)(q:Rep K H v d):aC K H (vs++[v]) (ds++[d]):=r.append (.cons q .nil)
theorem oZ{K:aw}{H:Hp}:∀ns:List Int,aC K H (ns.map V.int) (ns.map D.int)
 | []=>.nil
 | n::r=>.cons (.int n) (oZ r)
noncomputable abbrev ae:=List (Option D)
structure cb(K:aw)(H:Hp)(σ:St)(ρ:ae):Prop where
 len:σ.length=ρ.length
 get:∀(i:Nat)(d:D),ρ[i]?=some (some d)->∃v,σ[i]?=some (some v)/\Rep K H v d
theorem cb.mono{K:aw}{H H':Hp}{a:St}{b:ae}(r:cb K H a b)(e:av H H'):cb K H' a b:=
 ⟨r.len,λi d h=>by obtain⟨v,c,f⟩:=r.get i d h;exact⟨v,c,f.mono e⟩⟩
theorem cb.set{K:aw}{H:Hp}{b:St}{a:ae}{v:V}{d:D}(r:cb K H b a)(i:Nat)(q:Rep K H v d):cb K H (b.set i (some v)) (a.set i (some d)):=by
 refine⟨by rw[iC,iC];exact r.len,λj e h=>?_⟩
 by_cases c:i=j
 ·subst c
  by_cases f:i<a.length
  ·rw[i_ f]at h
   cases h;exact⟨v,i_ (by rw[r.len];exact f),q⟩
  ·rw[IC.mpr (by rw[iC];lia)]at h
   cases h
 ·rw[dQ c]at h ⊢
  exact r.get j e h
noncomputable def tD(K:aw)(f:ae->Option D):TE:=λb H Q=>∃a d,cb K H b a/\f a=some d/\∀v H',av H H'->Rep K H' v d->Q v H'
noncomputable def Ca(K:aw)(f:ae->Option Bool):TT:=λc H Q=>∃a b,cb K H c a/\f a=some b/\∀H',av H H'->Q b H'
noncomputable def MJ(K:aw)(f:ae->Option (List D)):TA:=λb H Q=>∃a ds,cb K H b a/\f a=some ds/\∀vs H',av H H'->aC K H' vs ds->Q vs H'
abbrev DE(X:Cx)(e:Expr)(f:ae->Option D):Prop:=PE X e (tD X.K f)
abbrev DT(X:Cx)(e:Expr)(f:ae->Option Bool):Prop:=PT X e (Ca X.K f)
abbrev DW(X:Cx)(e:Expr)(f:ae->Option Bool):Prop:=PW X e (Ca X.K f)
abbrev kn(X:Cx)(es:List Expr)(f:ae->Option (List D)):Prop:=PA X es (MJ X.K f)
theorem cD(h:PE X e t)(c:∀a H Q,t' a H Q->t a H Q):PE X e t':=λb s a H Q I hw=>h b s a H Q I (c a H Q hw)
theorem tL(h:PT X e t)(c:∀a H Q,t' a H Q->t a H Q):PT X e t':=λb s a H Q I hw=>h b s a H Q I (c a H Q hw)
theorem Cb(h:PW X e t)(c:∀a H Q,t' a H Q->t a H Q):PW X e t':=λd b s a H Q I hw=>h d b s a H Q I (c a H Q hw)
theorem Cc(h:PA X es t)(c:∀a H Q,t' a H Q->t a H Q):PA X es t':=λp b s a H Q I hw=>h p b s a H Q I (c a H Q hw)
theorem c7{X:Cx}{st:Stmt}{t t':TS}(h:PS X st t)(d:∀a b H,t' a b H->t a b H):PS X st t':=λc s b H a I hw=>h c s b H a I (d a b H hw)
theorem me{X:Cx}{st:List Stmt}{t t':TS}(h:gd X st t)(d:∀a b H,t' a b H->t a b H):gd X st t':=λc s b H a I hw=>h c s b H a I (d a b H hw)
theorem bind_some{c d:Type}{o:Option c}{f:c->Option d}{b:d}(h:o.bind f=some b):∃a,o=some a/\f a=some b:=by
 cases o with
 | none=>cases h
 | some a=>exact⟨a,rfl,h⟩
section
variable {X:Cx}{e a b c:Expr}{es:List Expr}{pos:Pos}{f fa fb fc:ae->Option D}{fs:ae->Option (List D)}
noncomputable def aa(i:Nat):ae->Option D:=λg=>match g[i]? with
 | some (some d)=>some d
 | _=>none
theorem Cd{i:Nat}(h:aa i g=some d):g[i]?=some (some d):=by
 unfold aa at h
 cases q:g[i]? with
 | none=>rw[q]at h;cases h
 | some o=>
  rw[q]at h
  cases o with
  | none=>cases h
  | some d'=>cases h;rfl
theorem MK(i:Nat)(j:X.N[i]?=some x:=by rfl)(m:eN X.env.scope x:=by first | exact Or.inl rfl | exact sE (Or.inl rfl) | exact sE (sE rfl))(n:(x==("__debug__":Str))=false:=by decide)(g:(x==("__classdict__":Str))=false:=by decide):DE X (.Name x pos) (aa i):=
 cD (iU j m n g)<|by rintro t H Q ⟨u,d,r,h,q⟩;exact by obtain⟨v,p,s⟩:=r.get i d (Cd h);exact⟨v,p,q v H (av.refl H) s⟩
noncomputable def cC(d:D):ae->Option D:=λ_=>some d
theorem ML:DE X (.Constant (.int i) j pos) (cC (.int i)):=cD JZ<|by rintro g H Q ⟨m,d,r,h,q⟩;cases h;exact q _ H (av.refl H) (.int i)
theorem MM{b j}:DE X (.Constant (.bool b) j pos) (cC (.bl b)):=cD J0<|by rintro g H Q ⟨i,d,r,h,q⟩;cases h;exact q _ H (av.refl H) (.bl b)
theorem MN:DE X (.Constant .none j pos) (cC .ay):=cD J2<|by rintro g H Q ⟨i,d,r,h,q⟩;cases h;exact q _ H (av.refl H) .ay
theorem Ce{x}(g:x.length<=aB:=by decide):DE X (.Constant (.str x) j pos) (cC (.str x)):=cD J4<|by rintro i H Q ⟨m,d,r,h,q⟩;cases h;exact q _ H (av.refl H) (.str x g)
theorem MO(g:Gl X x)(i:X.mg x=some u)(r:RelV v u)(j:∀H,Rep X.K H v d)(m:(x==("__debug__":Str))=false:=by decide):DE X (.Name x pos) (cC d):=
 cD (J5 g i r m)<|by rintro n H Q ⟨p,d',_,h,q⟩;cases h;exact q v H (av.refl H) (j H)
noncomputable def o4:ae->Option (List D):=λ_=>some []
noncomputable def o_(f:ae->Option D)(g:ae->Option (List D)):ae->Option (List D):=λh=>(f h).bind λd=>(g h).bind λds=>some (d::ds)
theorem pa:kn X [] o4:=Cc iH<|by rintro d H Q ⟨g,ds,r,h,q⟩;cases h;exact q _ H (av.refl H) .nil
theorem ng(n:DE X e f)(p:kn X es fs)(s:bq (e::es) X.env=(false,eval e X.env)::bq es X.env:=by rfl):kn X (e::es) (o_ f fs):=
 Cc (hE n p s)<|by
  rintro y H Q ⟨i,ds,r,h,q⟩
  refine bS h λd t h=>?_
  refine bS h λg u h=>?_
  cases h;exact⟨i,d,r,t,λv z j w=>⟨i,g,r.mono j,u,λvs H2 m x=>q _ H2 (j.trans m) (.cons (w.mono m) x)⟩⟩
theorem cE(h:H p=none)(o:HO):av H (upd H p o):=λb u q=>by rw[bz (jF q h)];exact q
noncomputable def aD(g:ae->Option (List D)):ae->Option D:=λd=>(g d).bind λds=>some (.tup ds)
noncomputable def ei(g:ae->Option (List D)):ae->Option D:=λd=>(g d).bind λds=>some (.lst ds)
def nh(n:Nat)(g:ae->Option (List D)):Prop:=∀d ds,g d=some ds->ds.length<=n
theorem MP:nh 0 o4:=λd ds h=>by cases h;exact a5 _
theorem MQ{n:Nat}(h:nh n fs):nh (n+1) (o_ f fs):=λi ds q=>by
 refine bS q λd m q=>?_
 refine bS q λg j q=>?_
 cases q;rw[bR];exact An (h i g j)
theorem MR{n:Nat}{s}(h:kn X es fs)(t:nh n fs)(hn:n<=aB:=by decide):DE X (.Tuple es s pos) (aD fs):=
 cD (Ly h)<|by
  rintro v H Q ⟨g,d,r,e,q⟩
  refine bS e λds i e=>?_
  cases e;refine⟨g,ds,r,i,λvs w u j=>⟨by rw[j.length];exact cj (t g ds i) hn,λp m=>?_⟩⟩;exact q _ _ (u.trans (cE m _)) (.tup (.of bG) (j.mono (cE m _)))
theorem MS{n:Nat}(h:kn X es fs)(s:nh n fs)(hn:n<=aB:=by decide):DE X (.List es pos) (ei fs):=
 cD (wO h)<|by
  rintro u H Q ⟨g,d,r,e,q⟩
  refine bS e λds i e=>?_
  cases e;refine⟨g,ds,r,i,λvs v t j=>⟨by rw[j.length];exact cj (s g ds i) hn,λp m=>?_⟩⟩;exact q _ _ (t.trans (cE m _)) (.lst (.inl bG) (j.mono (cE m _)))
def dJ(X:Cx)(j:Value->Value->Sem Value)(g:D->D->Option D):Prop:=
 cq X j (λx y H Q=>∃h i d,Rep X.K H x h/\Rep X.K H y i/\g h i=some d/\∀v H',av H H'->Rep X.K H' v d->Q v H')
noncomputable def ab(g:D->D->Option D)(fa fb:ae->Option D):ae->Option D:=λd=>(fa d).bind λx=>(fb d).bind λy=>g x y
variable {g g':D->D->Option D}
theorem xb(h:ab g fa fb=f){r:R2}(t:r=λx y H Q=>∃i j d,Rep X.K H x i/\Rep X.K H y j/\g i j=some d/\∀v H',av H H'->Rep X.K H' v d->Q v H'):
  ∀m H Q,tD X.K f m H Q->qM r (tD X.K fa) (tD X.K fb) m H Q:=by
 subst h t
 rintro m H Q ⟨n,d,R,e,q⟩
 refine bS e λi w e=>?_
 refine bS e λj A e=>?_
 exact⟨n,i,R,w,λv I p B=>⟨n,j,R.mono p,A,λu H2 s C=>⟨i,j,d,B.mono s,C,e,λz H' E G=>q z H' (p.trans (s.trans E)) G⟩⟩⟩
theorem MT(d:dJ X (dw h) g)(i:DE X a fa)(j:DE X b fb):DE X (.BinOp a h b pos) (ab g fa fb):=cD (Bs d i j) (xb rfl rfl)
theorem MU(h:dJ X (bF d) g)(i:DE X a fa)(j:DE X b fb)(m:vN d b=false):DE X (.Compare a [d] [b] pos) (ab g fa fb):=cD (Lj h i j m) (xb rfl rfl)
noncomputable def cB(f:ae->Option D):ae->Option Bool:=λh=>(f h).bind λd=>match d with
 | .bl b=>some b
 | _=>none
theorem qU{i:ae}{k:Bool}(h:cB f i=some k):f i=some (.bl k):=by
 refine bS h λd j h=>?_
 cases d<;>first | (cases h;exact j) | cases h
theorem MV(h:dJ X (bF d) g)(i:DE X a fa)(j:DE X b fb)(m:vN d b=false):DT X (.Compare a [d] [b] pos) (cB (ab g fa fb)):=
 tL (Lm h i j m)<|by
  rintro n H Q ⟨p,k,R,e,q⟩
  refine xb rfl rfl n H _ ⟨p,.bl k,R,qU e,λv H' r s=>?_⟩;cases s;exact⟨k,rfl,q H' r⟩
theorem MW(h:DE X e f)(i:∀d,isTrue e X.env d=(do let v<-d;standAt e.pos;holding [v] (truthy v)):=by intro _;rfl):DT X e (cB f):=
 tL (J7 h i)<|by rintro p H Q ⟨j,k,R,e,q⟩;exact⟨j,.bl k,R,qU e,λv H' m n=>by cases n;exact⟨k,rfl,q H' m⟩⟩
variable {ta tb:ae->Option Bool}{rest:List Expr}
noncomputable def dZ(t u:ae->Option Bool):ae->Option Bool:=λd=>(t d).bind λc=>if c=true then u d else some false
noncomputable def hY(t u:ae->Option Bool):ae->Option Bool:=λd=>(t d).bind λc=>if c=true then some true else u d
noncomputable def gg(t:ae->Option Bool):ae->Option Bool:=λd=>(t d).bind λc=>some (!c)
theorem MX(d:DT X a ta):DW X (.BoolOp .And [a] pos) ta:=Ka d
theorem MY(d:DT X a ta):DW X (.BoolOp .Or [a] pos) ta:=Kb d
theorem MZ(i:DT X a ta)(j:DW X (.BoolOp .And (b::rest) pos) tb):DW X (.BoolOp .And (a::b::rest) pos) (dZ ta tb):=
 Cb (Kc i j)<|by
  rintro r H Q ⟨h,k,R,e,q⟩
  refine bS e λc m e=>?_
  refine⟨h,c,R,m,λn d=>?_⟩
  cases c with
  | true=>exact⟨h,k,R.mono d,e,λH' p=>q H' (d.trans p)⟩
  | false=>cases e;exact q n d
theorem M0(i:DT X a ta)(j:DW X (.BoolOp .Or (b::rest) pos) tb):DW X (.BoolOp .Or (a::b::rest) pos) (hY ta tb):=
 Cb (Ke i j)<|by
  rintro r H Q ⟨h,k,R,e,q⟩
  refine bS e λc m e=>?_
  refine⟨h,c,R,m,λn d=>?_⟩
  cases c with
  | true=>cases e;exact q n d
  | false=>exact⟨h,k,R.mono d,e,λH' p=>q H' (d.trans p)⟩
theorem M1(h:DW X (.BoolOp d l pos) ta):DT X (.BoolOp d l pos) ta:=h.pt
theorem M3(d:DT X a ta):DT X (.UnaryOp .Not a pos) (gg ta):=
 tL (Kf d)<|by
  rintro j H Q ⟨h,k,R,e,q⟩
  refine bS e λc i e=>?_
  cases e;exact⟨h,c,R,i,q⟩
def iI(f g:ae->Option D):ae->Option D:=λd=>(cB f d).bind λc=>if c=true then g d else some (.bl false)
def qV(f g:ae->Option D):ae->Option D:=λd=>(cB f d).bind λc=>if c=true then some (.bl true)else g d
def tM(f:ae->Option D):ae->Option D:=λd=>(cB f d).bind λc=>some (.bl (!c))
theorem M4(h:DE X a f):DE X (.BoolOp d [a] pos) f:=Kj h
theorem M5(j:DE X a fa)(m:DE X (.BoolOp .And (b::rest) pos) fb):DE X (.BoolOp .And (a::b::rest) pos) (iI fa fb):=
 cD (Kk j m)<|by
  rintro u H Q ⟨i,d,R,e,q⟩
  refine bS e λc n e=>?_
  refine⟨i,.bl c,R,qU n,λv p h r=>?_⟩;cases r;refine⟨c,rfl,?_⟩
  cases c with
  | true=>rw[if_pos rfl]at e ⊢;exact⟨i,d,R.mono h,e,λv H' s t=>q v H' (h.trans s) t⟩
  | false=>rw[if_neg bP]at e ⊢;cases e;exact q _ p h (.bl false)
theorem M6(j:DE X a fa)(m:DE X (.BoolOp .Or (b::rest) pos) fb):DE X (.BoolOp .Or (a::b::rest) pos) (qV fa fb):=
 cD (Kl j m)<|by
  rintro u H Q ⟨i,d,R,e,q⟩
  refine bS e λc n e=>?_
  refine⟨i,.bl c,R,qU n,λv p h r=>?_⟩;cases r;refine⟨c,rfl,?_⟩
  cases c with
  | true=>rw[if_pos rfl]at e ⊢;cases e;exact q _ p h (.bl true)
  | false=>rw[if_neg bP]at e ⊢;exact⟨i,d,R.mono h,e,λv H' s t=>q v H' (h.trans s) t⟩
theorem M7(h:DE X a fa):DE X (.UnaryOp .Not a pos) (tM fa):=
 cD (Km h)<|by
  rintro r H Q ⟨i,d,R,e,q⟩
  refine bS e λc j e=>?_
  cases e;refine⟨i,.bl c,R,qU j,λv m n p=>?_⟩;cases p;exact⟨c,rfl,q _ m n (.bl _)⟩
noncomputable def M8(t:ae->Option Bool)(f g:ae->Option D):ae->Option D:=λd=>(t d).bind λc=>if c=true then f d else g d
noncomputable def tN(g g':D->D->Option D)(fa fb fc:ae->Option D):ae->Option D:=λd=>(fa d).bind λx=>(fb d).bind λy=>(g x y).bind λz=>match z with
 | .bl true=>(fc d).bind λw=>g' y w
 | .bl false=>some (.bl false)
 | _=>none
theorem M9{n h:CmpOp}(B:dJ X (bF n) g)(p:dJ X (bF h) g')(C:DE X a fa)(E:DE X b fb)(G:DE X c fc)
  (I:lastMarks [n,h] [b,c]=false:=by with_unfolding_all rfl):DE X (.Compare a [n,h] [b,c] pos) (tN g g' fa fb fc):=
 cD (Lo B p C E G I)<|by
  rintro σ H Q ⟨r,d,R,e,q⟩
  refine bS e λx J e=>?_
  refine bS e λy L e=>?_
  refine bS e λz M e=>?_
  refine⟨r,x,R,J,λv H1 i N=>⟨r,y,R.mono i,L,λu H2 j s=>⟨x,y,z,N.mono j,s,M,λw O m T=>?_⟩⟩⟩
  cases z with
  | bl k=>
   cases T;refine⟨k,rfl,?_⟩
   cases k with
   | true=>
    rw[if_pos rfl]
    refine bS e λw U e=>?_
    exact⟨r,w,R.mono (i.trans (j.trans m)),U,λt H4 A Y=>⟨y,w,d,s.mono (m.trans A),Y,e,λv' H' s5 r5=>q v' H' (i.trans (j.trans (m.trans (A.trans s5)))) r5⟩⟩
   | false=>rw[if_neg bP];cases e;exact q _ O (i.trans (j.trans m)) (.bl false)
  | _=>cases e
end
inductive Out where
 | aF (ρ:ae) | ret (d:D) | brk (ρ:ae) | cnt (ρ:ae)
noncomputable def wants(K:aw)(c:Ends)(H:Hp):Out->Prop
 | .aF b=>∀a H',av H H'->cb K H' a b->c.nx a H'
 | .ret d=>∀v H',av H H'->Rep K H' v d->c.rt v H'
 | .brk b=>∀a H',av H H'->cb K H' a b->c.bk a H'
 | .cnt b=>∀a H',av H H'->cb K H' a b->c.ct a H'
theorem wants.mono{K:aw}{b:Ends}{H H':Hp}{o:Out}(h:wants K b H o)(e:av H H'):wants K b H' o:=by
 cases o with
 | aF c=>exactλa H2 s r=>h a H2 (e.trans s) r
 | ret d=>exactλa H2 s r=>h a H2 (e.trans s) r
 | brk c=>exactλa H2 s r=>h a H2 (e.trans s) r
 | cnt c=>exactλa H2 s r=>h a H2 (e.trans s) r
def Cf(K:aw)(g:ae->Option Out):TS:=λb c H=>∃a o,cb K H c a/\g a=some o/\wants K b H o
abbrev DS(X:Cx)(st:Stmt)(g:ae->Option Out):Prop:=PS X st (Cf X.K g)
abbrev lh(X:Cx)(st:List Stmt)(g:ae->Option Out):Prop:=gd X st (Cf X.K g)
section
variable {X:Cx}{e c:Expr}{st:Stmt}{rest:List Stmt}{pos:Pos}{f:ae->Option D}{g u:ae->Option Out}{t:ae->Option Bool}
noncomputable def bD:ae->Option Out:=λa=>some (.aF a)
noncomputable def aQ(g u:ae->Option Out):ae->Option Out:=λa=>(g a).bind λo=>match o with
 | .aF ρ'=>u ρ'
 | o=>some o
theorem M_:lh X [] bD:=me Be<|by rintro b a H ⟨d,o,R,e,q⟩;cases e;exact q a H (av.refl H) R
theorem Na(h:DS X st g):lh X [st] g:=wA h
theorem Nb(a:DS X st g)(h:lh X rest u):lh X (st::rest) (aQ g u):=
 me (wz a h)<|by
  rintro m n H ⟨i,o,R,e,q⟩
  refine bS e λb a e=>?_
  refine⟨i,b,R,a,?_⟩
  cases b with
  | aF ρ'=>exactλj H' s r=>⟨ρ',o,r,e,q.mono s⟩
  | ret d=>cases e;exact q
  | brk ρ'=>cases e;exact q
  | cnt ρ'=>cases e;exact q
noncomputable def aY(f:ae->Option D):ae->Option Out:=λa=>(f a).bind λd=>some (.ret d)
theorem Nc(h:DE X e f):DS X (.Return (some e) pos) (aY f):=
 c7 (sZ h)<|by
  rintro i j H ⟨a,o,R,e,q⟩
  refine bS e λd b e=>?_
  cases e;exact⟨a,d,R,b,q⟩
noncomputable def bf(t:ae->Option Bool)(g u:ae->Option Out):ae->Option Out:=λa=>(t a).bind λc=>if c=true then g a else u a
theorem Nd{a b:List Stmt}(i:DT X c t)(j:lh X a g)(m:lh X b u):DS X (.If c a b pos) (bf t g u):=
 c7 (wB i j m)<|by
  rintro p r H ⟨h,o,R,e,q⟩
  refine bS e λk n e=>?_
  refine⟨h,k,R,n,λs d=>?_⟩
  cases k with
  | true=>rw[if_pos rfl]at e;exact⟨h,o,R.mono d,e,q.mono d⟩
  | false=>rw[if_neg bP]at e;exact⟨h,o,R.mono d,e,q.mono d⟩
noncomputable def cc(i:Nat)(f:ae->Option D):ae->Option Out:=λa=>(f a).bind λd=>some (.aF (a.set i (some d)))
theorem Nf{i:Nat}{x:Str}{a:Pos}(j:X.N.Nodup)(m:X.N[i]?=some x)(n:Loc X.env.scope x)(h:DE X e f)(p:gu e (some (.Name x a)) pos.line X.env=pure false:=by rfl)
  (r:X.fn x=true\/X.env.scope.names.lookup x=some .local:=by first | exact .inl rfl | exact .inr rfl):DS X (.Assign [.Name x a] e pos) (cc i f):=
 c7 (oP j m n h p r)<|by
  rintro A B H ⟨s,o,R,e,q⟩
  refine bS e λd w e=>?_
  cases e;exact⟨s,d,R,w,λv y b z=>q _ y b ((R.mono b).set i z)⟩
end
noncomputable def ko(K:aw)(F:List D->Option D):Sp:=λvs H Q _=>∃ds d,aC K H vs ds/\F ds=some d/\∀v H',av H H'->Rep K H' v d->Q v H'
structure Callee(P:a6)(w:World)(K:aw)(mg:Str->Option Value)(base:Heap)(k:Nat)(x:Str)(F:List D->Option D):Prop where
 ex:∃(f:Addr)(fd:d7)(ps:List Str),mg x=some (.ref f)/\mP K (.ref f)=true/\jI K fd ps []/\dS P w K mg base dG k f fd ps (ko K F)
noncomputable def au(F:List D->Option D)(g:ae->Option (List D)):ae->Option D:=λa=>(g a).bind F
section
variable {X:Cx}{e a b:Expr}{es:List Expr}{pos p:Pos}{f fa fb:ae->Option D}{fs:ae->Option (List D)}{x:Str}
theorem Ng{k:Nat}(C:Callee X.prog X.w X.K X.mg X.base k x F)(i:bL k X.A)(j:Gl X x)(m:kn X (e::es) fs)(g:(x==("__debug__":Str))=false:=by decide)(n:bq (e::es) X.env=(false,eval e X.env)::bq es X.env:=by rfl)(h:(g7 pos (bq es X.env)).any (·.1)=false:=by rfl):DE X (.Call (.Name x p) (e::es) [] pos) (au F fs):=by
 refine ey C.ex λf L ps r s c=>bX c λt u=>?_;clear c
 refine cD (By u i j r s t .nil BX m g n h) λM H Q y=>?_
 obtain⟨z,d,R,e,q⟩:=y
 refine bS e λds B e=>?_
 exact⟨z,ds,R,B,λvs N E G=>⟨ds,d,by rw[gv];exact G,e,λv H' I J=>q v H' (E.trans I) J⟩⟩
end
noncomputable def iW(n:Nat)(ds:List D):ae:=ds.map some++z_ (n-ds.length) none
theorem Nh{K:aw}{H:Hp}{N:List Str}{vs:List V}{ds:List D}(r:aC K H vs ds):cb K H (start N vs) (iW N.length ds):=by
 have a:=r.length
 refine⟨by simp[L2.start,iW,a],λi d h=>?_⟩;unfold iW at h
 by_cases b:i<ds.length
 ·rw[jC (by simpa using b),bJ]at h
  cases q:ds[i]? with
  | none=>rw[q]at h;cases h
  | some d'=>
   rw[q]at h;cases h;obtain⟨v,c,e⟩:=r.get q;refine⟨v,?_,e⟩;unfold L2.start;rw[jC (by simp[a];exact b),bJ,c]
   rfl
 ·rw[v7 (by simp;lia),ID]at h
  split at h<;>cases h
section
variable {P:a6}{w:World}{K:aw}{mg:Str->Option Value}{base:Heap}
end
section
variable {X:Cx}
theorem cq.imp(h:cq X f r)(b:∀x y H Q,c x y H Q->r x y H Q):cq X f c:=λa s d H x y v u Q I e g q=>h a s d H x y v u Q I e g (b x y H Q q)
theorem cq.cases(h:∀x y H Q,r x y H Q->∃b,cq X f b/\b x y H Q):cq X f r:=λa s c H x y v u Q I d e q=>by
 obtain⟨b,g,i⟩:=h x y H Q q;exact g a s c H x y v u Q I d e i
noncomputable def aM:D->D->Option D
 | .int i,.int j=>some (.int (i+j))
 | .str x,.str y=>if x.length+y.length<=aB then some (.str (x++y))else none
 | .tup xs,.tup ys=>if(!xs.isEmpty)=true/\xs.length+ys.length<=aB then some (.tup (xs++ys))else none
 | .lst xs,.lst ys=>if xs.length+ys.length<=aB then some (.lst (xs++ys))else none
 | _,_=>none
theorem Cg(x y:Str):(x++y).length=x.length+y.length:=by
 show(x.cps++y.cps).size=_
 rw[Array.size_append]<;>rfl
theorem Inv.pb{s:ao}{xs:List V}(I:Inv X c d H s)(h:Rd H l (.lst xs)):
  ∃(a:List Value)(n:Nat),Vals xs a/\xs.length=a.length/\s.heap.get? l=some { cls:=.type "list",data:=.seq a.toArray n }/\xs.length<=aB:=by
 refine bX (h.ok I.aR) λz b=>cz b λa n r e=>?_;clear b
 exact⟨a,n,r,r.length,e,z⟩
def Ni:R2:=λx y H Q=>∃l b xs a,x=.ref l/\y=.ref b/\Rd H l (.lst xs)/\Rd H b (.lst a)/\xs.length+a.length<=aB/\∀p,H p=none->Q (.ref p) (upd H p (.lst (xs++a)))
theorem Ci:cq X (dw .Add) Ni:=by
 intro j s G H x y v u Q I m p h
 refine dd h λl b xs c=>eh c λJ g i t d=>bK d λw hz q=>?_;clear h c d;subst g;subst i
 cases m;cases p
 refine dq (Inv.pb I t) λf n r L e z=>?_
 refine dq (Inv.pb I w) λa n2 A B C M=>?_
 refine PySem.P.add_list e C ?_ (by rw[cH,cH];lia)
 have E:f.toArray++a.toArray=(f++a).toArray:=by simp
 rw[E];exact⟨.ref _,_,I.Md (t':=s.toks) (r.append A) (by rw[bQ];omega),rfl,q _ I.fresh⟩
theorem Cj:dJ X (dw .Add) aM:=cq.cases<|by
 rintro x y H Q ⟨v,w,d,u,c,e,q⟩
 cases u with
 | int i=>
  cases c with
  | int j=>cases e;exact⟨_,K7,i,j,rfl,rfl,q _ H (av.refl H) (.int _)⟩
  | _=>cases e
 | str x A=>
  cases c with
  | str y B=>
   have f:(if x.length+y.length<=aB then some (D.str (x++y))else none)=some d:=e
   split at f
   ·rename_i hz
    cases f;exact⟨_,Lr,x,y,rfl,rfl,hz,q _ H (av.refl H) (.str _ (by rw[Cg];exact hz))⟩
   ·cases f
  | _=>cases e
 | @tup a xs ds h r=>
  cases c with
  | @tup b ys es m c=>
   have f:(if(!ds.isEmpty)=true/\ds.length+es.length<=aB then some (D.tup (ds++es))else none)=some d:=e
   split at f
   ·rename_i hz
    cases f;obtain⟨n,hz⟩:=hz
    have s:=r.length
    have t:=c.length
    refine⟨_,LV,a,b,xs,ys,rfl,rfl,h,m,?_,by lia,?_,?_⟩
    ·intro z
     subst z
     cases ds with
     | nil=>simp at n
     | cons _ _=>simp at s
    ·intro z
     subst z
     cases es with
     | nil=>rw[gv]at q;exact q _ H (av.refl H) (.tup h r)
     | cons _ _=>simp at t
    ·intro z p g
     exact q _ _ (cE g _) (.tup (.of bG) ((r.append c).mono (cE g _)))
   ·cases f
  | _=>cases e
 | @lst a xs ds h r=>
  cases c with
  | @lst b ys es m c=>
   have f:(if ds.length+es.length<=aB then some (D.lst (ds++es))else none)=some d:=e
   split at f
   ·rename_i hz
    cases f
    have s:=r.length
    have t:=c.length
    exact⟨_,Ci,a,b,xs,ys,rfl,rfl,h,m,by omega,λp g=>q _ _ (cE g _) (.lst (.inl bG) ((r.append c).mono (cE g _)))⟩
   ·cases f
  | _=>cases e
 | _=>first | cases e | (cases c<;>cases e)
noncomputable def dI(C:Int->Int->Prop)[∀i j,Decidable (C i j)](g:Int->Int->D):D->D->Option D
 | .int i,.int j=>if C i j then some (g i j)else none
 | _,_=>none
theorem tO[∀i j,Decidable (C i j)](c:cq X f (rI C v))(h:∀H i j,Rep X.K H (v i j) (g i j)):dJ X f (dI C g):=
 cq.imp c<|by
  rintro x y H Q ⟨p,r,d,m,b,e,q⟩
  cases m with
  | int i=>
   cases b with
   | int j=>
    have a:(if C i j then some (g i j)else none)=some d:=e
    split at a
    ·rename_i n
     cases a;exact⟨i,j,rfl,rfl,n,q _ H (av.refl H) (h H i j)⟩
    ·cases a
   | _=>cases e
  | _=>first | cases e | (cases b<;>cases e)
noncomputable instance(i j:Int):Decidable (kj i j):=by unfold kj;infer_instance
noncomputable instance(i j:Int):Decidable (oT i j):=by unfold oT;infer_instance
noncomputable def gB:D->D->Option D
 | .int i,.int j=>some (.int (i-j))
 | _,_=>none
theorem Nj:dJ X (dw .Sub) gB:=cq.imp K8<|by
  rintro x y H Q ⟨c,f,d,b,a,e,q⟩
  cases b with
  | int i=>
   cases a with
   | int j=>cases e;exact⟨i,j,rfl,rfl,q _ H (av.refl H) (.int _)⟩
   | _=>cases e
  | _=>first | cases e | (cases a<;>cases e)
def jj:D->D->Option D:=dI kj λi j=>.int (i*j)
theorem Nk:dJ X (dw .Mult) jj:=tO K9 λ_ _ _=>.int _
def ej:D->D->Option D:=dI (λ_ j=>0<j) λi j=>.int (i%j)
theorem Nl:dJ X (dw .Mod) ej:=tO La λ_ _ _=>.int _
def lj:D->D->Option D:=dI oT λi j=>.int (i / j)
theorem Nm:dJ X (dw .FloorDiv) lj:=tO K_ λ_ _ _=>.int _
noncomputable def xc(p:Int->Int->Bool)(q:Str->Str->Bool):D->D->Option D
 | .int i,.int j=>some (.bl (p i j))
 | .str x,.str y=>some (.bl (q x y))
 | _,_=>none
noncomputable def bc(x y:Str):Bool:=decide (x.cps.toList<y.cps.toList)
theorem Ck(f:cq X b (ma λi j=>.bl (p i j)))(g:cq X b (λx y H Q=>∃i j,x=.str i/\y=.str j/\Q (.bl (q i j)) H)):dJ X b (xc p q):=
 cq.cases<|by
  rintro x y H Q ⟨m,n,d,h,a,e,c⟩
  cases h with
  | int i=>
   cases a with
   | int j=>cases e;exact⟨_,f,i,j,rfl,rfl,c _ H (av.refl H) (.bl _)⟩
   | _=>cases e
  | str x r=>
   cases a with
   | str y s=>cases e;exact⟨_,g,x,y,rfl,rfl,c _ H (av.refl H) (.bl _)⟩
   | _=>cases e
  | _=>first | cases e | (cases a<;>cases e)
theorem Nn:cq X (bF .LtE) (λx y H Q=>∃i j,x=.str i/\y=.str j/\Q (.bl (!bc j i)) H):=by
 intro c s f H x y v u Q I d e h
 refine cM h λi j a b q=>?_;clear h;subst a;subst b
 obtain⟨t,rfl⟩:=d;obtain⟨t',rfl⟩:=e;exact PySem.P.le_str ⟨.bl _,H,I,rfl,q⟩
def jk:D->D->Option D:=xc (λi j=>decide (i<j)) bc
def ni:D->D->Option D:=xc (λi j=>decide (i<=j)) λx y=>!bc y x
theorem Np:dJ X (bF .Lt) jk:=Ck Ld Lg
theorem Nq:dJ X (bF .LtE) ni:=Ck Le Nn
noncomputable def ll:D->D->Option D
 | .int i,.int j=>some (.bl (decide (j<i)))
 | _,_=>none
noncomputable def Nr:D->D->Option D
 | .int i,.int j=>some (.bl (decide (j<=i)))
 | _,_=>none
theorem Nt:dJ X (bF .Gt) ll:=cq.imp Lf<|by
  rintro x y H Q ⟨c,f,d,b,a,e,q⟩
  cases b with
  | int i=>
   cases a with
   | int j=>cases e;exact⟨i,j,rfl,rfl,q _ H (av.refl H) (.bl _)⟩
   | _=>cases e
  | _=>first | cases e | (cases a<;>cases e)
noncomputable def cu:D->D->Bool
 | .ay,.ay=>true
 | .bl a,.bl b=>a==b
 | .bl a,.int b=>(if a then 1 else 0)==b
 | .int a,.bl b=>a==(if b then 1 else 0)
 | .int a,.int b=>a==b
 | .str a,.str b=>a==b
 | _,_=>false
noncomputable def cN:D->Bool
 | .aW _=>true
 | .aH _ _=>true
 | .tab .. =>true
 | _=>false
noncomputable def gh:D->Bool
 | .lst _=>true
 | _=>false
def pd(x y:D):Option Bool:=if((gh x&&gh y)||(cN x||cN y))=true then none else some (cu x y)
mutual
noncomputable def bM:Nat->D->D->Option Bool
 | 0,.tup _,.tup _=>none
 | n+1,.tup xs,.tup ys=>(cy n xs ys).map λb=>b&&xs.length==ys.length
 | _,x,y=>pd x y
noncomputable def cy:Nat->List D->List D->Option Bool
 | n,x::xs,y::ys=>(bM n x y).bind λb=>(cy n xs ys).map λc=>b&&c
 | _,_,_=>some true
end
theorem Inv.df{s:ao}(I:Inv X c d H s)(h:cx X.K H a xs):∃b:List Value,Vals xs b/\s.heap.IsTuple a b.toArray:=by
 refine aP (I.tuple h) λb r p _=>?_
 exact⟨b,r,p⟩
theorem Inv.c3{s:ao}(I:Inv X c d H s)(h:Rd H a (.lst xs)):∃b:List Value,Vals xs b/\s.heap.IsList a b.toArray:=by
 refine dq (Inv.pb I h) λb n r f e _=>?_
 exact⟨b,r,⟨_,e,rfl,_,rfl⟩⟩
end
noncomputable def d2:D->Bool
 | .tup _=>true
 | _=>false
theorem jl(h:d2 d=true):∃xs,d=.tup xs:=by cases d<;>first | exact⟨_,rfl⟩ | cases h
theorem xf(n:Nat)(x y:D)(a:(d2 x&&d2 y)=false):bM n x y=if((gh x&&gh y)||(cN x||cN y))=true then none else some (cu x y):=by
 cases n<;>cases x<;>cases y<;>first | rfl | cases a
theorem qW{n:Nat}{b:Bool}(a:(d2 x&&d2 y)=false)(h:bM n x y=some b):b=cu x y/\(gh x&&gh y)=false/\cN x=false/\cN y=false:=by
 rw[xf n x y a]at h
 simp_all
theorem qX{n:Nat}{xs ys:List D}{b:Bool}(h:bM n (.tup xs) (.tup ys)=some b):∃m c,n=m+1/\cy m xs ys=some c/\b=(c&&xs.length==ys.length):=by
 cases n with
 | zero=>cases h
 | succ m=>
  simp only[bM,bC]at h;obtain⟨c,a,d⟩:=h;exact⟨m,c,rfl,a,d.symm⟩
theorem xg{n:Nat}:∀{xs ys:List D}{c:Bool},cy n xs ys=some c->∀(j:Nat)(x y:D),xs[j]?=some x->ys[j]?=some y->∃b,bM n x y=some b
 | [],ys,c,h,j,x,y,a,d=>by simp at a
 | x'::xs,[],c,h,j,x,y,a,d=>by simp at d
 | x'::xs,g::ys,c,h,j,x,y,a,d=>by
  simp only[cy]at h
  refine bS h λb e h=>?_
  simp only[bC]at h;obtain⟨i,f,m⟩:=h
  cases j with
  | zero=>
   simp at a d
   subst a d;exact⟨b,e⟩
  | succ j=>exact xg f j x y (by simpa using a) (by simpa using d)
def jn(n:Nat)(xs ys:List D)(j:Nat):Bool:=match xs[j]?,ys[j]? with
 | some x,some y=>(bM n x y).getD false
 | _,_=>false
theorem Cm(m:Nat)(e:Nat->Bool):(dY (m+1)).all e=(e 0&&(dY m).all λj=>e (j+1)):=by
 rw[YT,e_,List.all_map]
 rfl
theorem qY{n:Nat}:∀{xs ys:List D}{c:Bool},cy n xs ys=some c->(dY (min xs.length ys.length)).all (jn n xs ys)=c
 | [],ys,c,h=>by simp_all[cy]
 | x'::xs,[],c,h=>by simp_all[cy]
 | x'::xs,a::ys,c,h=>by
  simp only[cy]at h
  refine bS h λb d h=>?_
  simp only[bC]at h;obtain⟨p,e,f⟩:=h
  have g:=qY e
  have i:min (x'::xs).length (a::ys).length=min xs.length ys.length+1:=by simp only[bR];lia
  rw[i,Cm,<-f]
  have e0:jn n (x'::xs) (a::ys) 0=b:=by simp[jn,d]
  have m:(λj=>jn n (x'::xs) (a::ys) (j+1))=jn n xs ys:=by funext j;simp[jn]
  rw[e0,m,g]
section
variable {X:Cx}{pins:List (Addr × Obj)}{σ:St}{H:Hp}{s:ao}
theorem Nu{n:Nat}(p:∀{v:V}{d d':D}{b:Bool},Rep X.K H v d->Rep X.K H v d'->bM n d d'=some b->b=true):∀{ds a:List D}{b:Bool},aC X.K H vs ds->aC X.K H vs a->cy n ds a=some b->b=true:=by
 induction vs with
 | nil=>intro ds a b r f e;cases r;simp_all[cy,IE]
 | cons v vs g=>
  intro ds a b r f e
  cases r with
  | cons r t=>
   cases f with
   | cons f t'=>
    simp only[cy]at e
    refine bS e λc h e=>?_
    obtain⟨i,j,m⟩:=bC.mp e
    grind
theorem Cn(I:Inv X pins σ H s)(h:cx X.K H a xs)(h':Rd H a (.lst ys)):False:=by
 obtain⟨_,_,p⟩:=Inv.df I h;obtain⟨_,_,b⟩:=Inv.c3 I h';exact absurd rfl (SeqAt.ne_of_list_tuple b p)
theorem Co(I:Inv X pins σ H s){n:Nat}{v:V}{d d':D}{b:Bool}(r:Rep X.K H v d)(c:Rep X.K H v d')(e:bM n d d'=some b)(t:∀xs ys,d=.tup xs->d'=.tup ys->b=true):b=true:=by
 cases a:d2 d&&d2 d' with
 | true=>
  rw[bB]at a;obtain⟨xs,j⟩:=jl a.1;obtain⟨ys,f⟩:=jl a.2;exact t xs ys j f
 | false=>
  refine gA (qW a e) λg f m i=>?_;subst g
  clear t e
  cases r with
  | aW | aH | tab=>cases m
  | tup h _=>
   cases c with
   | aW | aH | tab=>cases i
   | tup=>cases a
   | lst h' _=>exact(Cn I h h').elim
  | lst h _=>
   cases c with
   | aW | aH | tab=>cases i
   | lst=>cases f
   | tup h' _=>exact(Cn I h' h).elim
  | _=>cases c;simp[cu]
theorem Nv(I:Inv X pins σ H s){n:Nat}:∀{v:V}{d d':D}{b:Bool},Rep X.K H v d->Rep X.K H v d'->bM n d d'=some b->b=true:=by
 induction n with
 | zero=>
  intro v d d' b r a e
  refine Co I r a e λxs ys f g=>?_
  subst f g
  refine cz (qX e) λm _ h _=>?_
  cases h
 | succ n j=>
  intro v d d' b r a e
  refine Co I r a e λxs ys f g=>?_
  subst f g
  refine cM (qX e) λm c h f i=>?_;subst i
  cases h
  cases r with
  | tup h r=>
   cases a with
   | tup h' a=>
    have q:=I.sY h h'
    subst q;rw[Nu j r a f,<-r.length,<-a.length]
    simp
open SeqAt.EqAt in
theorem xh(I:Inv X pins σ H s){A:a8}(d:A.units<cLine)(f:RelV x u)(c:RelV y w)(r:Rep X.K H x j)(g:Rep X.K H y m)(h:(d2 j&&d2 m)=false)(v:(gh j&&gh m)=false)(z:cN j=false)(i:cN m=false):sG A s u w (cu j m):=by
 cases r with
 | aW | aH | tab=>exact absurd z.symm bP
 | ay=>
  cases f
  cases g with
  | aW | aH | tab=>exact absurd i.symm bP
  | ay=>cases c;first | exact vY _ | exact none_none
  | bl b=>cases c;exact none_bool b
  | int b=>obtain⟨t,rfl⟩:=c;exact none_int b t
  | str b _=>obtain⟨t,rfl⟩:=c;exact none_str b t
  | tup q _=>cases c;obtain⟨_,_,p⟩:=Inv.df I q;exact none_tuple p d
  | lst q _=>cases c;obtain⟨_,_,p⟩:=Inv.c3 I q;exact none_list p d
 | bl a=>
  cases f
  cases g with
  | aW | aH | tab=>exact absurd i.symm bP
  | ay=>cases c;exact bool_none a
  | bl b=>cases c;exact bool_bool a b
  | int b=>obtain⟨t,rfl⟩:=c;exact bool_int a b t
  | str b _=>obtain⟨t,rfl⟩:=c;exact bool_str a b t
  | tup q _=>cases c;obtain⟨_,_,p⟩:=Inv.df I q;exact bool_tuple a p d
  | lst q _=>cases c;obtain⟨_,_,p⟩:=Inv.c3 I q;exact bool_list a p d
 | int a=>
  obtain⟨t',rfl⟩:=f
  cases g with
  | aW | aH | tab=>exact absurd i.symm bP
  | ay=>cases c;exact int_none a t'
  | bl b=>cases c;exact int_bool a t' b
  | int b=>obtain⟨t,rfl⟩:=c;exact int_int a t' b t
  | str b _=>obtain⟨t,rfl⟩:=c;exact int_str a t' b t
  | tup q _=>cases c;obtain⟨_,_,p⟩:=Inv.df I q;exact int_tuple a t' p d
  | lst q _=>cases c;obtain⟨_,_,p⟩:=Inv.c3 I q;exact int_list a t' p d
 | str a _=>
  obtain⟨t',rfl⟩:=f
  cases g with
  | aW | aH | tab=>exact absurd i.symm bP
  | ay=>cases c;exact str_none a t'
  | bl b=>cases c;exact str_bool a t' b
  | int b=>obtain⟨t,rfl⟩:=c;exact str_int a t' b t
  | str b _=>obtain⟨t,rfl⟩:=c;exact str_str a t' b t
  | tup q _=>cases c;obtain⟨_,_,p⟩:=Inv.df I q;exact str_tuple a t' p d
  | lst q _=>cases c;obtain⟨_,_,p⟩:=Inv.c3 I q;exact str_list a t' p d
 | tup n B=>
  cases f;obtain⟨_,_,e⟩:=Inv.df I n
  cases g with
  | aW | aH | tab=>exact absurd i.symm bP
  | ay=>cases c;exact tuple_none e d
  | bl b=>cases c;exact tuple_bool b e d
  | int b=>obtain⟨t,rfl⟩:=c;exact tuple_int b t e d
  | str b _=>obtain⟨t,rfl⟩:=c;exact tuple_str b t e d
  | tup q _=>exact absurd h.symm bP
  | lst q _=>cases c;obtain⟨_,_,p⟩:=Inv.c3 I q;exact tuple_list e p d
 | lst n B=>
  cases f;obtain⟨_,_,e⟩:=Inv.c3 I n
  cases g with
  | aW | aH | tab=>exact absurd i.symm bP
  | ay=>cases c;exact list_none e d
  | bl b=>cases c;exact list_bool b e d
  | int b=>obtain⟨t,rfl⟩:=c;exact list_int b t e d
  | str b _=>obtain⟨t,rfl⟩:=c;exact list_str b t e d
  | tup q _=>cases c;obtain⟨_,_,p⟩:=Inv.df I q;exact list_tuple e p d
  | lst q _=>exact absurd v.symm bP
theorem xi(I:Inv X pins σ H s):∀(n:Nat){A:a8}{x y:V}{i p:D}{u w:Value}{b:Bool},A.units+n<cLine->RelV x u->RelV y w->Rep X.K H x i->Rep X.K H y p->bM n i p=some b->sG A s u w b:=by
 intro n
 induction n with
 | zero=>
  intro A x y i p u w b hu Q T v t e
  by_cases f:(d2 i&&d2 p)=true
  ·rw[bB]at f
   obtain⟨xs,rfl⟩:=jl f.1;obtain⟨ys,rfl⟩:=jl f.2;cases e
  ·refine gA (qW (jE.mpr f) e) λh h2 h3 h4=>?_;subst h
   grind[xh]
 | succ m ih=>
  intro A x y i p u w b hu Q T v t e
  have B:A.units<cLine:=by lia
  by_cases f:(d2 i&&d2 p)=true
  ·rw[bB]at f
   obtain⟨xs,rfl⟩:=jl f.1;obtain⟨ys,rfl⟩:=jl f.2
   refine cM (qX e) λm' c hm h1 C=>?_;subst C
   cases hm
   have hs:=λz:x=y=>Nv I (z▸v) t e
   cases v with
   | @tup a vs _ q r=>
    cases t with
    | @tup U vs2 _ q2 t=>
     cases Q;cases T
     by_cases hab:a=U
     ·simp_all[vY]
     ·obtain⟨g,Y,p1⟩:=Inv.df I q
      obtain⟨d,v2,p2⟩:=Inv.df I q2
      have l1:g.toArray.size=xs.length:=by rw[cH,<-Y.length];exact r.length
      have l2:d.toArray.size=ys.length:=by rw[cH,<-v2.length];exact t.length
      have key:YU A s (.ref a) (.ref U) ((dY (min g.toArray.size d.toArray.size)).all (jn m xs ys)&&g.toArray.size==d.toArray.size):=by
       refine IA p1 p2 B λj j1 j2=>?_
       have hx:∃z,xs[j]?=some z:=(by simp_all)
       have hy:∃z,ys[j]?=some z:=(by simp_all)
       obtain⟨E,G⟩:=hx;obtain⟨J,L⟩:=hy;obtain⟨vx,gx,rx'⟩:=r.get G;obtain⟨vy,gy,ry'⟩:=t.get L;obtain⟨ux,M,hx2⟩:=Y.get gx;obtain⟨uy,N,hy2⟩:=v2.get gy;obtain⟨b',O⟩:=xg h1 j E J G L
       have e1:g.toArray[j]=ux:=by
        obtain⟨_,q⟩:=cA.mp M
        simpa using q
       have e2:d.toArray[j]=uy:=by
        obtain⟨_,q⟩:=cA.mp N
        simpa using q
       have e3:jn m xs ys j=b':=by simp[jn,G,L,O]
       rw[e1,e2,e3];exact(by grind)
      simp_all[qY,YN]
  ·refine gA (qW (jE.mpr f) e) λh h2 h3 h4=>?_;subst h
   grind[xh]
open SeqAt.RcAt in
theorem Nw(I:Inv X pins σ H s){A:a8}(d:A.units<cLine)(f:RelV x u)(c:RelV y w)(r:Rep X.K H x j)(g:Rep X.K H y m)(h:(d2 j&&d2 m)=false)(v:(gh j&&gh m)=false)(z:cN j=false)(i:cN m=false):YU A s u w (cu j m):=by
 cases r with
 | aW | aH | tab=>exact absurd z.symm bP
 | ay=>
  cases f
  cases g with
  | aW | aH | tab=>exact absurd i.symm bP
  | ay=>cases c;first | exact vY _ | exact none_none
  | bl b=>cases c;exact none_bool b
  | int b=>obtain⟨t,rfl⟩:=c;exact none_int b t
  | str b _=>obtain⟨t,rfl⟩:=c;exact none_str b t
  | tup q _=>cases c;obtain⟨_,_,p⟩:=Inv.df I q;exact none_tuple p d
  | lst q _=>cases c;obtain⟨_,_,p⟩:=Inv.c3 I q;exact none_list p d
 | bl a=>
  cases f
  cases g with
  | aW | aH | tab=>exact absurd i.symm bP
  | ay=>cases c;exact bool_none a
  | bl b=>cases c;exact bool_bool a b
  | int b=>obtain⟨t,rfl⟩:=c;exact bool_int a b t
  | str b _=>obtain⟨t,rfl⟩:=c;exact bool_str a b t
  | tup q _=>cases c;obtain⟨_,_,p⟩:=Inv.df I q;exact bool_tuple a p d
  | lst q _=>cases c;obtain⟨_,_,p⟩:=Inv.c3 I q;exact bool_list a p d
 | int a=>
  obtain⟨t',rfl⟩:=f
  cases g with
  | aW | aH | tab=>exact absurd i.symm bP
  | ay=>cases c;exact int_none a t'
  | bl b=>cases c;exact int_bool a t' b
  | int b=>obtain⟨t,rfl⟩:=c;exact int_int a t' b t
  | str b _=>obtain⟨t,rfl⟩:=c;exact int_str a t' b t
  | tup q _=>cases c;obtain⟨_,_,p⟩:=Inv.df I q;exact int_tuple a t' p d
  | lst q _=>cases c;obtain⟨_,_,p⟩:=Inv.c3 I q;exact int_list a t' p d
 | str a _=>
  obtain⟨t',rfl⟩:=f
  cases g with
  | aW | aH | tab=>exact absurd i.symm bP
  | ay=>cases c;exact str_none a t'
  | bl b=>cases c;exact str_bool a t' b
  | int b=>obtain⟨t,rfl⟩:=c;exact str_int a t' b t
  | str b _=>obtain⟨t,rfl⟩:=c;exact str_str a t' b t
  | tup q _=>cases c;obtain⟨_,_,p⟩:=Inv.df I q;exact str_tuple a t' p d
  | lst q _=>cases c;obtain⟨_,_,p⟩:=Inv.c3 I q;exact str_list a t' p d
 | tup n B=>
  cases f;obtain⟨_,_,e⟩:=Inv.df I n
  cases g with
  | aW | aH | tab=>exact absurd i.symm bP
  | ay=>cases c;exact tuple_none e d
  | bl b=>cases c;exact tuple_bool b e d
  | int b=>obtain⟨t,rfl⟩:=c;exact tuple_int b t e d
  | str b _=>obtain⟨t,rfl⟩:=c;exact tuple_str b t e d
  | tup q _=>exact absurd h.symm bP
  | lst q _=>cases c;obtain⟨_,_,p⟩:=Inv.c3 I q;exact tuple_list e p d
 | lst n B=>
  cases f;obtain⟨_,_,e⟩:=Inv.c3 I n
  cases g with
  | aW | aH | tab=>exact absurd i.symm bP
  | ay=>cases c;exact list_none e d
  | bl b=>cases c;exact list_bool b e d
  | int b=>obtain⟨t,rfl⟩:=c;exact list_int b t e d
  | str b _=>obtain⟨t,rfl⟩:=c;exact list_str b t e d
  | tup q _=>cases c;obtain⟨_,_,p⟩:=Inv.df I q;exact list_tuple e p d
  | lst q _=>exact absurd v.symm bP
open SeqAt.RcNeAt in
theorem Nx(I:Inv X pins σ H s){A:a8}(d:A.units<cLine)(f:RelV x u)(c:RelV y w)(r:Rep X.K H x j)(g:Rep X.K H y m)(h:(d2 j&&d2 m)=false)(v:(gh j&&gh m)=false)(z:cN j=false)(i:cN m=false):SeqAt.RcNeAt A s u w (!(cu j m)):=by
 cases r with
 | aW | aH | tab=>exact absurd z.symm bP
 | ay=>
  cases f
  cases g with
  | aW | aH | tab=>exact absurd i.symm bP
  | ay=>cases c;first | exact vY _ | exact none_none
  | bl b=>cases c;exact none_bool b
  | int b=>obtain⟨t,rfl⟩:=c;exact none_int b t
  | str b _=>obtain⟨t,rfl⟩:=c;exact none_str b t
  | tup q _=>cases c;obtain⟨_,_,p⟩:=Inv.df I q;exact none_tuple p d
  | lst q _=>cases c;obtain⟨_,_,p⟩:=Inv.c3 I q;exact none_list p d
 | bl a=>
  cases f
  cases g with
  | aW | aH | tab=>exact absurd i.symm bP
  | ay=>cases c;exact bool_none a
  | bl b=>cases c;exact bool_bool a b
  | int b=>obtain⟨t,rfl⟩:=c;exact bool_int a b t
  | str b _=>obtain⟨t,rfl⟩:=c;exact bool_str a b t
  | tup q _=>cases c;obtain⟨_,_,p⟩:=Inv.df I q;exact bool_tuple a p d
  | lst q _=>cases c;obtain⟨_,_,p⟩:=Inv.c3 I q;exact bool_list a p d
 | int a=>
  obtain⟨t',rfl⟩:=f
  cases g with
  | aW | aH | tab=>exact absurd i.symm bP
  | ay=>cases c;exact int_none a t'
  | bl b=>cases c;exact int_bool a t' b
  | int b=>obtain⟨t,rfl⟩:=c;exact int_int a t' b t
  | str b _=>obtain⟨t,rfl⟩:=c;exact int_str a t' b t
  | tup q _=>cases c;obtain⟨_,_,p⟩:=Inv.df I q;exact int_tuple a t' p d
  | lst q _=>cases c;obtain⟨_,_,p⟩:=Inv.c3 I q;exact int_list a t' p d
 | str a _=>
  obtain⟨t',rfl⟩:=f
  cases g with
  | aW | aH | tab=>exact absurd i.symm bP
  | ay=>cases c;exact str_none a t'
  | bl b=>cases c;exact str_bool a t' b
  | int b=>obtain⟨t,rfl⟩:=c;exact str_int a t' b t
  | str b _=>obtain⟨t,rfl⟩:=c;exact str_str a t' b t
  | tup q _=>cases c;obtain⟨_,_,p⟩:=Inv.df I q;exact str_tuple a t' p d
  | lst q _=>cases c;obtain⟨_,_,p⟩:=Inv.c3 I q;exact str_list a t' p d
 | tup n B=>
  cases f;obtain⟨_,_,e⟩:=Inv.df I n
  cases g with
  | aW | aH | tab=>exact absurd i.symm bP
  | ay=>cases c;exact tuple_none e d
  | bl b=>cases c;exact tuple_bool b e d
  | int b=>obtain⟨t,rfl⟩:=c;exact tuple_int b t e d
  | str b _=>obtain⟨t,rfl⟩:=c;exact tuple_str b t e d
  | tup q _=>exact absurd h.symm bP
  | lst q _=>cases c;obtain⟨_,_,p⟩:=Inv.c3 I q;exact tuple_list e p d
 | lst n B=>
  cases f;obtain⟨_,_,e⟩:=Inv.c3 I n
  cases g with
  | aW | aH | tab=>exact absurd i.symm bP
  | ay=>cases c;exact list_none e d
  | bl b=>cases c;exact list_bool b e d
  | int b=>obtain⟨t,rfl⟩:=c;exact list_int b t e d
  | str b _=>obtain⟨t,rfl⟩:=c;exact list_str b t e d
  | tup q _=>cases c;obtain⟨_,_,p⟩:=Inv.df I q;exact list_tuple e p d
  | lst q _=>exact absurd v.symm bP
theorem xj(I:Inv X pins σ H s){m:Nat}{A:a8}{b a:List Value}{c:Bool}(hu:A.units+(m+1)<cLine)(r:aC X.K H vs xs)(x:aC X.K H e ys)(y:Vals vs b)(B:Vals e a)(C:cy m xs ys=some c):∀j (E:j<b.toArray.size)(G:j<a.toArray.size),sG A.in1 s b.toArray[j] a.toArray[j] (jn m xs ys j):=by
 intro j E G
 have l1:b.toArray.size=xs.length:=by rw[cH,<-y.length];exact r.length
 have l2:a.toArray.size=ys.length:=by rw[cH,<-B.length];exact x.length
 have J:∃z,xs[j]?=some z:=(by simp_all)
 have L:∃z,ys[j]?=some z:=(by simp_all)
 obtain⟨f,g⟩:=J;obtain⟨h,i⟩:=L;obtain⟨vx,M,n⟩:=r.get g;obtain⟨vy,N,p⟩:=x.get i;obtain⟨O,t,u⟩:=y.get M;obtain⟨Q,v,w⟩:=B.get N;obtain⟨T,d⟩:=xg C j f h g i
 have U:b.toArray[j]=O:=by
  have:=cA.mp t
  obtain⟨_,q⟩:=this
  simpa using q
 have Y:a.toArray[j]=Q:=by
  have:=cA.mp v
  obtain⟨_,q⟩:=this
  simpa using q
 have e3:jn m xs ys j=T:=by simp[jn,g,i,d]
 rw[U,Y,e3];exact xi I m (by grind) u w n p d
def a7(n:Nat)(x y:D):Option D:=(bM n x y).map .bl
def dt(n:Nat)(x y:D):Option D:=(bM n x y).map λb=>.bl (!b)
end
section
variable {X:Cx}
theorem Ny{n:Nat}(hu:X.A.units+n<cLine):dJ X (bF .Eq) (a7 n):=by
 intro f s N H x y v u Q I E G ⟨O,T,d,g,h,e,q⟩;simp only[a7,bC]at e;obtain⟨b,e,rfl⟩:=e
 have i:X.A.units<cLine:=by lia
 have j:EP X f N Q (.bool b) s:=⟨.bl b,H,I,rfl,q _ H (av.refl H) (.bl b)⟩
 by_cases p:(d2 O&&d2 T)=true
 ·rw[bB]at p
  obtain⟨xs,rfl⟩:=jl p.1;obtain⟨ys,rfl⟩:=jl p.2
  refine cM (qX e) λm c t J z=>?_;subst t;subst z
  cases g with
  | @tup a vs _ U g=>
   cases h with
   | @tup a2 Y _ q2 h=>
    cases E;cases G;obtain⟨B,L,p1⟩:=Inv.df I U;obtain⟨r,M,p2⟩:=Inv.df I q2
    have l1:B.toArray.size=xs.length:=by rw[cH,<-L.length];exact g.length
    have l2:r.toArray.size=ys.length:=by rw[cH,<-M.length];exact h.length
    refine IA p1 p2 i (xj I (by omega) g h L M J) X.prog X.w X.xe _ ?_;rw[l1,l2,qY J];exact j
 ·refine gA (qW (jE.mpr p) e) λC h2 h3 h4=>?_;subst C
  exact Nw I i E G g h (jE.mpr p) h2 h3 h4 X.prog X.w X.xe _ j
theorem Nz{n:Nat}(hu:X.A.units+n<cLine):dJ X (bF .NotEq) (dt n):=by
 intro f s N H x y v u Q I E G ⟨O,T,d,g,h,e,q⟩;simp only[dt,bC]at e;obtain⟨b,e,rfl⟩:=e
 have i:X.A.units<cLine:=by omega
 have j:EP X f N Q (.bool (!b)) s:=⟨.bl (!b),H,I,rfl,q _ H (av.refl H) (.bl _)⟩
 by_cases p:(d2 O&&d2 T)=true
 ·rw[bB]at p
  obtain⟨xs,rfl⟩:=jl p.1;obtain⟨ys,rfl⟩:=jl p.2
  refine cM (qX e) λm c t J z=>?_;subst t;subst z
  cases g with
  | @tup a vs _ U g=>
   cases h with
   | @tup a2 Y _ q2 h=>
    cases E;cases G;obtain⟨B,L,p1⟩:=Inv.df I U;obtain⟨r,M,p2⟩:=Inv.df I q2
    have l1:B.toArray.size=xs.length:=by rw[cH,<-L.length];exact g.length
    have l2:r.toArray.size=ys.length:=by rw[cH,<-M.length];exact h.length
    refine Zsy p1 p2 i (xj I (by omega) g h L M J) X.prog X.w X.xe _ ?_;rw[l1,l2,qY J];exact j
 ·refine gA (qW (jE.mpr p) e) λC h2 h3 h4=>?_;subst C
  exact Nx I i E G g h (jE.mpr p) h2 h3 h4 X.prog X.w X.xe _ j
noncomputable def eA:D->D->Bool
 | .ay,.ay=>true
 | .bl a,.bl b=>a==b
 | _,_=>false
def jo(x:D):D->Option D
 | .ay=>some (.bl (eA x .ay))
 | .bl b=>some (.bl (eA x (.bl b)))
 | _=>none
def hZ(x:D):D->Option D
 | .ay=>some (.bl (!eA x .ay))
 | .bl b=>some (.bl (!eA x (.bl b)))
 | _=>none
theorem xk{K:aw}{H:Hp}{x:V}{d:D}(r:Rep K H x d):decide (x=.ay)=eA d .ay:=by cases r<;>rfl
theorem NA:dJ X (bF .Is) jo:=by
 intro c s h H x y v u Q I a g ⟨i,n,d,f,j,e,q⟩
 cases j with
 | ay=>cases e;exact Lh c s h H x .ay v u Q I a g ⟨rfl,by rw[xk f];exact q _ H (av.refl H) (.bl _)⟩
 | bl b=>
  cases e;cases g;refine wpAny_is_plain ?_ ?_
  ·cases f<;>first | (cases a;rfl) | (obtain⟨t,rfl⟩:=a;rfl)
  ·have m:(v==jU b)=eA i (.bl b):=by
    cases f<;>first | (cases a;rfl) | (obtain⟨t,rfl⟩:=a;rfl) | (cases a;rename_i k;cases k<;>cases b<;>rfl)
   rw[m];exact⟨.bl _,H,I,rfl,q _ H (av.refl H) (.bl _)⟩
 | _=>cases e
theorem NB:dJ X (bF .IsNot) hZ:=by
 intro c s h H x y v u Q I a g ⟨i,n,d,f,j,e,q⟩
 cases j with
 | ay=>cases e;exact Li c s h H x .ay v u Q I a g ⟨rfl,by rw[xk f];exact q _ H (av.refl H) (.bl _)⟩
 | bl b=>
  cases e;cases g;refine wpAny_isNot_plain ?_ ?_
  ·cases f<;>first | (cases a;rfl) | (obtain⟨t,rfl⟩:=a;rfl)
  ·have m:(v==jU b)=eA i (.bl b):=by
    cases f<;>first | (cases a;rfl) | (obtain⟨t,rfl⟩:=a;rfl) | (cases a;rename_i k;cases k<;>cases b<;>rfl)
   rw[m];exact⟨.bl _,H,I,rfl,q _ H (av.refl H) (.bl _)⟩
 | _=>cases e
noncomputable def fR:D->Bool
 | .ay=>true
 | .bl _=>true
 | .int _=>true
 | .str _=>true
 | _=>false
def h8(d:D)(u:Value):Bool:=match u with
 | .none=>cu .ay d
 | .bool b=>cu (.bl b) d
 | .int i _=>cu (.int i) d
 | .str z _=>cu (.str z) d
 | _=>false
theorem Cp{K:aw}{H:Hp}{d a:D}{y:V}{u:Value}(r:RelV y u)(q:Rep K H y a)(f:fR a=true):h8 d u=cu a d:=by
 cases q with
 | ay=>cases r;rfl
 | bl b=>cases r;rfl
 | int i=>obtain⟨t,rfl⟩:=r;rfl
 | str z _=>obtain⟨t,rfl⟩:=r;rfl
 | _=>exact absurd (show false=true from f) bP
theorem tP{K:aw}{H:Hp}{d:D}{xs:List V}:∀{ds:List D}{us:List Value},Vals xs us->aC K H xs ds->ds.all fR=true->us.any (h8 d)=ds.any λy=>cu y d:=by
 induction xs with
 | nil=>intro ds us r q _;cases r;cases q;rfl
 | cons y xs a=>
  intro ds us r q f
  cases r with
  | cons r t=>
   cases q with
   | cons q b=>
    rw[e_,bB]at f;rw[qu,qu,Cp r q f.1,a t b f.2]
theorem tQ(I:Inv X b j H s){A:a8}(c:A.units<cLine)(m:RelV x v)(n:Rep X.K H x d)(p:cN d=false){xs:List V}:
  ∀{ds:List D}{us:List Value},Vals xs us->aC X.K H xs ds->ds.all fR=true->∀u∈us,sG A s u v (h8 d u):=by
 induction xs with
 | nil=>intro ds us r q _ u c;cases r;cases c
 | cons y xs e=>
  intro ds us r q f g lp
  cases r with
  | cons r t=>
   cases q with
   | @cons _ a _ _ q h=>
    rw[e_,bB]at f;rcases a9.mp lp with rfl | lp
    ·rw[Cp r q f.1]
     have w:d2 a=false/\gh a=false/\cN a=false:=by
      have i:=f.1
      cases a<;>first | exact⟨rfl,rfl,rfl⟩ | cases i
     grind[xh]
    ·exact e t h f.2 g lp
def nj(x:D):D->Option D
 | .tup ys=>if(ys.all fR&&!cN x)=true then some (.bl (ys.any λy=>cu y x))else none
 | .lst ys=>if(ys.all fR&&!cN x)=true then some (.bl (ys.any λy=>cu y x))else none
 | _=>none
theorem w5(B:X.A.units+1<cLine):dJ X (bF .In) nj:=by
 intro m s E H x y v u Q I n t ⟨c,G,d,z,C,e,q⟩
 have i:X.A.in1.units<cLine:=B
 cases C with
 | @tup a xs ds h r=>
  cases t
  have g:(if(ds.all fR&&!cN c)=true then some (D.bl (ds.any λy=>cu y c))else none)=some d:=e
  split at g
  ·rename_i f
   cases g;rw[bB,mS]at f;obtain⟨b,j,p⟩:=Inv.df I h;refine SeqAt.in_tupleAt (h8 c) p (λw hw=>tQ I i n z f.2 j r f.1 w (by simpa using hw)) ⟨.bl _,H,I,rfl,?_⟩;rw[show b.toArray.any (h8 c)=b.any (h8 c) by simp,tP j r f.1];exact q _ H (av.refl H) (.bl _)
  ·cases g
 | @lst a xs ds h r=>
  cases t
  have g:(if(ds.all fR&&!cN c)=true then some (D.bl (ds.any λy=>cu y c))else none)=some d:=e
  split at g
  ·rename_i f
   cases g;rw[bB,mS]at f;obtain⟨b,j,p⟩:=Inv.c3 I h;refine SeqAt.in_listAt (h8 c) p (λw hw=>tQ I i n z f.2 j r f.1 w (by simpa using hw)) ⟨.bl _,H,I,rfl,?_⟩;rw[show b.toArray.any (h8 c)=b.any (h8 c) by simp,tP j r f.1];exact q _ H (av.refl H) (.bl _)
  ·cases g
 | _=>cases e
variable {a b e:Expr}{es:List Expr}{pos p:Pos}{fa fb f:ae->Option D}{fs:ae->Option (List D)}
def ak:D->D->Option D
 | .tup xs,.int i=>bA xs i
 | .lst xs,.int i=>bA xs i
 | .aW ns,.int i=>(bA ns i).map .int
 | .str x,.int i=>(bA x.cps.toList i).map λc=>.str ⟨#[c]⟩
 | _,_=>none
theorem xl{K:aw}{H:Hp}{xs:List V}{ds:List D}{i:Int}{d:D}(r:aC K H xs ds)(h:bA ds i=some d):∃v,bA xs i=some v/\Rep K H v d:=by
 unfold bA at h ⊢;rw[r.length]
 cases q:hH ds.length i with
 | none=>simp_all
 | some j=>
  rw[q]at h;exact r.get h
theorem NC(G:DE X a fa)(I:DE X b fb)(J:BM b):DE X (.Subscript a b pos) (ab ak fa fb):=
 cD (BN LZ G I J)<|by
  rintro σ H Q ⟨B,d,R,e,q⟩
  refine bS e λL M e=>?_
  refine bS e λN O e=>?_
  refine⟨B,L,R,M,λv H1 C T=>⟨B,N,R.mono C,O,λu H2 E m=>?_⟩⟩
  have y:=T.mono E
  have t:∀v,Rep X.K H2 v d->Q v H2:=λv U=>q v H2 (C.trans E) U
  cases y with
  | @tup p xs ds h r=>
   cases m with
   | int i=>
    obtain⟨w,hw,g⟩:=xl r (show bA ds i=some d from e);exact .inr (.inl ⟨p,xs,i,w,rfl,rfl,h,hw,t w g⟩)
   | _=>cases e
  | @lst p xs ds h r=>
   cases m with
   | int i=>
    obtain⟨w,hw,g⟩:=xl r (show bA ds i=some d from e);exact .inl ⟨p,xs,i,w,rfl,rfl,.inl h,hw,t w g⟩
   | _=>cases e
  | @aW p ns h=>
   cases m with
   | int i=>
    have s:(bA ns i).map D.int=some d:=e
    rw[bC]at s;obtain⟨n,A,rfl⟩:=s
    have Y:bA (ns.map D.int) i=some (.int n):=by
     unfold bA at A ⊢;rw[aJ]
     cases z:hH ns.length i with
     | none=>simp_all
     | some j=>
      simp_all
    obtain⟨w,hw,g⟩:=xl (oZ (K:=X.K) (H:=H2) ns) Y;exact .inl ⟨p,_,i,w,rfl,rfl,h,hw,t w g⟩
   | _=>cases e
  | str x hx=>
   cases m with
   | int i=>
    have s:(bA x.cps.toList i).map (λc=>D.str ⟨#[c]⟩)=some d:=e
    rw[bC]at s;obtain⟨c,A,rfl⟩:=s;exact .inr (.inr ⟨x,i,c,rfl,rfl,hx,A,t _ (.str _ (show 1<=aB by decide))⟩)
   | _=>cases e
  | _=>first | cases e | (cases m<;>cases e)
def lq(X:Cx)(f:Value)(g:List D->Option D):Prop:=gP X f (λvs H Q=>∃ds d,aC X.K H vs ds/\g ds=some d/\∀v H',av H H'->Rep X.K H' v d->Q v H')
theorem gP.cases{f:Value}{r:List V->Hp->VK->Prop}(h:∀xs H Q,r xs H Q->∃d,gP X f d/\d xs H Q):gP X f r:=λc s g H xs us Q I i q=>by
 obtain⟨d,j,m⟩:=h xs H Q q;exact j c s g H xs us Q I i m
theorem ND{x:Str}{id:String}{g:List D->Option D}(i:lq X (.builtin id) g)(j:Gl X x)(m:X.mg x=none)(n:et x=some (.builtin id))(r:kn X (e::es) fs)(hn:x≠"__name__":=by decide)
  (c:(x==("__debug__":Str))=false:=by decide) (s:bq (e::es) X.env=(false,eval e X.env)::bq es X.env:=by rfl) (h:(g7 pos (bq es X.env)).any (·.1)=false:=by rfl):
  DE X (.Call (.Name x p) (e::es) [] pos) (au g fs):=
 cD (BF i j m n r hn c s h)<|by
  rintro B H Q ⟨t,d,R,e,q⟩
  refine bS e λds u e=>?_
  exact⟨t,ds,R,u,λvs C w y=>⟨ds,d,y,e,λv H' z A=>q v H' (w.trans z) A⟩⟩
theorem NF(i:lq X (.type T) g)(j:Gl X x)(m:X.mg x=none)(n:et x=some (.type T))(r:kn X (e::es) fs)(hn:x≠"__name__":=by decide)(c:(x==("__debug__":Str))=false:=by decide)(s:bq (e::es) X.env=(false,eval e X.env)::bq es X.env:=by rfl)(h:(g7 pos (bq es X.env)).any (·.1)=false:=by rfl):
  DE X (.Call (.Name x p) (e::es) [] pos) (au g fs):=
 cD (BG i j m n r hn c s h)<|by
  rintro B H Q ⟨t,d,R,e,q⟩
  refine bS e λds u e=>?_
  exact⟨t,ds,R,u,λvs C w y=>⟨ds,d,y,e,λv H' z A=>q v H' (w.trans z) A⟩⟩
noncomputable def cV:List D->Option D
 | [.tup xs]=>some (.int xs.length)
 | [.lst xs]=>some (.int xs.length)
 | [.aW ns]=>some (.int ns.length)
 | [.str x]=>some (.int x.length)
 | _=>none
theorem B4:lq X (.builtin "len") cV:=gP.cases<|by
 rintro xs H Q ⟨ds,d,r,e,q⟩
 cases r with
 | nil=>cases e
 | cons r t=>
  cases t with
  | cons _ _=>cases r<;>cases e
  | nil=>
   cases r with
   | tup h c=>cases e;exact⟨_,wY,_,_,rfl,.inr h,by rw[c.length];exact q _ H (av.refl H) (.int _)⟩
   | lst h c=>cases e;exact⟨_,wY,_,_,rfl,.inl (.inl h),by rw[c.length];exact q _ H (av.refl H) (.int _)⟩
   | aW h=>cases e;exact⟨_,wY,_,_,rfl,.inl h,by rw[aJ];exact q _ H (av.refl H) (.int _)⟩
   | str x g=>cases e;exact⟨_,L9,x,rfl,g,q _ H (av.refl H) (.int _)⟩
   | _=>cases e
noncomputable def tR:List D->Option D
 | [.tup xs]=>some (.tup xs)
 | [.lst xs]=>some (.tup xs)
 | _=>none
end
def Wk(K:aw)(J:It)(H:Hp)(ds:List D):Prop:=∀H',av H H'->(∀(i:Nat)(d:D),ds[i]?=some d->J.go i H'/\∀x a,J.oQ i H' x a->av H' a/\Rep K a x d)/\J.stop ds.length H'
noncomputable def NG(K:aw)(f:ae->Option (List D)):TI:=λb H R=>∃a ds,cb K H b a/\f a=some ds/\∀J H',av H H'->Wk K J H' ds->R J H'
abbrev DI(X:Cx)(tg iter:Expr)(f:ae->Option (List D)):Prop:=PI X tg iter (NG X.K f)
noncomputable def NH(K:aw)(g:D->ae->Option ae):TG:=λx c H Q=>∃b d ρ',cb K H c b/\Rep K H x d/\g d b=some ρ'/\∀a H',av H H'->cb K H' a ρ'->Q a H'
abbrev DG(X:Cx)(tg:Expr)(g:D->ae->Option ae):Prop:=PG X tg (NH X.K g)
noncomputable def gN(i:Nat):D->ae->Option ae:=λd a=>some (a.set i (some d))
theorem NI{X:Cx}{i:Nat}(b:X.N.Nodup)(c:X.N[i]?=some x)(f:Loc X.env.scope x)(g:X.fn x=true\/X.env.scope.names.lookup x=some .local:=by first | exact .inl rfl | exact .inr rfl):DG X (.Name x h) (gN i):=
 by rintro a s j H x u Q I r ⟨m,d,ρ',R,rd,e,q⟩;exact Bh b c f g a s j H x u Q I r (by cases e;exact q _ H (av.refl H) (R.set i rd))
noncomputable def bT(X:Cx)(a:Scope)(b:List (Str × Addr))(N':List Str)(C:Addr)(dC:ao)(je:Hp)(c:List Addr):Cx:=
 { X with N:=N',dC:=dC,je:=je,env:=Ao a b C X.env,outer:=X.stack,stack:=X.stack,ex:=c,fn:=λ_=>false,pn:=[],xe:=λ_ _=>False }
noncomputable def h_(cells:List (Str × Addr)):List (Str × Addr)->Prop
  | []=>True
  | (x,c)::r=>cells.lookup x=some c/\h_ cells r
theorem h_.get{cells:List (Str × Addr)}:∀{a:List (Str × Addr)},h_ cells a->∀x c,a.lookup x=some c->cells.lookup x=some c
  | [],_,x,c,h=>by simp at h
  | (y,d)::r,⟨e,b⟩,x,c,h=>by
    rw[YV]at h
    cases q:x==y with
    | true=>
      simp_all
    | false=>
      rw[q]at h;exact h_.get b x c h
noncomputable def ia(a:List (Str × Addr)):List (Str × sr)->Prop
  | []=>True
  | (x,k)::r=>(k=.local\/k=.globalImplicit\/∃c,a.lookup x=some c)/\ia a r
theorem ia.get{a:List (Str × Addr)}:∀{ns:List (Str × sr)},ia a ns->∀x,ns.lookup x=some .cell\/ns.lookup x=some .free->∃c,a.lookup x=some c
  | [],_,x,h=>by simp at h
  | (y,k)::r,⟨d,b⟩,x,h=>by
    simp only[YV]at h
    cases q:x==y with
    | true=>
      grind
    | false=>
      rw[q]at h;exact ia.get b x h
noncomputable def eB(X:Cx)(a:Scope):List Str->List (Option Nat)->Prop
 | [],[]=>True
 | _::N,none::cap=>eB X a N cap
 | x::N,some i::cap=>(X.N[i]?=some x/\(X.env.kindOf x=some .cell\/X.env.kindOf x=some .free)/\((jb a X.env).names.lookup x=some .cell\/(jb a X.env).names.lookup x=some .free))/\eB X a N cap
 | _,_=>False
theorem eB.len:∀{N:List Str}{cap:List (Option Nat)},eB X a N cap->cap.length=N.length
 | [],[],_=>rfl
 | _::N,none::cap,h=>by rw[bR,bR,eB.len (N:=N) (cap:=cap) h]
 | _::N,some _::cap,h=>by rw[bR,bR,eB.len h.2]
theorem eB.get{X:Cx}:∀{N:List Str}{cap:List (Option Nat)},eB X a N cap->∀(j i:Nat),cap[j]?=some (some i)->
  ∃x,N[j]?=some x/\X.N[i]?=some x/\(X.env.kindOf x=some .cell\/X.env.kindOf x=some .free)/\((jb a X.env).names.lookup x=some .cell\/(jb a X.env).names.lookup x=some .free)
 | [],[],_,j,i,h=>by simp at h
 | x::N,none::cap,h,j,i,e=>by
  cases j with
  | zero=>simp at e
  | succ j=>
   obtain⟨y,b,c⟩:=eB.get (N:=N) (cap:=cap) h j i (by simpa using e);exact⟨y,by simpa using b,c⟩
 | x::N,some k::cap,h,j,i,e=>by
  cases j with
  | zero=>
   have d:k=i:=by simpa using e
   subst d;exact⟨x,rfl,h.1⟩
  | succ j=>
   obtain⟨y,b,c⟩:=eB.get h.2 j i (by simpa using e);exact⟨y,by simpa using b,c⟩
def mf(cap:List (Option Nat))(a:ae):ae:=cap.map λo=>o.bind λi=>aa i a
noncomputable def lr(cap:List (Option Nat))(a:St):St:=cap.map λo=>o.bind λi=>match a[i]? with
 | some (some v)=>some v
 | _=>none
theorem NJ{K:aw}{H:Hp}{b:St}{a:ae}(R:cb K H b a)(cap:List (Option Nat)):cb K H (lr cap b) (mf cap a):=by
 refine⟨by simp[lr,mf],λj d h=>?_⟩;unfold mf at h;rw[bJ]at h;unfold lr;rw[bJ]
 cases q:cap[j]? with
 | none=>simp_all
 | some o=>
  rw[q]at h
  cases o with
  | none=>cases h
  | some i=>
   have h':aa i a=some d:=gr h
   obtain⟨v,c,e⟩:=R.get i d (Cd h')
   simp_all
theorem NK{j:Nat}(h:(lr cap a)[j]?=some (some v)):∃i,cap[j]?=some (some i)/\a[i]?=some (some v):=by
 unfold lr at h;rw[bJ]at h
 cases q:cap[j]? with
 | none=>simp_all
 | some o=>
  rw[q]at h
  cases o with
  | none=>cases h
  | some i=>
   grind
def mh(X:Cx)(d:List Expr)(g:ae->Option Bool):Prop:=
 ∀(a:List (Addr × Obj))(s:ao)(e:St)(H:Hp)(f:ae)(b:Bool),Inv X a e H s->cb X.K H e f->g f=some b->
  wpAny (model X.prog X.w) X.A (forIn d true λc r=>if r=true then do let ok<-isTrue c X.env (eval c X.env);pure (YW ok)else pure (YW r)) (λok h=>ok=b/\∃H',av H H'/\Inv X a e H' h) X.xe s
theorem NL:mh X [] (λ_=>some true):=λa s c H d b I R e=>by
 cases e;exact wpAny_tests_nil ⟨rfl,H,av.refl H,I⟩
theorem NM(h:DT X c f):mh X [c] f:=λa s d H g b I R e=>
 wpAny_tests_one (aK (h a s d H (λk H'=>k=b/\av H H') I ⟨g,b,R,e,λH' s=>⟨rfl,s⟩⟩)<|by rintro ok j ⟨H',i,q⟩;exact⟨q.1,H',q.2,i⟩)
noncomputable def b6(c:D->ae->Option ae)(e:ae->Option Bool)(f:ae->Option D):ae->List D->Option (List D)
 | _,[]=>some []
 | ρ,d::ds=>(c d ρ).bind λa=>(e a).bind λb=>if b=true then(f a).bind λy=>(b6 c e f a ds).map (y:: ·)else b6 c e f a ds
def bY(cap:List (Option Nat))(fi:ae->Option (List D))(b:D->ae->Option ae)(c:ae->Option Bool)(d:ae->Option D):ae->Option D:=λa=>(fi a).bind λds=>
 if ds.length<aB then(b6 b c d (mf cap a) ds).map .lst else none
theorem Inv.Cq{X:Cx}{s:ao}(I:Inv X f i H s)(hn:H a=none)(v:X.dC.heap.objs.size<=a)(y:a≠X.env.locals)(z:∀x c,X.env.cells.lookup x=some c->c≠a)(A:∀p∈X.pn++f,p.1≠a)(new:dB X.prog X.w (upd H a o) s.heap a o):Inv X f i (upd H a o) s:=by
 have S:=cE hn o
 obtain⟨j,g,d,t,os⟩:=s;refine I.step (h':=j) (g':=g) (d':=d) (t':=t) (ch:=[a]) (λb h=>?_) (λb o _ _ _ e _=>e) (λb o _ _ _ e _=>⟨o.slots,e⟩) (λb o h e n=>?_) (λb o _ e=>⟨o,e⟩) (λb xs e=>S b _ e) (λb o u e=>S b _ e) (λb ps e=>⟨#[],by rw[S b _ e];simp⟩) (λm r=>r) (λb u e=>?_) I.bare
 ·grind
 ·simp_all[bz]
 ·by_cases h:b=a
  ·simp_all[bG]
  ·rw[bz h]at e
   exact(I.aR b u e).kf (λ_ _ _ q=>q) (λc q=>S c _ q) λc xs q=>S c _ q
noncomputable abbrev jr(ys:List Value)(n:Nat):Obj:={ cls:=.type "list",data:=.seq ys.toArray n }
def mi(K:aw)(f:ae->Option (List D)):TE:=λc H Q=>∃b ds,cb K H c b/\f b=some ds/\∀vs a p,av H a->a p=none->aC K a vs ds->Q (.ref p) (upd a p (.lst vs))
def ek(cap:List (Option Nat))(fi:ae->Option (List D))(b:D->ae->Option ae)(c:ae->Option Bool)(d:ae->Option D):ae->Option (List D):=λa=>(fi a).bind λds=>
 if ds.length<aB then b6 b c d (mf cap a) ds else none
def GE(X:Cx)(b:Expr)(d:ae->Option D)(G:Hp->List V->List D->Prop):Prop:=PE X b (λe H Q=>∃c y vs a,cb X.K H e c/\d c=some y/\G H vs a/\∀v H',av H H'->G H' (vs++[v]) (a++[y])->Q v H')
theorem Cr(h:DE X a b):GE X a b (aC X.K):=cD h<|by rintro f H Q ⟨c,y,vs,d,R,e,g,q⟩;exact⟨c,y,R,e,λv H' s r=>q v H' s ((g.mono s).snoc r)⟩
theorem Ct{X:Cx}{f:Scope}(g0:∀H1,av H H1->G H1 [] [])(gm:∀H1 H2 vs ds,av H1 H2->G H1 vs ds->G H2 vs ds)(hc:X.calm=true)(hi:DI X tg iter fi)(NN:l3 f X.env=pure U)(NO:∀y∈f.names,y.2≠ .cell)(xm:f.kind=.function)(NP:∀y∈f.names,y.2=.local->f.names.lookup y.1=some .local)(iJ:h_ X.env.cells U)(Cu:ia U (jb f X.env).names)(Cv:eB X f N' cap)(qZ:∀C dC je M,DG (bT X f U N' C dC je M) tg gt/\mh (bT X f U N' C dC je M) ifs fc/\GE (bT X f U N' C dC je M) elt fe G)(hs:∀x,oe iter X.env x=pure x:=by intro _;rfl)(I:Inv X N σ H s)(R:cb X.K H σ ρ)(e:ek cap fi gt fc fe ρ=some outs)(fin:∀(C Dd:Addr)(H':Hp)(vs:List V)(s9:ao)(m9:Str->Option Value)(fl:Flow),Inv X N σ (upd H' Dd (.lst vs)) s9->av H H'->H' Dd=none->G H' vs outs->s9.heap.Ns C m9->upd H' Dd (.lst vs) C=none->
   C≠X.env.locals->X.dC.heap.objs.size<=C->(∀x c,X.env.cells.lookup x=some c->c≠C)->(∀p∈X.pn++N,p.1≠C)->compPost (model X.prog X.w) X.A X.xe use Qv (.ref Dd) C (.ok fl) s9):
  wpAny (model X.prog X.w) X.A (comprehension (.ListComp elt [⟨tg,iter,ifs,0⟩] f pos) f X.env (firstIterPos [⟨tg,iter,ifs,0⟩] pos) (newList []) (firstAsync [⟨tg,iter,ifs,0⟩]) (firstIter [⟨tg,iter,ifs,0⟩] X.env) use) Qv X.xe s:=by
 refine bS e λds xn e=>?_
 split at e
 case isFalse=>cases e
 case isTrue hlen=>
 have NQ:=e
 refine wpAny_comprehension_free (use:=use) rfl hs NN xm NP (aK (hi N s σ H (λJ H1=>av H H1/\Wk X.K J H1 ds) I ⟨ρ,ds,R,xn,λJ H1 a b=>⟨a,b⟩⟩) λv s1 h1=>aK h1 λK2 q h2=>?_)
 refine dd h2 λit M tn q7=>iE q7 λJ H2 NR E T Cw q8=>bK q8 λf2 sH wk=>?_;clear h2 q7 q8;subst NR
 refine wpAny_newObj_type (wpAny_newFunctionEnv NO (by intro y hy;simp at hy) (λQ Y L=>?_) xm)
 dsimp only at Y L ⊢
 generalize xo:q.heap.push { cls:=.type "list",dict:=none,data:=.seq ([]:List Value).toArray }=G2 at Y L ⊢
 have xp:G2.objs.size=q.heap.objs.size+1:=by rw[<-xo,kZ]
 have q9:q.heap.objs.size≠G2.objs.size:=by rw[xp];exact bO (v8 _)
 have xq:q.heap.objs.size<=G2.objs.size:=by rw[xp];exact iS _
 have t:∀b,b<q.heap.objs.size->b≠G2.objs.size/\b≠q.heap.objs.size:=λb B=>⟨by rw[xp];exact bO (j7 B),bO B⟩
 have old:∀b o,q.heap.get? b=some o->Q.get? b=some o:=λb o e=>L.extBut b o (t b (bh e)).1 (bx _ (xo▸bx _ e))
 have NS:Q.get? q.heap.objs.size=some (jr [] 0):=L.extBut _ _ q9 (bx _ (xo▸cL _ rfl))
 have tS:∀b∈M,b<q.heap.objs.size:=λb B=>by obtain⟨o,e,_⟩:=T.obj _ _ Cw b B;exact bh e
 have xu:∀x c,X.env.cells.lookup x=some c->c<q.heap.objs.size:=λx c e=>by obtain⟨v,z⟩:=E.cell x c e;exact z.lt
 have NT:H2 G2.objs.size=none:=E.aR.fresh xq
 have NU:H2 q.heap.objs.size=none:=E.aR.fresh (a5 _)
 have Cy:q.heap.objs.size∉jf X.stack:=λB=>by
  rcases a9.mp (E.sU _ B)with z | z
  ·exact absurd z (qh E.lt)
  ·exact E.A7 (a5 _) z
 have NV:de X.prog X.w H2 Q:=E.aR.kept old
 have xw:(bT X f U N' G2.objs.size q H2 M).Ok:=by
  refine⟨E.ok.mod,xm,E.ok.glob,E.ok.blt,xq,λx y c h1 h2=>E.ok.inj x y c (iJ.get x c h1) (iJ.get y c h2),λx hx=>Cu.get x hx,λx c z _=>absurd (show false=true from z) bP,E.ok.hd,E.ok.frames,.inl rfl,λb B=>⟨(t b (tS b B)).1,λx c h=>(f2 b B).2.2.2.2.1 x c (iJ.get x c h)⟩,E.bs,
   cj E.ok.l9 E.sz,λb o e B=>?_,λb B z=>?_,E.stack,E.A8⟩
  ·rcases(f2 b B).2.2.2.1 with z | z
   ·exact E.ok.qK b o e z
   ·exact absurd (iB (bh e) (cj E.ok.l9 z)) (lU _)
  ·rcases a9.mp (E.sU b z)with z | z
   ·exact(f2 b B).2.1 z
   ·exact(f2 b B).2.2.1 z
 have I3:Inv (bT X f U N' G2.objs.size q H2 M) [(q.heap.objs.size,jr [] 0)] (lr cap σ) H2 { q with heap:=Q,toks:=q.toks+([]:List (Str × Value)).length }:=by
  refine⟨xw,rfl,E.bare,Un.kept old,⟨_,Y,λj x v hj hv Zsq=>?_⟩,λx c h=>?_,NT,λx c h=>E.g_ x c (iJ.get x c h),λp hp=>?_,NV,by show(lr cap σ).length=N'.length;rw[<-Cv.len];simp[lr]⟩
  ·obtain⟨i,NW,NX⟩:=NK hv
   refine eh (Cv.get j i NW) λy hy NY hk ku=>?_
   have NZ:y=x:=gr (hy.symm.trans hj)
   subst NZ;obtain⟨m,hn,hl⟩:=E.loc
   have N0:eN X.env.scope y:=by
    rcases hk with hk | hk
    ·exact .inr (.inl hk)
    ·exact .inr (.inr hk)
   obtain⟨u,ru,N1⟩:=hl i y v NY NX N0;refine⟨u,ru,.inr ⟨ku,?_⟩⟩;obtain⟨c,sW⟩:=Cu.get y ku
   have N2:=iJ.get y c sW
   refine⟨c,sW,?_⟩;rcases N1 with⟨N3,_⟩ | ⟨_,c',wx,N4⟩
   ·rcases hk with hk | hk<;>(rw[N3]at hk;cases hk)
   ·have ec:c'=c:=gr (wx.symm.trans N2)
    subst ec;obtain⟨o,ho,hd⟩:=N4;exact⟨o,old _ _ ho,hd⟩
  ·refine cz (E.cell x c (iJ.get x c h)) λv o ho hd=>?_
   exact⟨v,o,old _ _ ho,hd⟩
  ·have ep:p=(q.heap.objs.size,jr [] 0):=by simpa [bT]using hp
   subst ep;exact⟨NS,NU,q9,Cy,λv z=>nomatch z⟩
 have Cz:tn 0 Q:=T.keep _ _ _ Cw λb B o e=>old b o e
 have loop:∀xx:ao,xx={ q with heap:=Q,toks:=q.toks+([]:List (Str × Value)).length }->
   qm (model X.prog X.w) X.A (.compLoop (.ListComp elt [⟨tg,iter,ifs,0⟩] f pos) 0 (.ref it) (.ref q.heap.objs.size) (Ao f U G2.objs.size X.env))
    (compPost (model X.prog X.w) X.A X.xe use Qv (.ref q.heap.objs.size) G2.objs.size) xx:=by
  rintro xx rfl
  obtain⟨N5,N6,N7⟩:=qZ G2.objs.size q H2 M
  refine codeAny_loop rfl (λk s'=>∃(i:Nat)(ys:List Value)(n:Nat)(vs:List V)(pe:St)(ρ':ae)(H':Hp)(acc rest:List D),i<=ds.length/\k=ds.length-i/\Inv (bT X f U N' G2.objs.size q H2 M) [(q.heap.objs.size,jr ys n)] pe H' s'/\tn i s'.heap/\(∀b∈M,H' b=none)/\av H2 H'∧
   Vals vs ys/\G H' vs acc/\cb X.K H' pe ρ'/\b6 gt fc fe ρ' (ds.drop i)=some rest/\outs=acc++rest/\ys.length<=i) (λk s' hI=>?_) ds.length
   ⟨0,[],0,[],lr cap σ,mf cap ρ,H2,[],outs,ef _,rfl,I3,Cz,λb B=>(f2 b B).1,av.refl _,.nil,g0 _ sH,NJ (R.mono sH) cap,NQ,rfl,a5 _⟩
  refine dd hI λi ys n q7=>dd q7 λvs pe ρ' q8=>ey q8 λH' acc rest xy N8 CA=>g9 CA λI' CB CC q_ tT CD=>kc CD λxA N9 g tU tV=>?_;clear hI q7 q8 CA CD;subst N8
  have hD':H' q.heap.objs.size=none:=(I'.pin _ (dR _ bg)).2.1
  have xB:∀{Hx:Hp}{px:List (Addr × Obj)},(∀p∈px,p.1=q.heap.objs.size)->(∀b∈M,Hx b=none)->∀b∈M,k8 (bT X f U N' G2.objs.size q H2 M) px Hx b:=λ{Hx px} N_ hn b B=>
   ⟨hn b B,(t b (tS b B)).1,λz=>xw.oM b B z,.inl B,λx c h=>(xw.wu b B).2 x c h,λp hp z=>by
    have Oa:p∈px:=by simpa [bT]using hp
    rw[N_ p Oa]at z
    exact(t b (tS b B)).2 z.symm⟩
  have one:∀p∈[(q.heap.objs.size,jr ys n)],p.1=q.heap.objs.size:=λp hp=>by rw[br.mp hp]
  show wpAny _ X.A ((compTurn (.ListComp elt [⟨tg,iter,ifs,0⟩] f pos) 0 (.ref it) (.ref q.heap.objs.size) (Ao f U G2.objs.size X.env)).onRaise (λx=>do noteFrame x (Ao f U G2.objs.size X.env);theTreesLotGoes x)) _ _ s'
  refine wpAny_noted ?_;rw[compTurn_list];refine wpAny_bind (H_ (wpAny_bind ?_))
  by_cases lu:i<ds.length
  ·have Ob:ds[i]?=some ds[i]:=c6 lu
   obtain⟨Oc,hy⟩:=(wk H' q_).1 i ds[i] Ob;rw[Ap lu]at g;simp only[b6]at g
   refine bS g λpf Od g=>?_
   refine bS g λb lx g=>?_
   refine aK (T.item (bT X f U N' G2.objs.size q H2 M) rfl rfl rfl hc i _ s' pe H' _ I' (xB one CC) CB Oc) λr s4 zZ=>?_
   obtain⟨u,hr,h4⟩:=zZ;subst hr;refine wpAny_bind (aK h4 λ_ s5 ⟨x,H5,I5,r5,y5,xC,wG⟩=>wpAny_bind ?_);obtain⟨CF,Oe⟩:=hy x H5 y5
   have wH:=I5.pinned (xB one wG) (T.obj _ _ xC)
   have Of:=N9.mono CF
   refine kU (N5 _ s5 pe H5 x u (λO H6=>av H5 H6/\cb X.K H6 O pf) wH r5 ⟨ρ',ds[i],pf,Of,Oe,Od,λO H6 a b=>⟨a,b⟩⟩) (λ_ s6 zZ=>?_) λ_ _ z=>dE z
   obtain⟨O,H6,I6,Og,CG⟩:=zZ;refine wpAny_bind (kU (N6 _ s6 O H6 pf b I6 CG lx) (λok s7 zZ=>?_) λ_ _ z=>dE z);obtain⟨aR,H7,CH,I7⟩:=zZ;subst aR
   have xD:=CG.mono CH
   have S7:av H' H7:=CF.trans (Og.trans CH)
   have Oh:∀{xE:St}{Hx:Hp}{sx:ao},Inv (bT X f U N' G2.objs.size q H2 M) ([(q.heap.objs.size,jr ys n)]++iG M s5.heap) xE Hx sx->sx.heap.get? q.heap.objs.size=some (jr ys n)/\Hx q.heap.objs.size=none:=
    λJ=>let z:=J.pin _ (dR _ (gK _ bg));⟨z.1,z.2.1⟩
   have CI:∀{xE:St}{Hx:Hp}{sx:ao},Inv (bT X f U N' G2.objs.size q H2 M) ([(q.heap.objs.size,jr ys n)]++iG M s5.heap) xE Hx sx->tn (i+1) sx.heap/\∀b∈M,Hx b=none:=λJ=>
    ⟨T.keep _ _ _ xC λb B o e=>(J.pin (b,o) (dR _ (dR _ (oS B e)))).1,λb B=>by
     obtain⟨o,e,d⟩:=T.obj _ _ xC b B
     exact(J.pin (b,o) (dR _ (dR _ (oS B e)))).2.1⟩
   cases ok with
   | false=>
    simp only[kY,if_false]at g ⊢;obtain⟨t7,f7⟩:=CI I7;exact wpAny_pure ⟨rfl,_,by omega,i+1,ys,n,vs,O,pf,H7,acc,rest,lu,rfl,I7.tm,t7,f7,q_.trans S7,tT,gm _ _ _ _ S7 xA,xD,g,tU,Aq tV⟩
   | true=>
    simp only[if_true]at g ⊢
    refine bS g λy Oi g=>?_
    simp only[bC]at g;obtain⟨Oj,g,CJ⟩:=g;refine wpAny_bind (wpAny_bind (kU (N7 _ s7 O H7 (λv H8=>av H7 H8/\G H8 (vs++[v]) (acc++[y])) I7 ⟨pf,y,vs,acc,xD,Oi,gm _ _ _ _ S7 xA,λv H8 a b=>⟨a,b⟩⟩) (λxv s8 zZ=>?_) λ_ _ z=>dE z));obtain⟨vy,H8,I8,ry,CK,Ol⟩:=zZ;obtain⟨pD,pN⟩:=Oh I8;obtain⟨t8,f8⟩:=CI I8
    have Om:ys.toArray.size<=aB:=by
     rw[cH];exact f9 (kX tV (oq lu hlen))
    refine wpAny_bind (append_at (hsz:=Om) pD λh9 CL Oo=>?_)
    have S8:av H' H8:=S7.trans CK
    have Oq:Inv (bT X f U N' G2.objs.size q H2 M) [] O H8 s8:=I8.sV λp hp=>absurd hp (by simp)
    have I9:Inv (bT X f U N' G2.objs.size q H2 M) [] O H8 { s8 with heap:=h9 }:=Oq.turned (t':=s8.toks) (λb o B e=>(CL.2 b B).trans e) pN q9 (.inr (a5 _)) (λx c h z=>by
     have:=xu x c (iJ.get x c h)
     rw[z]at this
     exact lU _ this) (λp hp=>absurd hp (by simp[bT]))
    have Ot:Inv (bT X f U N' G2.objs.size q H2 M) [(q.heap.objs.size,jr (ys++[xv]) (n+1))] O H8 { s8 with heap:=h9 }:=I9.sV λp hp=>by
     have ep:p=(q.heap.objs.size,jr (ys++[xv]) (n+1)):=by simpa [bT]using hp
     subst ep;refine⟨?_,pN,q9,Cy,λv z=>nomatch z⟩
     show h9.get? _=some (jr (ys++[xv]) (n+1))
     rw[Oo]
     show some ({ cls:=.type "list",data:=.seq (ys.toArray.push xv) (n+1) }:Obj)=some { cls:=.type "list",data:=.seq (ys++[xv]).toArray (n+1) }
     rw[List.push_toArray]
    refine wpAny_pure (wpAny_pure ⟨rfl,_,by omega,i+1,ys++[xv],n+1,vs++[vy],O,pf,H8,acc++[y],Oj,lu,rfl,Ot,?_,f8,q_.trans S8,tT.append (.cons ry .nil),Ol,xD.mono CK,g,?_,?_⟩)
    ·exact T.keep _ _ _ t8 λb B o e=>(CL.2 b (t b (tS b B)).2).trans e
    ·rw[tU,<-CJ,j8]
     rfl
    ·rw[bQ,IF]
     exact An tV
  ·have xF:i=ds.length:=IG xy (IH.mp lu)
   subst xF
   have Ou:=(wk H' q_).2
   rw[II]at g;simp only[b6]at g;cases g;rw[gv]at tU;subst tU
   refine aK (T.done (bT X f U N' G2.objs.size q H2 M) rfl rfl rfl hc _ _ s' pe H' _ I' (xB one CC) CB Ou) λr s9 zZ=>?_
   obtain⟨hr,I9⟩:=zZ;subst hr;refine wpAny_pure ?_;obtain⟨m9,tW,_⟩:=I9.loc;obtain⟨pD,pN,_⟩:=I9.pin (q.heap.objs.size,jr ys n) (dR _ bg)
   have J1:Inv X N σ H' s9:=E.JY I9.os I9.base I9.aR I9.bare λb B=>⟨(f2 b B).2.2.2.1,(f2 b B).2.1,(f2 b B).2.2.2.2.1,(f2 b B).2.2.2.2.2⟩
   have nC:∀p∈X.pn++N,p.1≠G2.objs.size:=λp hp=>(t _ (bh (E.pin p hp).1)).1
   have nD:∀p∈X.pn++N,p.1≠q.heap.objs.size:=λp hp=>(t _ (bh (E.pin p hp).1)).2
   have hl:vs.length<=aB:=by
    rw[tT.length];exact f9 (kX tV hlen)
   have J3:Inv X N σ (upd H' q.heap.objs.size (.lst vs)) s9:=Inv.Cq J1 pN E.sz (cn (t _ E.lt).2) (λx c h=>(t _ (xu x c h)).2) nD ⟨hl,ys,n,tT,pD⟩
   exact fin _ _ _ _ _ _ _ J3 (sH.trans q_) pN xA tW (by rw[bz (cn q9)];exact I9.free) (cn (t _ E.lt).1) (cj E.sz xq) (λx c h=>(t _ (xu x c h)).1) nC
 exact codeAny_compStart_list (loop _ rfl) (T.self X.A 0 _ _ _ Cz (loop _ rfl))
theorem CN{X:Cx}{d:Scope}(O:X.calm=true)(T:DI X L iter fi)(i:l3 d X.env=pure n)(j:∀y∈d.names,y.2≠ .cell)(m:d.kind=.function)(h:∀y∈d.names,y.2=.local->d.names.lookup y.1=some .local)(w:h_ X.env.cells n)(p:ia n (jb d X.env).names)(t:eB X d N' cap)(z:∀C f g u,DG (bT X d n N' C f g u) L U/\mh (bT X d n N' C f g u) A Y/\DE (bT X d n N' C f g u) B fe)(hs:∀x,oe iter X.env x=pure x:=by intro _;rfl):PE X (.ListComp B [⟨L,iter,A,0⟩] d pos) (mi X.K (ek cap fi U Y fe)):=by
 intro M s σ H Q I ⟨ρ,N,R,e,q⟩;rw[eval_ListComp]
 refine Ct (G:=aC X.K) (λ_ _=>.nil) (λ_ _ _ _ s r=>r.mono s) O T i j m h w p t (λC f g u=>by obtain⟨a,b,c⟩:=z C f g u;exact⟨a,b,Cr c⟩) hs I R e λC Dd H' vs s9 m9 fl J sm pN rr E hC hL hz hx hp=>?_
 refine⟨m9,E,λh10 v=>?_⟩;exact⟨.ref Dd,_,J.turned (t':=s9.toks) (λb o hb e=>(v.2 b hb).trans e) hC hL (.inr hz) hx hp,rfl,q vs H' _ sm pN rr⟩
theorem CO{G:Hp->Hp->List V->List D->Prop}(g0:∀H n,av H n->G H n [] [])(gm:∀H n H2 vs ds,av n H2->G H n vs ds->G H H2 vs ds){X:Cx}{i:Nat}{t:Pos}{d:Scope}(hN:X.N.Nodup)(U:X.N[i]?=some x)(Y:Loc X.env.scope x)(hc:X.calm=true)(hi:DI X u iter fi)(w:l3 d X.env=pure L)(z:∀y∈d.names,y.2≠ .cell)(A:d.kind=.function)(r:∀y∈d.names,y.2=.local->d.names.lookup y.1=some .local)(iJ:h_ X.env.cells L)(M:ia L (jb d X.env).names)(O:eB X d N' cap)(qZ:∀C f g Q,DG (bT X d L N' C f g Q) u gt/\mh (bT X d L N' C f g Q) h fc/\∀H,GE (bT X d L N' C f g Q) B fe (G H))(hs:∀x,oe iter X.env x=pure x)(xG:gu (.ListComp B [⟨u,iter,h,0⟩] d E) (some (.Name x j)) t.line X.env=pure true)(hf:X.fn x=true\/X.env.scope.names.lookup x=some .local):PS X (.Assign [.Name x j] (.ListComp B [⟨u,iter,h,0⟩] d E) t) (λDn σ H=>∃ρ m,cb X.K H σ ρ/\ek cap fi gt fc fe ρ=some m/\∀vs n p,av H n->n p=none->G H n vs m->Dn.nx (σ.set i (some (.ref p))) (upd n p (.lst vs))):=by
 intro pins s σ H Dn I ⟨ρ,m,R,e,q⟩;rw[exec_Assign_Name_used _ _ _ _ xG];refine wpAny_bind (H_ ?_);refine wpAny_bind ?_
 show wpAny _ _ (comprehension (.ListComp B [⟨u,iter,h,0⟩] d E) d X.env (firstIterPos [⟨u,iter,h,0⟩] E) (newList []) (firstAsync [⟨u,iter,h,0⟩]) (firstIter [⟨u,iter,h,0⟩] X.env) (some (jW (.Name x j) X.env))>>=_) _ _ s
 refine wpAny_bind (Ct (G:=G H) (g0 H) (gm H) hc hi w z A r iJ M O (λC f g Q=>by obtain⟨a,b,c⟩:=qZ C f g Q;exact⟨a,b,c H⟩) hs I R e λC Dd H' vs s9 m9 fl J sm pN rr tW hC hL hz hx hp=>?_)
 show wpAny _ _ (jW (.Name x j) X.env (.ref Dd)) _ _ s9
 refine wpAny_assign_Name (A_ J hN U Y (v:=.ref Dd) rfl (λOv Ow Ox=>?_) hf);obtain⟨a,sb,ha⟩:=Ox
 have Oy:C≠a:=(by grind)
 refine⟨m9,tW.at' λo ho=>(sb.2 C Oy).trans ho,λh11 T=>?_⟩;refine wpAny_pure (wpAny_pure ?_);exact⟨_,_,Ow.turned (t':=Ov.toks) (λb o hb e=>(T.2 b hb).trans e) hC hL (.inr hz) hx hp,q vs H' _ sm pN rr⟩
theorem CP{X:Cx}{i:Nat}{j:Pos}{d:Scope}(Y:X.N.Nodup)(J:X.N[i]?=some x)(L:Loc X.env.scope x)(hc:X.calm=true)(hi:DI X M iter fi)(m:l3 d X.env=pure u)(n:∀y∈d.names,y.2≠ .cell)(t:d.kind=.function)(h:∀y∈d.names,y.2=.local->d.names.lookup y.1=some .local)(O:h_ X.env.cells u)(v:ia u (jb d X.env).names)(w:eB X d N' cap)(Q:∀C f g z,DG (bT X d u N' C f g z) M gt/\mh (bT X d u N' C f g z) A fc/\DE (bT X d u N' C f g z) B fe)(hs:∀x,oe iter X.env x=pure x)(T:gu (.ListComp B [⟨M,iter,A,0⟩] d U) (some (.Name x E)) j.line X.env=pure true)(hf:X.fn x=true\/X.env.scope.names.lookup x=some .local):PS X (.Assign [.Name x E] (.ListComp B [⟨M,iter,A,0⟩] d U) j) (wF (mi X.K (ek cap fi gt fc fe)) (wD i)):=
 c7 (CO (G:=λ_=>aC X.K) (λ_ _ _=>.nil) (λ_ _ _ _ _ s r=>r.mono s) Y J L hc hi m n t h O v w (λC f g z=>by obtain⟨a,b,c⟩:=Q C f g z;exact⟨a,b,λ_=>Cr c⟩) hs T hf)<|by rintro Dn σ H ⟨ρ,I,R,e,q⟩;exact⟨ρ,I,R,e,λvs H1 p s hp r=>q vs H1 p s hp r⟩
theorem Oz{X:Cx}{a:Scope}(G:X.calm=true)(I:DI X A iter fi)(g:l3 a X.env=pure j)(h:∀y∈a.names,y.2≠ .cell)(i:a.kind=.function)(f:∀y∈a.names,y.2=.local->a.names.lookup y.1=some .local)(t:h_ X.env.cells j)(m:ia j (jb a X.env).names)(n:eB X a N' cap)(u:∀C b c v,DG (bT X a j N' C b c v) A J/\mh (bT X a j N' C b c v) w L/\DE (bT X a j N' C b c v) z M)(N:∀x,oe iter X.env x=pure x:=by intro _;rfl):DE X (.ListComp z [⟨A,iter,w,0⟩] a O) (bY cap fi J L M):=
 cD (CN G I g h i f t m n u N)<|by
  rintro σ H Q ⟨T,d,R,e,q⟩
  refine bS e λds U e=>?_
  split at e
  case isFalse=>cases e
  rename_i hlen;rw[bC]at e;obtain⟨s,B,rfl⟩:=e;refine⟨T,s,R,by simp_all[ek,bj,if_true],λvs H1 p Y E r=>?_⟩;exact q _ _ (Y.trans (cE E _)) (.lst (.inl bG) (r.mono (cE E _)))
section
variable {X:Cx}{e a b c:Expr}{es:List Expr}{pos p p2:Pos}{f fa fb fc:ae->Option D}{fs:ae->Option (List D)}
noncomputable def OA:D->String
 | .ay=>"NoneType"
 | .bl _=>"bool"
 | .int _=>"int"
 | .str _=>"str"
 | .tup _=>"tuple"
 | .lst _=>"list"
 | .aW _=>"list"
 | .aH _ _=>"dict"
 | .tab .. =>"dict"
inductive Ty where
 | int | bool | str | tuple | list
noncomputable def Ty.nm:Ty->String
 | .int=>"int"
 | .bool=>"bool"
 | .str=>"str"
 | .tuple=>"tuple"
 | .list=>"list"
noncomputable def ra:Ty->D->Bool
 | .int,.int _=>true
 | .int,.bl _=>true
 | .bool,.bl _=>true
 | .str,.str _=>true
 | .tuple,.tup _=>true
 | .list,.lst _=>true
 | .list,.aW _=>true
 | _,_=>false
theorem OB(K:aw)(T:Ty)(d:D):PySem.W.kitOne K (.type (OA d)) (.type T.nm)=some (ra T d):=by cases T<;>cases d<;>kernel_rfl
theorem OC(T:Ty):gP X (.builtin "isinstance") (λxs H Q=>∃x d,xs=[x,.ty T.nm]/\Rep X.K H x d/\Q (.bl (ra T d)) H):=by
 intro B s J H xs us Q I L h
 refine cM h λx d w r q=>?_;clear h;subst w
 refine cM (Ls L) λu N w m M=>?_;subst w
 cases M
 have e:=OB X.K T d
 have g:∀tk,EP X B J Q (.bool (ra T d)) { s with toks:=tk }:=λtk=>⟨.bl _,H,I.tok tk,rfl,q⟩
 cases r with
 | ay=>cases(show u=dc from m);exact mT PySem.W.kitx_none I.hD jZ e (λz=>nomatch z) g
 | bl y=>cases(show u=jU y from m);exact mT PySem.W.kitx_bool I.hD jZ e (λz=>nomatch z) g
 | int i=>obtain⟨t,q⟩:=(show ∃t,u=vJ i t from m);cases q;exact mT PySem.W.kitx_int I.hD jZ e (λz=>nomatch z) g
 | str y O=>obtain⟨t,q⟩:=(show ∃t,u=i9 y t from m);cases q;exact mT PySem.W.kitx_str I.hD jZ e (λz=>nomatch z) g
 | @tup a xs ds h G=>
  cases(show u=eY a from m)
  refine b5 (Inv.df I h) λC _ j=>aP j λo n v _=>?_;clear j
  exact mT PySem.W.kitx_tuple I.hD ⟨o,n,v⟩ e (λz=>nomatch z) g
 | @lst a xs ds h G=>
  cases(show u=eY a from m)
  refine b5 (Inv.c3 I h) λC _ j=>aP j λo n v _=>?_;clear j
  exact mT YX I.hD ⟨o,n,v⟩ e (λz=>nomatch z) g
 | @aH a A ks vs ds h G U hn=>
  cases(show u=eY a from m)
  refine bK (m7 I.aR (.inr ⟨_,h⟩)) λ_ _ j=>b5 j λ_ _ E=>ey E λA _ _ n v _=>?_;clear j E
  exact mT YY I.hD ⟨A,n,v.1⟩ e (λz=>nomatch z) g
 | @tab a ks vs ds h G=>
  cases(show u=eY a from m);obtain⟨⟨_,_,_,_,_,_,A,_,_,n,v,_⟩,_⟩:=I.aR a _ h;exact mT YY I.hD ⟨A,n,v.1⟩ e (λz=>nomatch z) g
 | @aW a ns h=>
  cases(show u=eY a from m)
  refine aP (I.list h) λC _ o _=>?_
  refine aP o.isList λA n v _=>?_
  exact mT YX I.hD ⟨A,n,v⟩ e (λz=>nomatch z) g
def ly(T:Ty)(f:ae->Option D):ae->Option D:=λg=>(f g).bind λd=>some (.bl (ra T d))
theorem OD:et "isinstance"=some (.builtin "isinstance"):=by decide+kernel
theorem CQ:et "int"=some (.type "int"):=by decide+kernel
theorem OE:et "bool"=some (.type "bool"):=by decide+kernel
theorem OF:et "str"=some (.type "str"):=by decide+kernel
theorem xH:et "tuple"=some (.type "tuple"):=by decide+kernel
theorem OG:et "list"=some (.type "list"):=by decide+kernel
theorem boot_all:et "all"=some (.builtin "all"):=by decide+kernel
theorem boot_sorted:et "sorted"=some (.builtin "sorted"):=by decide+kernel
theorem boot_enumerate:et "enumerate"=some (.type "enumerate"):=by decide+kernel
theorem OH(T:Ty)(s:Gl X "isinstance")(t:X.mg "isinstance"=none)(g:Gl X x)(h:X.mg x=none)(u:et x=some (.type T.nm))(w:DE X a fa)(hn:x≠"__name__":=by decide)(i:(x==("__debug__":Str))=false:=by decide)(n:bq [a,.Name x p2] X.env=(false,eval a X.env)::bq [.Name x p2] X.env:=by rfl)(j:(g7 pos (bq [.Name x p2] X.env)).any (·.1)=false:=by rfl)(m:bq [.Name x p2] X.env=(false,eval (.Name x p2) X.env)::bq [] X.env:=by rfl):DE X (.Call (.Name "isinstance" p) [a,.Name x p2] [] pos) (ly T fa):=
 cD (BF (OC T) s t OD (hE w (hE (J6 (v:=.ty T.nm) g h u rfl hn i) iH m) n) (by decide) (by decide) n j)<|by
  rintro E H Q ⟨y,d,R,e,q⟩
  refine bS e λr z e=>?_
  cases e;exact⟨y,r,R,z,λv A B C=>⟨v,r,rfl,C,q _ A B (.bl _)⟩⟩
noncomputable def kx(f:ae->Option D):ae->Option D:=λg=>(f g).bind λd=>match d with
 | .int i=>some (.int (-i))
 | _=>none
theorem OI(h:DE X a fa):DE X (.UnaryOp .USub a pos) (kx fa):=cD (K6 Lc h)<|by
 rintro t H Q ⟨j,d,R,e,q⟩
 refine bS e λg m e=>?_
 refine⟨j,g,R,m,λv n r s=>?_⟩
 cases g with
 | int i=>cases e;cases s;exact⟨i,rfl,q _ n r (.int _)⟩
 | _=>cases e
noncomputable def CS:D->Option Bool
 | .bl b=>some b
 | _=>none
def mj:List D->Option (List Bool)
 | []=>some []
 | d::ds=>(CS d).bind λb=>(mj ds).map (b:: ·)
theorem xI:∀{ds:List D}{bs:List Bool},mj ds=some bs->ds=bs.map D.bl
 | [],bs,h=>by cases h;rfl
 | d::ds,bs,h=>by
  refine bS h λb g h=>?_
  rw[bC]at h;obtain⟨i,j,rfl⟩:=h
  cases d<;>cases g
  rw[a_,xI j]
theorem xJ{K:aw}{H:Hp}:∀{bs:List Bool}{vs:List V}{us:List Value},aC K H vs (bs.map D.bl)->Vals vs us->us=bs.map jU
 | [],_,_,h,g=>by cases h;cases g;rfl
 | b::bs,_,_,h,g=>by
  cases h with
  | cons h t=>cases h;cases g with
   | cons r d=>cases r;rw[a_,xJ t d]
def nk:List D->Option D
 | [.lst xs]=>(mj xs).map λbs=>.bl (bs.all id)
 | [.tup xs]=>(mj xs).map λbs=>.bl (bs.all id)
 | _=>none
theorem CT(bs:List Bool):(dY bs.length).all (λi=>bs.getD i false)=bs.all id:=by
 induction bs with
 | nil=>rfl
 | cons b r d=>rw[bR,Cm,e_,<-d];rfl
theorem OJ(O:X.calm=true):lq X (.builtin "all") nk:=by
 intro L s σ H xs us Q I T h
 refine cM h λds d r e q=>?_;clear h
 cases r with
 | nil=>cases e
 | cons r t=>
  cases t with
  | cons _ _=>cases r<;>cases e
  | nil=>
   obtain⟨u,rfl,M⟩:=gQ T
   have N:X.A.in1.handled=none:=I.ok.hd O
   cases r with
   | @lst a vs ds h m=>
    cases M
    have n:(mj ds).map (λbs=>D.bl (bs.all id))=some d:=e
    rw[bC]at n;obtain⟨bs,x,rfl⟩:=n;rw[xI x]at m;obtain⟨y,B,p⟩:=Inv.c3 I h
    have C:=xJ m B
    subst C;obtain⟨U,j,_⟩:=id p;refine call_all_walk (Ic p ?_);refine⟨s.heap.objs.size,_,_,_,_,_,λi=>bs.getD i false,rfl,YZ N s.heap.objs.size a (bO (bh j)) (bs.map jU).toArray,⟨⟨_,cL _ rfl,rfl,rfl⟩,p.at λo e=>bx _ e⟩,?_,?_⟩
    ·intro i v Y Q' E' E G
     have g:(bs.map jU)[i]?=some v:=by simpa using E
     rw[bJ]at g
     cases z:bs[i]? with
     | none=>rw[z]at g;cases g
     | some b=>
      rw[z]at g;cases g;refine wpAny_truthy_bool ?_
      have:bs.getD i false=b:=by rw[j9,z];rfl
      rw[<-this];exact G
    ·intro h' tk J
     refine⟨.bl _,H,I.kept (t':=tk) λb o w=>J b o (by simpa using bO (bh w)) (bx _ w),rfl,?_⟩
     have hz:(bs.map jU).toArray.size=bs.length:=by simp
     rw[hz,CT];exact q _ H (av.refl H) (.bl _)
   | @tup a vs ds h m=>
    cases M
    have n:(mj ds).map (λbs=>D.bl (bs.all id))=some d:=e
    rw[bC]at n;obtain⟨bs,x,rfl⟩:=n;rw[xI x]at m;obtain⟨y,B,p⟩:=Inv.df I h
    have C:=xJ m B
    subst C;obtain⟨U,j,_⟩:=id p;refine call_all_walk (Ie p ?_);refine⟨s.heap.objs.size,_,_,_,_,_,λi=>bs.getD i false,rfl,Y0 N s.heap.objs.size a (bO (bh j)) (bs.map jU).toArray,⟨⟨_,cL _ rfl,rfl,rfl⟩,p.at λo e=>bx _ e⟩,?_,?_⟩
    ·intro i v Y Q' E' E G
     have g:(bs.map jU)[i]?=some v:=by simpa using E
     rw[bJ]at g
     cases z:bs[i]? with
     | none=>rw[z]at g;cases g
     | some b=>
      rw[z]at g;cases g;refine wpAny_truthy_bool ?_
      have:bs.getD i false=b:=by rw[j9,z];rfl
      rw[<-this];exact G
    ·intro h' tk J
     refine⟨.bl _,H,I.kept (t':=tk) λb o w=>J b o (by simpa using bO (bh w)) (bx _ w),rfl,?_⟩
     have hz:(bs.map jU).toArray.size=bs.length:=by simp
     rw[hz,CT];exact q _ H (av.refl H) (.bl _)
   | _=>cases e
noncomputable def strOf:D->Option Str
 | .str x=>some x
 | _=>none
def ib:List D->Option (List Str)
 | []=>some []
 | d::ds=>(strOf d).bind λb=>(ib ds).map (b:: ·)
theorem lz:∀{ds:List D}{bs:List Str},ib ds=some bs->ds=bs.map D.str
 | [],bs,h=>by cases h;rfl
 | d::ds,bs,h=>by
  refine bS h λb g h=>?_
  rw[bC]at h;obtain⟨i,j,rfl⟩:=h
  cases d<;>cases g
  rw[a_,lz j]
theorem rb{K:aw}{H:Hp}:∀{bs:List Str}{vs:List V}{us:List Value},aC K H vs (bs.map D.str)->Vals vs us->v9 us bs
 | [],_,_,h,g=>by cases h;cases g;exact .nil
 | b::bs,_,_,h,g=>by
  cases h with
  | cons h t=>cases h;cases g with
   | cons r d=>
    obtain⟨t',rfl⟩:=r;exact .cons _ _ (rb t d)
theorem tX{K:aw}{H:Hp}:∀{bs:List Str}{vs:List V},aC K H vs (bs.map D.str)->∀x∈bs,x.length<=aB
 | [],_,_,x,hx=>by cases hx
 | b::bs,_,g,x,hx=>by
  cases g with
  | cons g t=>
   cases g with
   | str _ h=>
    rcases a9.mp hx with rfl | hx
    ·exact h
    ·exact tX t x hx
theorem rf{K:aw}{H:Hp}:∀{bs:List Str}{us:List Value},v9 us bs->(∀x∈bs,x.length<=aB)->Vals (bs.map V.str) us/\aC K H (bs.map V.str) (bs.map D.str)
 | [],_,.nil,_=>⟨.nil,.nil⟩
 | b::bs,_,.cons _ t r,h=>by
  obtain⟨d,g⟩:=rf (K:=K) (H:=H) r λx i=>h x (bV _ i)
  exact⟨.cons ⟨t,rfl⟩ d,.cons (.str b (h b bg)) g⟩
def pg(x:Str):List Str->List Str
 | []=>[x]
 | y::r=>if bc y x then y::pg x r else x::y::r
def dV:List Str->List Str
 | []=>[]
 | x::r=>pg x (dV r)
theorem xK(x:Str):∀l:List Str,(pg x l).Perm (x::l)
 | []=>.refl _
 | y::r=>by
  unfold pg
  split
  ·exact((xK x r).cons y).trans (.swap x y r)
  ·exact .refl _
theorem jJ:∀l:List Str,(dV l).Perm l
 | []=>.refl _
 | x::r=>(xK x (dV r)).trans ((jJ r).cons x)
theorem ml(d:bc x y=true)(g:bc y z=true):bc x z=true:=by
 unfold bc at*
 grind
theorem tY{x y:Str}(h:x.cps.toList=y.cps.toList):x=y:=by
 cases x;simp_all
theorem ph(x y:Str):bc x y=true\/x=y\/bc y x=true:=by
 unfold bc;simp only[decide_eq_true_eq]
 grind[tY,List.le_antisymm]
theorem CU(x:Str):bc x x=false:=by
 simp[bc,decide_eq_false_iff_not,List.lt_irrefl]
theorem xM(h:bc x y=true):bc y x=false:=by
 grind[bc,CU,ml]
abbrev mm(l:List Str):Prop:=l.Pairwise λa b=>bc b a=false
theorem CV(x:Str):∀l:List Str,mm l->mm (pg x l)
 | [],_=>Ar _ _
 | y::r,h=>by
  have h':=gw.mp h
  unfold pg
  split
  ·rename_i d
   refine gw.mpr ⟨λz hz=>?_,CV x r h'.2⟩;rcases a9.mp ((xK x r).mem_iff.mp hz)with rfl | hz
   ·exact xM d
   simp_all
  ·rename_i d
   have g:bc y x=false:=jE.mpr d
   refine gw.mpr ⟨λz hz=>?_,h⟩;rcases a9.mp hz with rfl | hz
   ·exact g
   grind[bc,ph,ml]
theorem tZ:∀l:List Str,mm (dV l)
 | []=>.nil
 | x::r=>CV x _ (tZ r)
theorem xN:∀{l m:List Str},mm l->mm m->l.Perm m->l=m
 | [],m,_,_,p=>(List.Perm.nil_eq p)
 | x::r,[],_,_,p=>by simp_all
 | x::r,y::t,d,g,p=>by
  have e:x=y:=by
   have hx:=a9.mp (p.mem_iff.mp bg)
   have hy:=a9.mp (p.mem_iff.mpr bg)
   rcases hx with rfl | hx
   ·rfl
   ·rcases hy with rfl | hy
    ·rfl
    ·have h:=(gw.mp g).1 x hx
     have i:=(gw.mp d).1 y hy
     grind[ph]
  subst e;rw[xN (gw.mp d).2 (gw.mp g).2 (p.cons_inv)]
theorem CY:∀(r:List Str)(x:Str),risingS x r=true->mm (x::r)
 | [],x,_=>Ar _ _
 | y::r,x,h=>by
  unfold risingS at h;rw[bB]at h
  have i:=CY r y h.2
  have d:bc y x=false:=by
   have:=h.1
   rw[ltCps_eq]at this;unfold bc
   simpa using this
  refine gw.mpr ⟨λz hz=>?_,i⟩;rcases a9.mp hz with rfl | hz
  ·exact d
  ·have g:=(gw.mp i).1 z hz
   cases q:bc z x with
   | false=>rfl
   | true=>
    rcases ph y z with t | t | t
    ·rw[ml t q]at d;cases d
    ·rw[t,q]at d;cases d
    ·rw[t]at g;cases g
theorem CZ(h:sortedS l=true):mm l:=by
 cases l with
 | nil=>exact .nil
 | cons x r=>exact CY r x h
def t2:List D->Option D
 | [.lst xs]=>if xs.length<64 then(ib xs).map λbs=>.lst ((dV bs).map .str)else none
 | _=>none
theorem OL:lq X (.builtin "sorted") t2:=by
 intro v s M H xs us Q I A h
 refine cM h λds d r e q=>?_;clear h
 cases r with
 | nil=>cases e
 | cons r t=>
  cases t with
  | cons _ _=>cases r<;>cases e
  | nil=>
   obtain⟨u,rfl,B⟩:=gQ A
   cases r with
   | @lst a vs ds h j=>
    cases B
    have i:(if ds.length<64 then(ib ds).map (λbs=>D.lst ((dV bs).map .str))else none)=some d:=e
    split at i
    case isFalse=>cases i
    rename_i g;rw[bC]at i;obtain⟨bs,w,rfl⟩:=i
    have C:=j.length
    rw[lz w]at j;obtain⟨m,y,p⟩:=Inv.c3 I h
    refine sorted_strs p (rb j y) (by rw[<-y.length,C];exact g) λout n z E G=>?_
    obtain⟨J,N⟩:=IJ s.heap m out
    have eq:n=dV bs:=xN (CZ G) (tZ bs) (E.trans (jJ bs).symm)
    subst eq
    have hlen:∀x∈dV bs,x.length<=aB:=(by grind[tX,jJ])
    obtain⟨L,_⟩:=rf (K:=X.K) (H:=H) z hlen
    have hn:H (s.heap.objs.size+1)=none:=I.aR.fresh (iS _)
    have hz:((dV bs).map V.str).length<=aB:=by
     rw[aJ,(jJ bs).length_eq]
     have:bs.length=ds.length:=by rw[lz w,aJ]
     rw[this];exact f9 (oq g (by decide))
    refine⟨.ref (s.heap.objs.size+1),_,I.laid (t':=s.toks) (o:=.lst ((dV bs).map V.str)) (λb O q=>IK q) (iS _) ?_,rfl,?_⟩
    ·exact⟨hz,out.toList,J,L,by omega⟩
    ·exact q _ _ (cE hn _) (.lst (.inl bG) (rf z hlen).2)
   | _=>cases e
def xO:D->D->Option D
 | .str x,.lst xs=>(ib xs).bind λbs=>if(bs.map (·.length)).sum+bs.length*x.length<=1000000 then some (.str (sJ x bs))else none
 | _,_=>none
theorem OM:tr X "str.join" (λx xs H Q=>∃y j m d,xs=[y]/\Rep X.K H x j/\Rep X.K H y m/\xO j m=some d/\∀v H',av H H'->Rep X.K H' v d->Q v H'):=by
 intro r s M H x xs v us Q I A B h
 refine dd h λy j m g=>eh g λd n C w i=>bX i λe q=>?_;clear h g i;subst n
 obtain⟨u,rfl,E⟩:=gQ B
 cases C with
 | str x N=>
  obtain⟨t,rfl⟩:=A
  cases w with
  | @lst a vs ds h z=>
   cases E
   refine bS (show(ib ds).bind (λbs=>if(bs.map (·.length)).sum+bs.length*x.length<=1000000 then some (D.str (sJ x bs))else none)=some d from e) λbs G e=>?_
   split at e
   case isFalse=>cases e
   rename_i hz;cases e;rw[lz G]at z;obtain⟨J,L,p⟩:=Inv.c3 I h
   refine join_list p (rb z L) (cj hz (by decide)) λt' k=>?_
   rw[show Txt.join x bs=sJ x bs from StrLaws.glued_eq_join x bs];exact⟨.str _,H,I.tok k,⟨t',rfl⟩,q _ H (av.refl H) (.str _ (cj (StrLaws.join_length_le x bs) (cj hz (by decide))))⟩
  | _=>cases e
 | _=>first | cases e | (cases w<;>cases e)
noncomputable def t4(T:String)(d:D):Bool:=match d with
 | .str _=>T=="str"
 | .lst _=>T=="list"
 | .aW _=>T=="list"
 | _=>false
theorem C0{K:aw}{H:Hp}{v:V}{d:D}{T:String}(r:Rep K H v d)(h:t4 T d=true):tw K T v H:=by
 cases r with
 | str x g=>exact eq_of_beq h
 | lst h' i=>exact .inl ⟨eq_of_beq h,_,.inl h'⟩
 | aW h'=>exact .inl ⟨eq_of_beq h,_,h'⟩
 | _=>cases h
def t5(fa fb:ae->Option D):ae->Option D:=λd=>(fa d).bind λx=>if t4 "str" x=true then(fb d).bind λy=>xO x y else none
theorem ON{h g:Pos}(B:DE X a fa)(C:DE X b fb)(i:Ae a "join" X.env (eval a X.env)=eval a X.env:=by rfl)
  (m:((g7 g (bq [b] X.env)).all (λx=>!x.1)&&(backToKw g (keywordEach [] X.env)).all (λx=>x.1.isSome)
   &&decide (([b]:List Expr).length+([]:List vP).length+(if([]:List vP).isEmpty then 0 else 1)<30))=true:=by rfl)
  (j:(h.endLine==g.line)=true:=by rfl) (n:bq [b] X.env=(false,eval b X.env)::bq [] X.env:=by rfl):
  DE X (.Call (.Attribute a "join" h) [b] [] g) (t5 fa fb):=
 cD (md PySem.F.plainAttrs_str PySem.F.slot_str_join PySem.F.type_str_join OM B (hE C iH n) i m j n rfl)<|by
  rintro N H Q ⟨r,d,R,e,q⟩
  refine bS e λs E e=>?_
  split at e
  case isFalse=>cases e
  rename_i G
  refine bS e λt I e=>?_
  exact⟨r,s,R,E,λv O w y=>⟨C0 y G,r,t,R.mono w,I,λu H2 A J=>⟨u,s,t,d,rfl,y.mono A,J,e,λz H' L M=>q z H' (w.trans (A.trans L)) M⟩⟩⟩
end
end DL
namespace HT
open PySem PySem.Spec PyProof.Rows L2
section
variable {prog:a6}{w:World}{A:a8}{E:Value->ao->Prop}{s:ao}
theorem OO{t e:Addr}{a:Array Value}{j n:Value}{lo d:Option Int}{Q:Value->ao->Prop}(b:IsTup s.heap t a)(p:s.heap.IsSliceOf e j n .none)(q:lX j lo)(r:lX n d)
  (hw:aV a.size 0 lo=0/\aV a.size a.size d=a.size) (h:Q (.ref t) s):wpAny (model prog w) A (jY (.ref t) (.ref e)) Q E s:=by
 refine aP (id p) λos f g u=>?_
 have i:s.TypeIs (.ref e) "slice":=⟨os,f,g⟩
 unfold jY
 try with_reducible refine wpAny_holding ?_
 first | refine wpAny_bind (wpAny_pure ?_) | skip
 refine wpAny_bind (Ys b.typeIs (by decide) ?_)
 refine wpAny_bind (oi (name:=mR "__getitem__") b.typeIs su
  (jD su b.typeIs Yt ?_ (Yu _ _)))
 show wpAny _ _ (Iq (.ref t)>>=_) _ _ s
 refine wpAny_bind (tupleItemsOf_ b ?_);refine wpAny_bind (qq i ?_);rw[if_pos (by decide)];refine wpAny_bind (BI p q r ?_)
 have c:(((aV a.size 0 lo:Nat):Int)==0&&(1:Int)==1&&(aV a.size a.size d-aV a.size 0 lo)==a.size)=true:=by
  rw[hw.1,hw.2]
  simp
 show wpAny _ _ (if(((aV a.size 0 lo:Nat):Int)==0&&(1:Int)==1&&(aV a.size a.size d-aV a.size 0 lo)==a.size)=true then _ else _) _ _ s
 rw[if_pos c];refine wpAny_bind (m:=Y1 _) ?_;unfold Y1;refine wpAny_bind (qq b.typeIs (wpAny_pure ?_));rw[if_pos (by decide)];refine wpAny_bind (wpAny_rule ?_);exact wpAny_pure ⟨_,rfl,wpAny_pure h⟩
end
end HT
namespace DL
open PySem PySem.Spec PyProof.Rows L2
section
variable {X:Cx}{e a b c:Expr}{es:List Expr}{pos p p2:Pos}{f fa fb fc:ae->Option D}{fs:ae->Option (List D)}
def bH{d:Type}(xs:List d)(lo g:Option Int):List d:=(xs.drop (HT.aV xs.length 0 lo)).take (HT.aV xs.length xs.length g-HT.aV xs.length 0 lo)
theorem OP{d i:Type}(g:d->i)(xs:List d)(lo h:Option Int):(bH xs lo h).map g=bH (xs.map g) lo h:=by
 unfold bH;rw[IL,Y2,aJ]
theorem xP{d:Type}(xs:List d)(lo g:Option Int):(bH xs lo g).length<=xs.length:=by
 unfold bH;rw[lW,Ac]
 lia
theorem xQ{K:aw}{H:Hp}{vs:List V}{ds:List D}(r:aC K H vs ds)(lo d:Option Int):aC K H (k_ vs lo d) (bH ds lo d):=by
 unfold k_ bH;rw[r.length];exact(r.drop _).take _
def nq:D->Option Int->Option Int->Option D
 | .lst xs,lo,d=>some (.lst (bH xs lo d))
 | .aW ns,lo,d=>some (.lst ((bH ns lo d).map .int))
 | .tup xs,lo,d=>if HT.aV xs.length 0 lo=0/\HT.aV xs.length xs.length d=xs.length then none else some (.tup (bH xs lo d))
 | .str x,lo,d=>some (.str ⟨(bH x.cps.toList lo d).toArray⟩)
 | _,_,_=>none
theorem OQ(lo g:Option Int)(n:Nat):Y3 lo g 1 n=sliceRange ((HT.aV n 0 lo:Nat):Int) ((HT.aV n n g:Nat):Int) 1:=by
 unfold Y3
 have h:∀o d:Option Int,True:=λ_ _=>trivial
 cases lo<;>cases g<;>simp only[HT.aV,show(1:Int)>0 by decide,if_true,<-HT.wU]<;>congr 1<;>(try split)<;>(try split)<;>omega
theorem OR(x:Str)(lo d:Option Int):IM x lo d=⟨(bH x.cps.toList lo d).toArray⟩:=by
 have g:x.length=x.cps.toList.length:=by show x.cps.size=_;simp
 unfold IM;rw[OQ,sliceRange_one,pick_run]
 split
 ·rename_i h
  simp only[bB,beq_iff_eq,aJ,sL]at h
  apply tY
  have j:=HT.wR x.length 0 (ef _) lo
  have m:=HT.wR x.length x.length (a5 _) d
  have i:=h.2
  unfold bH;rw[<-g,i,show HT.aV x.length 0 lo=0 by lia,Y4,g,k0]
 ·unfold bH
  rw[<-g]
theorem OS:k9 X (λx lo n H Q=>∃z,x=.str z/\z.length<=aB/\Q (.str ⟨(bH z.cps.toList lo n).toArray⟩) H):=by
 intro g s B H x v G J lo n L Q I C m E y h
 refine aP h λz r hz q=>?_;clear h;subst r
 obtain⟨t,rfl⟩:=C;rw[<-OR]at q;refine⟨"str",_,PySem.F.slot_str_getitem.lookup,Iv _ _ _,?_⟩
 have d:∀t' k,EP X g B Q (.str (IM z lo n) t') { s with toks:=k }:=λt' k=>⟨.str _,H,I.tok k,⟨t',rfl⟩,q⟩
 cases E with
 | none=>
  cases y with
  | none=>exact As (l:=none) (u:=none) (st:=none) m rfl (Au ⟨cj (Av z _ _) hz,d⟩)
  | int j w=>exact As (l:=none) (u:=some (j,w)) (st:=none) m rfl (Au ⟨cj (Av z _ _) hz,d⟩)
 | int i A=>
  cases y with
  | none=>exact As (l:=some (i,A)) (u:=none) (st:=none) m rfl (Au ⟨cj (Av z _ _) hz,d⟩)
  | int j w=>exact As (l:=some (i,A)) (u:=some (j,w)) (st:=none) m rfl (Au ⟨cj (Av z _ _) hz,d⟩)
noncomputable def OT(K:aw)(f:ae->Option (Option Int)):TO:=λg H Q=>∃d o,cb K H g d/\f d=some o/\∀H',av H H'->Q o H'
abbrev DO(X:Cx)(e:Option Expr)(f:ae->Option (Option Int)):Prop:=PO X e (OT X.K f)
theorem C1{e:Option Expr}{t t':TO}(h:PO X e t)(i:∀d H Q,t' d H Q->t d H Q):PO X e t':=λg s d H Q I hw=>h g s d H Q I (i d H Q hw)
noncomputable def d8:ae->Option (Option Int):=λ_=>some none
noncomputable def c8(f:ae->Option D):ae->Option (Option Int):=λg=>(f g).bind λd=>match d with
 | .int i=>some (some i)
 | _=>none
theorem OU:DO X none d8:=C1 LN<|by rintro d H Q ⟨g,o,R,e,q⟩;cases e;exact q H (av.refl H)
theorem OV(h:DE X e f):DO X (some e) (c8 f):=C1 (LO h)<|by
 rintro s H Q ⟨g,o,R,e,q⟩
 refine bS e λd j e=>?_
 refine⟨g,d,R,j,λv m n r=>?_⟩
 cases d with
 | int i=>cases e;cases r;exact⟨i,rfl,q m n⟩
 | _=>cases e
def eO(fa:ae->Option D)(fl g:ae->Option (Option Int)):ae->Option D:=λd=>(fa d).bind λx=>(fl d).bind λl=>(g d).bind λh=>nq x l h
theorem OW:k9 X (λx lo i H Q=>∃a xs,x=.ref a/\cx X.K H a xs/\(HT.aV xs.length 0 lo=0/\HT.aV xs.length xs.length i=xs.length)/\Q (.ref a) H):=by
 intro j s z H x v A B lo i C Q I n t u w h
 refine dq h λa xs d y hw q=>?_;clear h;subst d
 cases n
 refine aP (I.tuple y) λg r m hz=>?_
 have hlen:g.toArray.size=xs.length:=by rw[cH];exact r.length.symm
 refine⟨"tuple",_,su.lookup,m.typeIs,?_⟩;exact HT.OO m t u w (by rw[hlen];exact hw) ⟨.ref a,H,I,rfl,q⟩
def mn:D->Option Int->Option Int->Option D
 | .tup xs,lo,g=>if HT.aV xs.length 0 lo=0/\HT.aV xs.length xs.length g=xs.length then some (.tup xs)else some (.tup (bH xs lo g))
 | d,lo,g=>nq d lo g
def iX(fa:ae->Option D)(fl g:ae->Option (Option Int)):ae->Option D:=λd=>(fa d).bind λx=>(fl d).bind λl=>(g d).bind λh=>mn x l h
theorem C5{lo w:Option Expr}{fl y:ae->Option (Option Int)}(E:DE X a fa)(G:DO X lo fl)(I:DO X w y):DE X (.Subscript a (.Slice lo w none p2) pos) (iX fa fl y):=
 cD (LQ (L8.or (LS.or (OS.or OW))) E G I)<|by
  rintro Y H Q ⟨m,d,R,e,q⟩
  refine bS e λJ L e=>?_
  refine bS e λl M e=>?_
  refine bS e λh N e=>?_
  refine⟨m,J,R,L,λv H1 n O=>⟨m,l,R.mono n,M,λH2 t=>⟨m,h,R.mono (n.trans t),N,λA B=>?_⟩⟩⟩
  have S:=n.trans (t.trans B)
  have T:=O.mono (t.trans B)
  have j:∀v H',av A H'->Rep X.K H' v d->Q v H':=λv H' s r=>q v H' (S.trans s) r
  cases T with
  | @lst a vs ds h' i=>cases e;exact .inl ⟨a,vs,rfl,.inl h',λp g=>j _ _ (cE g _) (.lst (.inl bG) ((xQ i l h).mono (cE g _)))⟩
  | @aW a ns h'=>
   cases e;refine .inl ⟨a,_,rfl,h',λp g=>j _ _ (cE g _) (.lst (.inl bG) ?_)⟩
   have z:=(xQ (oZ (K:=X.K) (H:=upd A p (.lst (k_ (ns.map V.int) l h))) ns) l h)
   rw[<-OP]at z;exact z
  | @tup a vs ds h' i=>
   have u:(if HT.aV ds.length 0 l=0/\HT.aV ds.length ds.length h=ds.length then some (D.tup ds)else some (D.tup (bH ds l h)))=some d:=e
   split at u
   ·rename_i hw
    cases u;exact .inr (.inr (.inr ⟨a,vs,rfl,h',by rw[i.length];exact hw,j _ _ (av.refl _) (.tup h' i)⟩))
   ·rename_i hw
    cases u;exact .inr (.inl ⟨a,vs,rfl,h',by rw[i.length];exact hw,λp g=>j _ _ (cE g _) (.tup (.of bG) ((xQ i l h).mono (cE g _)))⟩)
  | str x C=>
   cases e;refine .inr (.inr (.inl ⟨x,rfl,C,j _ _ (av.refl _) (.str _ ?_)⟩))
   show(bH x.cps.toList l h).toArray.size<=aB
   rw[cH];exact cj (xP _ _ _) (by have U:x.cps.size<=aB:=C;simpa using U)
  | _=>cases e
theorem OY{lo g:Option Expr}{fl i:ae->Option (Option Int)}(j:DE X a fa)(m:DO X lo fl)(n:DO X g i):DE X (.Subscript a (.Slice lo g none p2) pos) (eO fa fl i):=
 cD (C5 j m n)<|by
  rintro w H Q ⟨r,d,R,e,q⟩
  refine bS e λs t e=>?_
  refine bS e λl u e=>?_
  refine bS e λh v e=>?_
  refine⟨r,d,R,?_,q⟩;simp only[iX,t,u,v,bj]
  cases s<;>first | exact e | (simp only[nq,mn]at e ⊢;split at e<;>simp_all)
noncomputable def sgn(c:Nat):Str:=⟨#[c]⟩
def ic:List D->Option D
 | [.str x]=>some (.tup (x.cps.toList.map λc=>.str (sgn c)))
 | l=>tR l
theorem C6{x:Str}:∀(cs:List Nat)(us:List Value),us.length=cs.length->(∀(i c:Nat)(v:Value),cs[i]?=some c->us[i]?=some v->∃u,v=i9 (sgn c) u)->Vals (cs.map λc=>V.str (sgn c)) us
 | [],[],_,_=>.nil
 | c::cs,[],h,_=>by cases h
 | [],u::us,h,_=>by cases h
 | c::cs,u::us,h,g=>.cons (g 0 c u rfl rfl) (C6 (x:=x) cs us (by simpa using h) λi c v d j=>g (i+1) c v (by simpa using d) (by simpa using j))
theorem C7{K:aw}{H:Hp}:∀(cs:List Nat),aC K H (cs.map λc=>V.str (sgn c)) (cs.map λc=>D.str (sgn c))
 | []=>.nil
 | c::cs=>.cons (.str _ (show 1<=aB by decide)) (C7 cs)
theorem OZ(z:X.calm=true):gP X (.type "tuple") (λxs H Q=>∃x,xs=[.str x]/\x.length<=aB/\∀l,H l=none->Q (.ref l) (upd H l (.tup (x.cps.toList.map λc=>V.str (sgn c))))):=by
 intro g s A H xs us Q I B h
 refine aP h λx j n q=>?_;clear h;subst j
 obtain⟨u,rfl,C⟩:=gQ B;obtain⟨t,rfl⟩:=C;refine call_tuple_str (I.ok.hd z) x t (λh' tk d E r=>?_) n
 have w:Inv X g A H { s with heap:=h',toks:=tk }:=I.kept E
 have G:Vals (x.cps.toList.map λc=>V.str (sgn c)) d.toList:=by
  refine C6 (x:=x) _ _ (by simpa using r.1) λi c v J L=>?_
  refine cz (r.2 i v (by simpa using L)) λM u y N=>?_
  have:M=c:=by
   have m:x.cps[i]?=some c:=by simpa using J
   rw[m]at y;exact(gr y).symm
  subst this;exact⟨u,N⟩
 refine⟨.ref h'.objs.size,_,w.laid (t':=tk) (o:=.tup (x.cps.toList.map λc=>V.str (sgn c))) (λb T q=>bx _ q) (a5 _) ?_,rfl,q _ (w.aR.fresh (a5 _))⟩;refine⟨by rw[aJ];have O:x.cps.size<=aB:=n;simpa using O,d.toList,G,?_⟩
 have e:d.toList.toArray=d:=by simp
 rw[e];exact vS _ _
theorem O0(j:X.calm=true):lq X (.type "tuple") ic:=gP.cases<|by
 rintro xs H Q ⟨ds,d,r,e,q⟩
 cases r with
 | nil=>cases e
 | cons r t=>
  cases t with
  | cons n _=>cases r<;>simp[ic,tR]at e
  | nil=>
   cases r with
   | str x m=>cases e;exact⟨_,OZ j,x,rfl,m,λl g=>q _ _ (cE g _) (.tup (.of bG) (C7 _))⟩
   | tup h i=>cases e;exact⟨_,BS,_,_,rfl,.inr ⟨h,q _ H (av.refl H) (.tup h i)⟩⟩
   | lst h i=>cases e;exact⟨_,BS,_,_,rfl,.inl ⟨.inl h,λl g=>q _ _ (cE g _) (.tup (.of bG) (i.mono (cE g _)))⟩⟩
   | _=>cases e
end
section
variable {X:Cx}{e a b c tg:Expr}{es:List Expr}{pos p p2:Pos}{f fa fb fc:ae->Option D}{fs:ae->Option (List D)}
theorem xR(h:PI X tg iter t)(i:∀d H R,t' d H R->t d H R):PI X tg iter t':=λg s d H R I hw=>h g s d H R I (i d H R hw)
theorem O1{K:aw}{H:Hp}{a:Addr}{vs:List V}{ds:List D}(h:cx K H a vs)(r:aC K H vs ds):Wk K (ti K a) H ds:=λH' s=>by
 refine⟨λi d j=>?_,⟨vs,nc s h,by rw[r.length];exact a5 _⟩⟩;obtain⟨v,g,m⟩:=r.get j;refine⟨⟨vs,v,nc s h,g⟩,λx n q=>?_⟩;obtain⟨t,u⟩:=q;subst t
 have:=u vs (nc s h)
 rw[g]at this;cases this;exact⟨av.refl _,m.mono s⟩
theorem C8{K:aw}{H:Hp}{a:Addr}{vs:List V}{ds:List D}(h:b8 K H a vs)(r:aC K H vs ds):Wk K (tf K a) H ds:=λH' s=>by
 refine⟨λi d j=>?_,⟨vs,s.seq h,by rw[r.length];exact a5 _⟩⟩;obtain⟨v,g,m⟩:=r.get j;refine⟨⟨vs,v,s.seq h,g⟩,λx n q=>?_⟩;obtain⟨t,u⟩:=q;subst t
 have:=u vs (s.seq h)
 rw[g]at this;cases this;exact⟨av.refl _,m.mono s⟩
noncomputable def sg(c:Nat):Str:=⟨#[c]⟩
def t6(x:Str):It:=⟨λi _=>i<x.cps.size,λi H v H'=>H'=H/\∃c,x.cps[i]?=some c/\v=.str (sg c),λi _=>x.cps.size<=i⟩
theorem C9{P:a6}{w:World}{K:aw}{tg:Expr}{n:String}(hn:n="str_ascii_iterator"\/n="str_iterator")(d:Addr)(x:Str)(t:Tok):Turn P w K tg (t6 x) [d] d (λi h=>h.IsStrIter d n x t i) where
 mem:=by simp
 obj:=λi h st b j=>by
  have e:b=d:=by simpa using j
  subst e
  refine aP st λo y q C=>?_;clear st
  exact⟨o,y,λv z=>by rw[C]at z;cases z⟩
 keep:=λi h h' st k=>by obtain⟨o,y,r⟩:=st;exact⟨o,k d (by simp) o y,r⟩
 item:=by
  intro X G hw J q i g s σ H E I A st B;subst G hw J
  refine g9 (A d (by simp)) λL M f2 N O Q=>?_
  rcases hn with rfl | rfl
  refine(Walks.strAscii (prog:=X.prog) (w:=X.w) (I.ok.hd q) d x t).item i s _ _ B st λv h' tk T m kk=>?_
  rotate_left
  refine(Walks.strWide (prog:=X.prog) (w:=X.w) (I.ok.hd q) d x t).item i s _ _ B st λv h' tk T m kk=>?_
  all_goals
   refine cz T λc u e1 U=>?_;clear T;subst U
   have I1:Inv X g σ H { s with heap:=h',toks:=tk }:=I.turned (λb o j e=>kk b o (by simpa using j) e) L M N O Q
   refine aP (id m) λo y Y C=>?_
   exact⟨_,rfl,qL (s:={ s with heap:=h',toks:=tk }) y Y C (by decide) ⟨.str (sg c),H,I1,⟨u,rfl⟩,⟨rfl,c,e1,rfl⟩,m,λb j=>(A b j).1⟩⟩
 done:=by
  intro X G hw J q i g s σ H E I A st B;subst G hw J
  refine g9 (A d (by simp)) λL M f2 N O Q=>?_
  have h9:x.cps.size<=i:=B
  rcases hn with rfl | rfl;refine wpAny_pyNext_ascii_end (I.ok.hd q) st (by simpa using h9) ?_
  rotate_left
  refine wpAny_pyNext_wide_end (I.ok.hd q) st (by simpa using h9) ?_
  all_goals exactλh' eb=>⟨rfl,I.turned (t':=s.toks) (λb o j e=>eb b o j e) L M N O Q⟩
 self:=λ_ _ _ _ _ st h=>by
  rcases hn with rfl | rfl
  ·exact wpAny_pyIter_striter_ascii st h
  ·exact wpAny_pyIter_striter_wide st h
theorem C_{l:Expr}{tl:TE}(u:PE X l tl):PI X tg l (λm H R=>tl m H λx i=>∃z,x=.str z/\R (t6 z) i):=by
 intro d s m H R I h
 refine aK (u d s m H _ I h) λv g w=>?_
 obtain⟨x,i,j,y,A⟩:=w;obtain⟨z,rfl,q⟩:=A;obtain⟨t,rfl⟩:=y
 have n:∀b∈[g.heap.objs.size],k8 X d i b:=λb B=>by
  have e:b=g.heap.objs.size:=by simpa using B
  subst e;exact j.m3 (a5 _) (j.aR.fresh (a5 _))
 cases r:z.cps.all (· <128)
 ·exact wpAny_pyIter_wide r ⟨g.heap.objs.size,[g.heap.objs.size],_,_,i,rfl,j.kept (t':=g.toks) λb o e=>bx _ e,C9 (.inr rfl) _ z t,⟨_,cL _ rfl,rfl,rfl⟩,n,q⟩
 ·exact wpAny_pyIter_ascii r ⟨g.heap.objs.size,[g.heap.objs.size],_,_,i,rfl,j.kept (t':=g.toks) λb o e=>bx _ e,C9 (.inl rfl) _ z t,⟨_,cL _ rfl,rfl,rfl⟩,n,q⟩
theorem De{K:aw}{H:Hp}(x:Str):Wk K (t6 x) H (x.cps.toList.map λc=>D.str (sg c)):=λH' s=>by
 refine⟨λi d g=>?_,by show x.cps.size<=_;simp⟩;rw[bJ]at g
 cases q:x.cps.toList[i]? with
 | none=>rw[q]at g;cases g
 | some c=>
  rw[q]at g;cases g
  have h:x.cps[i]?=some c:=by simpa using q
  refine⟨(Array.getElem?_eq_some_iff.mp h).1,λv m ⟨n,t,j,r⟩=>?_⟩;rw[h]at j;cases j;subst n r;exact⟨av.refl _,.str _ (show 1<=aB by decide)⟩
def xS:D->Option (List D)
 | .lst xs=>some xs
 | .tup xs=>some xs
 | .aW ns=>some (ns.map .int)
 | .str x=>some (x.cps.toList.map λc=>.str (sg c))
 | _=>none
def bo(f:ae->Option D):ae->Option (List D):=λd=>(f d).bind xS
theorem O3(h:DE X e f):DI X tg e (bo f):=by
 intro g s j H R I ⟨m,ds,n,i,q⟩
 refine bS i λd t i=>?_
 cases d with
 | lst xs=>
  cases i;refine tj h g s j H R I ⟨m,_,n,t,λv H' s r=>?_⟩
  cases r with
  | @lst a vs _ h' u=>exact⟨a,rfl,⟨vs,.inl h'⟩,q _ H' s (C8 (.inl h') u)⟩
 | tup xs=>
  cases i;refine Bn h g s j H R I ⟨m,_,n,t,λv H' s r=>?_⟩
  cases r with
  | @tup a vs _ h' u=>exact⟨a,rfl,⟨vs,h'⟩,q _ H' s (O1 h' u)⟩
 | aW ns=>
  cases i;refine tj h g s j H R I ⟨m,_,n,t,λv H' s r=>?_⟩
  cases r with
  | @aW a _ h'=>exact⟨a,rfl,⟨_,h'⟩,q _ H' s (C8 h' (oZ ns))⟩
 | str x=>
  cases i;refine C_ h g s j H R I ⟨m,_,n,t,λv H' s r=>?_⟩
  cases r with
  | str _ w=>exact⟨x,rfl,q _ H' s (De x)⟩
 | _=>cases i
noncomputable def b7(lo:Int)(n:Nat):List D:=(dY n).map λi=>.int (lo+(i:Nat))
theorem Df{K:aw}{H:Hp}(lo:Int)(n:Nat):Wk K (oR lo n) H (b7 lo n):=λH' s=>by
 refine⟨λi d g=>?_,by show n<=_;simp[b7]⟩;unfold b7 at g;rw[bJ]at g
 by_cases h:i<n
 ·rw[Y5 h]at g
  cases g;refine⟨h,λv j m=>?_⟩;obtain⟨q,r⟩:=m;subst q r;exact⟨av.refl _,.int _⟩
 ·rw[IC.mpr (by simpa using h)]at g
  cases g
def t9:Option (List D)->Option (List D):=λo=>o.bind λds=>match ds with
 | [.int j]=>if-(2 ^ 62)<=j/\j<2 ^ 62 then some (b7 0 j.toNat)else none
 | [.int i,.int j]=>if-(2 ^ 62)<=i/\i<2 ^ 62/\ -(2 ^ 62)<=j/\j<2 ^ 62 then some (b7 i (j-i).toNat)else none
 | _=>none
theorem O4(v:Gl X "range")(w:X.mg "range"=none)(x:DE X a fa)(n:bq [a] X.env=[(false,eval a X.env)]:=by rfl):DI X tg (.Call (.Name "range" p) [a] [] pos) (λm=>t9 (o_ fa o4 m)):=
 xR (Bp v w (ng x pa n) n)<|by
  rintro A H R ⟨m,ds,y,h,q⟩
  refine bS h λz i h=>?_
  refine⟨m,z,y,i,λvs H' s r=>?_⟩
  refine bS i λd B i=>?_
  cases i
  cases r with
  | cons r t=>
   cases t
   cases r with
   | int j=>
    have g:(if-(2 ^ 62)<=j/\j<2 ^ 62 then some (b7 0 j.toNat)else none)=some ds:=h
    split at g
    case isFalse=>cases g
    rename_i u;cases g;exact⟨j,rfl,u.1,u.2,q _ H' s (Df 0 _)⟩
   | _=>cases h
noncomputable def fS(h:D->ae->Option ae)(gb:ae->Option Out):List D->ae->Option Out
 | [],i=>some (.aF i)
 | d::ds,i=>(h d i).bind λj=>(gb j).bind λo=>match o with
  | .aF g=>fS h gb ds g
  | .cnt g=>fS h gb ds g
  | .brk g=>some (.aF g)
  | .ret d=>some (.ret d)
def eC(fi:ae->Option (List D))(g:D->ae->Option ae)(gb:ae->Option Out):ae->Option Out:=λd=>(fi d).bind λds=>fS g gb ds d
theorem O5(hp:PassesOwn (model X.prog X.w) X.A X.env X.xe)(hc:X.calm=true)(hi:DI X tg iter fi)(hg:DG X tg E)(hb:lh X body gb)(hs:∀x,oe iter X.env x=pure x:=by intro _;rfl):DS X (.For tg iter body [] pos) (eC fi E gb):=
 c7 (Br hp hc hi hg hb hs)<|by
  rintro Dn σ H ⟨O,o,R,G,q⟩
  refine bS G λds h1 G=>?_
  refine⟨O,ds,R,h1,λJ H1 Q wk=>?_⟩;refine⟨λi m n H'=>i<=ds.length/\m=ds.length-i/\∃ρ',cb X.K H' n ρ'/\av H1 H'/\fS E gb (ds.drop i) ρ'=some o,⟨ds.length,ef _,rfl,O,R.mono Q,av.refl _,G⟩,?_⟩
  rintro i m n H' ⟨I,rfl,ρ',T,B,g⟩
  have L:wants X.K Dn H' o:=q.mono (Q.trans B)
  by_cases j:i<ds.length
  ·right
   rw[Ap j]at g
   refine bS g λu h2 g=>?_
   refine bS g λU h3 g=>?_
   obtain⟨M,hy⟩:=(wk H' B).1 i ds[i] (c6 j);refine⟨M,λy H2=>∃h,cb X.K H2 y h/\av H' H2/\fS E gb (ds.drop (i+1)) h=some o,by rintro y H2 ⟨h,R2,S2,e2⟩;exact⟨_,by omega,j,rfl,h,R2,B.trans S2,e2⟩,λx H2 hx=>?_⟩;obtain⟨Y,rx⟩:=hy x H2 hx;refine⟨ρ',ds[i],u,T.mono Y,rx,h2,λO6 H3 s3 R3=>⟨u,U,R3,h3,?_⟩⟩
   have C:=Y.trans s3
   cases U with
   | aF h=>exactλr z s t=>⟨h,t,C.trans s,g⟩
   | cnt h=>exactλr z s t=>⟨h,t,C.trans s,g⟩
   | brk h=>cases g;exactλr z s t=>L r z (C.trans s) t
   | ret d=>cases g;exactλv z s t=>L v z (C.trans s) t
  ·left
   have N:i=ds.length:=IG I (IH.mp j)
   subst N;rw[II]at g;cases g;exact⟨(wk H' B).2,L n H' (av.refl _) T⟩
noncomputable def O7(K:aw)(g:List D->ae->Option ae):m2:=λvs i H Q=>∃h ds ρ',cb K H i h/\aC K H vs ds/\g ds h=some ρ'/\∀d H',av H H'->cb K H' d ρ'->Q d H'
noncomputable def ig:List D->ae->Option ae
 | [],d=>some d
 | _,_=>none
noncomputable def b9(g:D->ae->Option ae)(i:List D->ae->Option ae):List D->ae->Option ae
 | d::ds,j=>(g d j).bind λh=>i ds h
 | [],_=>none
noncomputable def ij(n:Nat)(d:List D->ae->Option ae):D->ae->Option ae
 | .tup ds,g=>if ds.length=n then d ds g else none
 | _,_=>none
abbrev rh(X:Cx)(ts:List Expr)(g:List D->ae->Option ae):Prop:=oO X ts (O7 X.K g)
theorem O8:rh X [] ig:=by
 intro d s g H xs us Q I r ⟨i,ds,ρ',R,rd,h,q⟩;refine Bi d s g H xs us Q I r ?_
 cases rd with
 | nil=>cases h;exact⟨rfl,q g H (av.refl H) R⟩
 | cons _ _=>cases h
theorem O9(n:DG X e g)(u:rh X es v)(w:(f_ (e::es) X.env).map (·.2)=jW e X.env::(f_ es X.env).map (·.2):=by rfl):rh X (e::es) (b9 g v):=by
 intro d s x H xs us Q I r ⟨y,ds,ρ',R,rd,i,q⟩;refine Bj n u w d s x H xs us Q I r ?_
 cases rd with
 | nil=>cases i
 | cons z t=>
  refine bS i λh A i=>?_
  exact⟨_,_,rfl,y,_,h,R,z,A,λB G m C=>⟨h,_,ρ',C,t.mono m,i,λj H2 E R2=>q j H2 (m.trans E) R2⟩⟩
theorem O_{k n:Nat}(y:X.calm=true)(h:rh X es m)(hn:(f_ es X.env).length=n:=by rfl)(j:(f_ es X.env).findIdx? (·.1)=none:=by rfl):DG X (.Tuple es k pos) (ij n m):=by
 intro i s z H v u Q I r ⟨t,d,ρ',R,rd,w,q⟩;refine Bl y h hn j i s z H v u Q I r ?_
 cases rd with
 | @tup a xs ds h' x=>
  have g:(if ds.length=n then m ds t else none)=some ρ':=w
  split at g
  case isFalse=>cases g
  rename_i A;exact⟨a,xs,rfl,h',by rw[x.length];exact A,t,ds,ρ',R,x,g,q⟩
 | _=>cases w
theorem Inv.Pa{d:List (Addr × Obj)}{j:St}{H:Hp}{s:ao}{h':Heap}{t':Nat}{ch:List Addr}(I:Inv X d j H s)(k:∀b o,b∉ch->s.heap.get? b=some o->h'.get? b=some o)(hn:∀w∈ch,H w=none)
  (h:∀b∈ch,(b∈X.ex\/X.dC.heap.objs.size<=b)/\b≠X.env.locals/\(∀x c,X.env.cells.lookup x=some c->c≠b)/\∀p∈X.pn++d,p.1≠b):Inv X d j H { s with heap:=h',toks:=t' }:=by
 have i:∀b u,H b=some u->b∉ch:=λb u e z=>by rw[hn b z]at e;cases e
 refine I.step (g':=s.gens) (d':=s.drawn) (ch:=ch) h (λb o _ _ g e _=>k b o g e) (λb o _ _ g e _=>⟨o.slots,k b o g e⟩) (λ_ _ _ _ n=>n)
  (λb o g e=>⟨o,k b o g e⟩) (λ_ _ e=>e) (λ_ _ _ e=>e) (λb ps e=>⟨#[],by rw[e];simp⟩) (λm t=>?_) (λb u e=>?_) I.bare
 ·refine k5 t λo es y A r=>?_;clear t
  exact⟨o,es,y,k _ o (λz=>(h _ z).2.1 rfl) A,r⟩
 ·refine(I.aR b u e).kf (λc v g q=>k c v ?_ q) (λ_ q=>q) λ_ _ q=>q
  rcases g with z | z
  ·rw[z];exact i b u e
  ·exact i c _ z
theorem Dg{d:List (Addr × Obj)}{s:ao}{C:St}{H:Hp}{E:Value->ao->Prop}{t:List Expr}{x1}{B:Pos}{h i:Addr}{j:Int}{q u:Value}{x:V}{h':Heap}{tk:Tok}{J:V->Hp->Prop}{T:Heap->Prop}(I:Inv X d C H s)(Dh:h≠i)(G:∀b,b∈[h,i]->k8 X d H b)(h1:sM s.heap h i j q)(hsz:i<s.heap.objs.size)(L:IsEnumOut h' h i (j+1) u s.heap.objs.size)
  (M:h'.get? s.heap.objs.size=some { cls:=.type "tuple",data:=.seq #[.int j tk,u] }) (N:∀b o,b≠h->b≠i->s.heap.get? b=some o->h'.get? b=some o) (ru:RelV x u) (hJ:H s.heap.objs.size=none->J (.ref s.heap.objs.size) (upd H s.heap.objs.size (.tup [.int j,x]))) (hT:∀m:Heap,(∀b o,b≠h->h'.get? b=some o->m.get? b=some o)->T m):
  ∃O,some (eY s.heap.objs.size)=some O/\wpAny (model X.prog X.w) X.A (z7 (.Tuple t x1 B) (.ref h) O) (λ_ Q=>∃x H',Inv X d C H' Q/\RelV x O/\J x H'/\((∃q,sM Q.heap h i (j+1) q)/\T Q.heap)/\∀b,b∈[h,i]->H' b=none) E { s with heap:=h',toks:=tk+1 }:=by
 refine⟨_,rfl,wpAny_letOwnedTupleGo_enum L λm U r=>?_⟩
 have n:s.heap.objs.size≠h:=qh (bh h1)
 have g:H s.heap.objs.size=none:=I.aR.fresh (a5 _)
 have I1:Inv X d C H { s with heap:=m,toks:=tk+1 }:=by
  refine Inv.Pa (ch:=[h,i]) I (λb o hb ho=>r.extBut b o (λz=>hb (by simp[z])) (N b o (λz=>hb (by simp[z])) (λz=>hb (by simp[z])) ho)) (λb hb=>(G b hb).1) (λb hb=>?_)
  refine g9 (G b hb) λj0 j1 j2 j3 j4 j5=>?_
  exact⟨j3,j1,j4,j5⟩
 refine⟨.ref s.heap.objs.size,upd H s.heap.objs.size (.tup [.int j,x]),Inv.Cq I1 g I.sz (qh I.lt) (λy c e=>?_) (λp hp=>bO (bh (I.pin p hp).1)) ⟨(by show 2<=aB;decide),[.int j tk,u],.cons ⟨_,rfl⟩ (.cons ru .nil),⟨_,r.extBut _ _ n M,rfl,_,rfl⟩⟩,rfl,hJ g,⟨⟨u,U⟩,hT _ r.extBut⟩,λb hb=>?_⟩
 ·obtain⟨v,z⟩:=I.cell y c e
  exact bO z.lt
 ·have Y:b≠s.heap.objs.size:=by
   rcases a9.mp hb with rfl | hb
   ·exact cn n
   ·rw[br.mp hb];exact bO hsz
  rw[bz Y];exact(G b hb).1
def t_(K:aw)(a:Addr):It:=
 ⟨λi H=>∃xs x,b8 K H a xs/\xs[i]?=some x,λi H x H'=>∃p y,H p=none/\H'=upd H p (.tup [.int i,y])/\x=.ref p/\∀xs,b8 K H a xs->xs[i]?=some y,λi H=>∃xs,b8 K H a xs/\xs.length<=i⟩
theorem Pb{P:a6}{w:World}{K:aw}{q:List Expr}{x1}{t:Pos}(a y j:Addr)(n:y≠j):
  Turn P w K (.Tuple q x1 t) (t_ K a) [y,j] y (λi h=>(∃d,sM h y j ((i:Nat):Int) d)/\h.IsListIter j a i) where
 mem:=by simp
 obj:=λi h st b hb=>by
  obtain⟨⟨d,g⟩,o,m,h3,h4⟩:=st;rcases a9.mp hb with rfl | hb
  ·exact⟨_,g,λv z=>by cases z⟩
  ·have e:b=j:=by simpa using hb
   subst e;exact⟨o,m,λv z=>by rw[h4]at z;cases z⟩
 keep:=λi h h' st k=>by
  obtain⟨⟨d,g⟩,o,m,h3⟩:=st;exact⟨⟨d,k y (by simp) _ g⟩,o,k j (by simp) o m,h3⟩
 item:=by
  intro X M hw N hc i A s σ H E I O st C;subst M hw N
  refine cz C λxs x G L=>?_;clear C
  refine aP (I.list G) λQ U Y hz=>?_
  obtain⟨⟨d,g⟩,m⟩:=st;obtain⟨u,hu,ru⟩:=U.get L
  refine wpAny_pyNext_enum_item g m Y.isList (x:=u) (by simpa using hu) n λh' xT B xU xV ku=>?_
  exact Dg (J:=(t_ X.K a).oQ i H) (T:=λh=>h.IsListIter j a (i+1)) I n O g (by obtain⟨_,ho,_⟩:=m;exact bh ho) xT xU ku ru (λxW=>⟨_,x,xW,rfl,rfl,λys hy=>by rw[I.Bc hy G];exact L⟩) λ_ e=>by obtain⟨o,ho,r⟩:=B;exact⟨o,e j o (cn n) ho,r⟩
 done:=by
  intro X M hw N hc i A s σ H E I O st C;subst M hw N
  refine g9 (O j (by simp)) λg0 g1 g2 g3 g4 g5=>?_
  obtain⟨xs,G,L⟩:=C
  refine aP (I.list G) λQ U Y hz=>?_
  obtain⟨⟨d,g⟩,m⟩:=st
  exact wpAny_pyNext_enum_end (I.ok.hd hc) g m Y.isList (by rw[Y6];simp;rw[<-U.length];exact L) λh' eb=>⟨rfl,I.turned (t':=s.toks) (λb o hb e=>eb b o hb e) g0 g1 g3 g4 g5⟩
 self:=λ_ _ _ _ _ st h=>by
  obtain⟨⟨d,g⟩,_⟩:=st;exact Aw g h
noncomputable def iK:Nat->List D->List D
 | _,[]=>[]
 | i,d::ds=>.tup [.int ((i:Nat):Int),d]::iK (i+1) ds
theorem js:∀(ds:List D)(i:Nat),(iK i ds).length=ds.length
 | [],_=>rfl
 | _::ds,i=>by rw[iK,bR,bR,js ds]
theorem ua:∀(ds:List D)(k i:Nat)(d:D),(iK k ds)[i]?=some d->∃y,ds[i]?=some y/\d=.tup [.int ((k+i:Nat):Int),y]
 | [],_,_,_,h=>by simp[iK]at h
 | y::ds,k,0,d,h=>by simp[iK]at h;exact⟨y,rfl,h.symm⟩
 | y::ds,k,i+1,d,h=>by
  obtain⟨z,g,j⟩:=ua ds (k+1) i d (by simpa [iK]using h);exact⟨z,by simpa using g,by rw[j];congr 3;lia⟩
noncomputable def Pc:D->Option (List D)
 | .lst xs=>some xs
 | .aW ns=>some (ns.map .int)
 | _=>none
def rj(f:ae->Option D):ae->Option (List D):=λg=>(f g).bind λd=>(Pc d).map (iK 0)
theorem Di{d:List (Addr × Obj)}{m:St}{H:Hp}{s:ao}{R:It->Hp->Prop}{E:Value->ao->Prop}{g:List Expr}{r}{i:Pos}{a:Addr}{vs:List V}(I:Inv X d m H s)(h:b8 X.K H a vs)(q:R (t_ X.K a) H):
  wpAny (model X.prog X.w) X.A (call (.type "enumerate") [.ref a]) (λv t=>wpAny (model X.prog X.w) X.A (mO v) (s_ X d m (.Tuple g r i) R) E t) E s:=by
 refine aP (I.list h) λu C x hz=>?_
 refine call_enumerate_list x.isList λh' n y G z=>Aw n ?_
 have B:Inv X d m H { s with heap:=h' }:=I.kept (t':=s.toks) z
 refine⟨s.heap.objs.size+1,[s.heap.objs.size+1,s.heap.objs.size],_,_,H,rfl,B,Pb a _ _ (Y7 _),⟨⟨_,n⟩,y⟩,λb hb=>?_,q⟩
 have j:s.heap.objs.size<=b:=by
  rcases a9.mp hb with rfl | hb
  ·exact iS _
  ·have e:b=s.heap.objs.size:=by simpa using hb
   rw[e];exact a5 _
 exact I.m3 j (I.aR.fresh j)
end
section
variable {X:Cx}{e a b c:Expr}{es:List Expr}{pos p:Pos}{f fa fb fc:ae->Option D}{g g':D->D->Option D}
def qN(K:aw)(h:Str->Option Value)(x:Str)(d:D):Prop:=∃v u,h x=some u/\RelV v u/\∀H,Rep K H v d
theorem Pd(i:Gl X x)(h:qN X.K X.mg x d)(j:(x==("__debug__":Str))=false:=by decide):DE X (.Name x pos) (cC d):=by
 refine cM h λv u m n q=>?_;clear h
 exact MO i m n q j
end
def cI(np ns:Nat)(g:ae->Option Out)(ds:List D):Option D:=if ds.length=np then(g (iW ns ds)).bind λo=>match o with
  | .ret d=>some d
  | .aF _=>some .ay
  | _=>none
 else none
theorem Pe{P:a6}{w:World}{K:aw}{p:Str->Option Value}{base:Heap}{x b:Str}{st:Stmt}{f:Addr}{t:d7}{N ps:List Str}{k np ns:Nat}{g:ae->Option Out}(Fn:kl K x b st f t)(S:m5 N ps (dF st))(u:ps.length=np)(hn:N.length=ns)
  (i:∀(c:Value)(A:a8)(a:List Env)(s:ao)(H:Hp)(E:XK),bL k (A.deeper (iR b (dF st) s.heap.objs.size f c))->lh (jh dG P w K p base N b (dF st) f c A a s H E).ki (iV st) g):
  dS P w K p base dG (k+1) f t ps (ko K (cI np ns g)):=by
 subst u hn
 have hlen:∀{ds:List D}{d:D},cI ps.length N.length g ds=some d->ds.length=ps.length/\∃o,g (iW N.length ds)=some o/\(match o with | .ret d=>some d | .aF _=>some .ay | _=>none)=some d:=λ{ds d} h=>by
  unfold cI at h
  split at h
  case isFalse=>cases h
  rename_i v
  refine bS h λo n j=>?_
  exact⟨v,o,n,j⟩
 refine Fn.ok S (by rintro vs H Q E ⟨ds,d,r,e,_⟩;rw[r.length];exact(hlen e).1) (λc A a s H vs Q E y h=>?_)
 refine cM h λds d r e q=>?_;clear h
 refine bX (hlen e) λ_ m=>b5 m λo n j=>?_;clear m
 refine⟨_,i c A a s H E y,iW N.length ds,o,Nh r,n,?_⟩
 cases o with
 | ret d'=>cases j;exact q
 | aF B=>cases j;exactλz H' s _=>q .ay H' s .ay
 | _=>cases j
theorem Pf{P:a6}{w:World}{K:aw}{c:Str->Option Value}{base:Heap}{f:Addr}{e:d7}{ps:List Str}:dS P w K c base dG 0 f e ps (ko K λ_=>none):=by
 have b:∀vs H Q E,¬ko K (λ_=>none) vs H Q E:=by rintro vs H Q E ⟨ds,d,_,h,_⟩;cases h
 exact⟨λvs H Q E h=>absurd h (b vs H Q E),λA a s H args us vs Q E _ _ _ _ h=>absurd h (b vs H Q E)⟩
noncomputable def cO:Expr->Bool
 | .Starred _ _=>false
 | _=>true
noncomputable def xX:Expr->Bool
 | .UnaryOp _ _ _=>false
 | .BoolOp _ _ _=>false
 | .IfExp _ _ _ _=>false
 | .Compare _ _ _ _=>false
 | _=>true
noncomputable def rk:Expr->Bool
 | .Slice _ _ _ _=>false
 | _=>true
noncomputable def iY:Expr->Bool
 | .Set _ _ _=>false
 | _=>true
theorem cf(h:cO e=true):bq (e::es) a=(false,eval e a)::bq es a:=by
 cases e<;>first | rfl | cases h
theorem ik:∀{es:List Expr},es.all cO=true->(g7 a (bq es b)).any (·.1)=false
 | [],_=>rfl
 | e::es,h=>by
  rw[e_,bB]at h;rw[cf h.1]
  show(false||(g7 a (bq es b)).any (·.1))=false
  rw[Iz];exact ik h.2
theorem lA:∀{es:List Expr},es.all cO=true->(g7 a (bq es b)).all (λx=>!x.1)=true
 | [],_=>rfl
 | e::es,h=>by
  rw[e_,bB]at h;rw[cf h.1]
  show(true&&(g7 a (bq es b)).all (λx=>!x.1))=true
  rw[ot];exact lA h.2
theorem Dj{e:Expr}(h:xX e=true)(a:Sem Value):isTrue e b a=(do let v<-a;standAt e.pos;holding [v] (truthy v)):=by
 cases e<;>first | rfl | cases h
theorem ub(h:rk e=true)(o i:Value):vT e false o i=operate [o,i] (jY o i):=by
 cases e<;>first | rfl | cases h
theorem nt(h:iY e=true)(x:Value):oe e a x=pure x:=by
 cases e<;>first | rfl | cases h
theorem xY(h:iY e=true):vN a e=false:=by
 cases e<;>first | rfl | cases h
structure JE(X:Cx)(e:Expr)(f:ae->Option D):Prop where
 h:DE X e f
structure JT(X:Cx)(e:Expr)(f:ae->Option Bool):Prop where
 h:DT X e f
structure JW(X:Cx)(e:Expr)(f:ae->Option Bool):Prop where
 h:DW X e f
structure JA(X:Cx)(es:List Expr)(f:List (ae->Option D))(g:ae->Option (List D)):Prop where
 h:kn X es g
 n:nh f.length g
 st:es.all cO=true
structure JO(X:Cx)(e:Option Expr)(f:ae->Option (Option Int)):Prop where
 h:DO X e f
structure JI(X:Cx)(tg e:Expr)(f:ae->Option (List D)):Prop where
 h:DI X tg e f
 s:iY e=true
structure JG(X:Cx)(e:Expr)(g:D->ae->Option ae):Prop where
 h:DG X e g
structure rl(X:Cx)(es:List Expr)(g:List D->ae->Option ae):Prop where
 h:rh X es g
structure JF(X:Cx)(es:List Expr)(f:ae->Option Bool):Prop where
 h:mh X es f
structure JS(X:Cx)(st:Stmt)(g:ae->Option Out):Prop where
 h:DS X st g
structure JB(X:Cx)(st:List Stmt)(g:ae->Option Out):Prop where
 h:lh X st g
def ag:List (ae->Option D)->ae->Option (List D)
 | []=>o4
 | f::fs=>o_ f (ag fs)
theorem Dk:ag [] a=some []:=rfl
theorem rm:ag (f::fs) a=(f a).bind λd=>(ag fs a).bind λds=>some (d::ds):=rfl
def dD(g:ae->Option (List D)):ae->Option (List D):=λa=>t9 (g a)
structure dj(X:Cx)(op:Value->Value->Sem Value)(g:D->D->Option D):Prop where
 h:dJ X op g
section
variable {X:Cx}{e a b c:Expr}{es:List Expr}{pos p p2:Pos}{f fa fb fc:ae->Option D}{fs:List (ae->Option D)}{x:Str}{g g':D->D->Option D}{ta tb:ae->Option Bool}{rest:List Expr}
theorem Pg(i:Nat)(h:X.N[i]?=some x)(j:eN X.env.scope x)(m:(x==("__debug__":Str))=false)
  (d:(x==("__classdict__":Str))=false):JE X (.Name x pos) (aa i):=⟨MK i h j m d⟩
theorem Ph:JE X (.Constant (.int i) j pos) (cC (.int i)):=⟨ML⟩
theorem Pj{b j}:JE X (.Constant (.bool b) j pos) (cC (.bl b)):=⟨MM⟩
theorem Pk:JE X (.Constant .none j pos) (cC .ay):=⟨MN⟩
theorem Pm{x}(d:x.length<=aB):JE X (.Constant (.str x) j pos) (cC (.str x)):=⟨Ce d⟩
theorem Pn(h:qN X.K X.mg x d)(i:Gl X x)(j:(x==("__debug__":Str))=false):JE X (.Name x pos) (cC d):=⟨Pd i h j⟩
theorem Po(d:JE X a fa):JE X (.UnaryOp .USub a pos) (kx fa):=⟨OI d.h⟩
theorem Pp(d:JE X a fa):JE X (.UnaryOp .Not a pos) (tM fa):=⟨M7 d.h⟩
theorem Pq(d:dj X (dw i) g)(j:JE X a fa)(m:JE X b fb):JE X (.BinOp a i b pos) (ab g fa fb):=⟨MT d.h j.h m.h⟩
theorem Pr(d:dj X (bF i) g)(j:JE X a fa)(m:JE X b fb)(n:iY b=true):JE X (.Compare a [i] [b] pos) (ab g fa fb):=⟨MU d.h j.h m.h (xY n)⟩
theorem Pt(d:dj X (bF i) g)(j:JE X a fa)(m:JE X b fb)(n:iY b=true):JT X (.Compare a [i] [b] pos) (cB (ab g fa fb)):=⟨MV d.h j.h m.h (xY n)⟩
theorem Pu(j:dj X (bF m) g)(d:dj X (bF i) g')(n:JE X a fa)(q:JE X b fb)(r:JE X c fc)(s:iY c=true):JE X (.Compare a [m,i] [b,c] pos) (tN g g' fa fb fc):=
 ⟨M9 j.h d.h n.h q.h r.h (xY s)⟩
theorem Pw(d:JE X a fa):JE X (.BoolOp i [a] pos) fa:=⟨M4 d.h⟩
theorem Px(d:JE X a fa)(i:JE X (.BoolOp .And (b::rest) pos) fb):JE X (.BoolOp .And (a::b::rest) pos) (iI fa fb):=⟨M5 d.h i.h⟩
theorem Py(d:JE X a fa)(i:JE X (.BoolOp .Or (b::rest) pos) fb):JE X (.BoolOp .Or (a::b::rest) pos) (qV fa fb):=⟨M6 d.h i.h⟩
theorem Pz(d:JT X a ta):JW X (.BoolOp .And [a] pos) ta:=⟨MX d.h⟩
theorem PB(d:JT X a ta):JW X (.BoolOp .Or [a] pos) ta:=⟨MY d.h⟩
theorem w_and(d:JT X a ta)(i:JW X (.BoolOp .And (b::rest) pos) tb):JW X (.BoolOp .And (a::b::rest) pos) (dZ ta tb):=⟨MZ d.h i.h⟩
theorem w_or(d:JT X a ta)(i:JW X (.BoolOp .Or (b::rest) pos) tb):JW X (.BoolOp .Or (a::b::rest) pos) (hY ta tb):=⟨M0 d.h i.h⟩
theorem PC(h:JW X (.BoolOp d l pos) ta):JT X (.BoolOp d l pos) ta:=⟨M1 h.h⟩
theorem PD(d:JT X a ta):JT X (.UnaryOp .Not a pos) (gg ta):=⟨M3 d.h⟩
theorem PF(h:JE X e f)(d:xX e=true):JT X e (cB f):=⟨MW h.h (Dj d)⟩
theorem PH:JA X [] [] (ag []):=⟨pa,MP,rfl⟩
theorem PJ(i:JE X e f)(d:JA X es fs (ag fs))(hn:cO e=true):JA X (e::es) (f::fs) (ag (f::fs)):=⟨ng i.h d.h (cf hn),MQ d.n,by rw[e_,hn,d.st];rfl⟩
theorem uc{n:Nat}(h:qc n 1000=true):n<=aB:=cj (gJ h) (by decide)
theorem PK(h:JA X es fs (ag fs))(hn:qc fs.length 1000=true):JE X (.Tuple es d pos) (aD (ag fs)):=⟨MR h.h h.n (uc hn)⟩
theorem PN(h:JA X es fs (ag fs))(hn:qc fs.length 1000=true):JE X (.List es pos) (ei (ag fs)):=⟨MS h.h h.n (uc hn)⟩
theorem PQ(d:JE X a fa)(i:JE X b fb)(j:rk b=true):JE X (.Subscript a b pos) (ab ak fa fb):=⟨NC d.h i.h (ub j)⟩
theorem PR:JO X none d8:=⟨OU⟩
theorem PU(h:JE X e f):JO X (some e) (c8 f):=⟨OV h.h⟩
theorem PV{lo d:Option Expr}{fl i:ae->Option (Option Int)}(j:JE X a fa)(m:JO X lo fl)(n:JO X d i):JE X (.Subscript a (.Slice lo d none p2) pos) (eO fa fl i):=⟨OY j.h m.h n.h⟩
theorem PX{k:Nat}(C:Callee X.prog X.w X.K X.mg X.base k x F)(m:bL k X.A)(j:JA X (e::es) fs (ag fs))(n:Gl X x)(i:(x==("__debug__":Str))=false):
  JE X (.Call (.Name x p) (e::es) [] pos) (au F (ag fs)):=by
 have d:=j.st
 rw[e_,bB]at d;exact⟨Ng C m n j.h i (cf d.1) (ik d.2)⟩
structure JC(X:Cx)(f:Value)(g:List D->Option D):Prop where
 h:lq X f g
theorem xZ{id:String}{g:List D->Option D}(m:JC X (.builtin id) g)(n:X.mg x=none)(q:et x=some (.builtin id))(j:JA X (e::es) fs (ag fs))(r:Gl X x)(hn:x≠"__name__")
  (i:(x==("__debug__":Str))=false):JE X (.Call (.Name x p) (e::es) [] pos) (au g (ag fs)):=by
 have d:=j.st
 rw[e_,bB]at d;exact⟨ND m.h r n q j.h hn i (cf d.1) (ik d.2)⟩
theorem Dm{T:String}{g:List D->Option D}(m:JC X (.type T) g)(n:X.mg x=none)(q:et x=some (.type T))(j:JA X (e::es) fs (ag fs))(r:Gl X x)(hn:x≠"__name__")
  (i:(x==("__debug__":Str))=false):JE X (.Call (.Name x p) (e::es) [] pos) (au g (ag fs)):=by
 have d:=j.st
 rw[e_,bB]at d;exact⟨NF m.h r n q j.h hn i (cf d.1) (ik d.2)⟩
theorem ud(T:Ty)(n:X.mg "isinstance"=none)(d:X.mg x=none)(q:et x=some (.type T.nm))(r:JE X a fa)(s:Gl X "isinstance")(i:Gl X x)(j:cO a=true)(hn:x≠"__name__")(m:(x==("__debug__":Str))=false):
  JE X (.Call (.Name "isinstance" p) [a,.Name x p2] [] pos) (ly T fa):=⟨OH T s n i d q r.h hn m (cf j) (ik rfl) (cf rfl)⟩
theorem PY{d i:Pos}{z:Str}(n:JE X b fb)(hz:z.length<=aB)(hn:cO b=true)(m:(d.endLine==i.line)=true):
  JE X (.Call (.Attribute (.Constant (.str z) j q) "join" d) [b] [] i) (t5 (cC (.str z)) fb):=
 ⟨ON (Ce hz) n.h rfl (by rw[lA (show [b].all cO=true by rw[e_,hn];rfl)];rfl) m (cf hn)⟩
theorem PZ(h:JE X e f)(d:iY e=true):JI X i e (bo f):=⟨O3 h.h,d⟩
theorem P0(d:X.mg "range"=none)(i:JE X a fa)(j:Gl X "range")(hn:cO a=true):JI X m (.Call (.Name "range" p) [a] [] pos) (dD (ag [fa])):=⟨O4 j d i.h (cf hn),rfl⟩
theorem Dp(i:Nat)(d:X.N.Nodup)(h:X.N[i]?=some x)(j:Loc X.env.scope x)(m:X.fn x=true\/X.env.scope.names.lookup x=some .local):JG X (.Name x pos) (gN i):=⟨NI d h j m⟩
theorem Dq:rl X [] ig:=⟨O8⟩
theorem Dr{g:D->ae->Option ae}{d:List D->ae->Option ae}(i:JG X e g)(j:rl X es d)(m:(f_ (e::es) X.env).map (·.2)=jW e X.env::(f_ es X.env).map (·.2)):rl X (e::es) (b9 g d):=⟨O9 i.h j.h m⟩
theorem Ds{k n:Nat}(h:rl X es i)(j:X.calm=true)(hn:(f_ es X.env).length=n)(d:(f_ es X.env).findIdx? (·.1)=none):JG X (.Tuple es k pos) (ij n i):=⟨O_ j h.h hn d⟩
theorem P1:JF X [] (λ_=>some true):=⟨NL⟩
theorem P2(h:JT X c ta):JF X [c] ta:=⟨NM h.h⟩
theorem P4{B iter u:Expr}{v:List Expr}{d:Scope}{t:List (Str × Addr)}{N':List Str}{cap:List (Option Nat)}{fi:ae->Option (List D)}{H:D->ae->Option ae}{fc:ae->Option Bool}{I:ae->Option D}
  (J:JI X B iter fi) (E:∀C i j w,JG (bT X d t N' C i j w) B H/\JF (bT X d t N' C i j w) v fc/\JE (bT X d t N' C i j w) u I)
  (n:l3 d X.env=pure t) (q:∀y∈d.names,y.2≠ .cell) (r:d.kind=.function)
  (m:∀y∈d.names,y.2=.local->d.names.lookup y.1=some .local) (G:h_ X.env.cells t)
  (z:ia t (jb d X.env).names)
  (A:eB X d N' cap)
  (L:X.calm=true):JE X (.ListComp u [⟨B,iter,v,0⟩] d pos) (bY cap fi H fc I):=
 ⟨Oz L J.h n q r m G z A (λC i j w=>by obtain⟨M,N,O⟩:=E C i j w;exact⟨M.h,N.h,O.h⟩) (nt J.s)⟩
end
section
variable {X:Cx}{e c tg:Expr}{st:Stmt}{rest:List Stmt}{pos:Pos}{f:ae->Option D}{g u:ae->Option Out}{t:ae->Option Bool}
theorem P5:JB X [] bD:=⟨M_⟩
theorem P6(h:JS X st g):JB X [st] g:=⟨Na h.h⟩
theorem P7(a:JS X st g)(b:JB X rest u):JB X (st::rest) (aQ g u):=⟨Nb a.h b.h⟩
theorem Dt(h:JE X e f):JS X (.Return (some e) pos) (aY f):=⟨Nc h.h⟩
theorem P8(d:JT X c t)(i:JB X a g)(j:JB X b u):JS X (.If c a b pos) (bf t g u):=⟨Nd d.h i.h j.h⟩
theorem P9(i:Nat)(b:X.N.Nodup)(h:JE X e f)(d:X.N[i]?=some x)(j:Loc X.env.scope x)(m:gu e (some (.Name x a)) pos.line X.env=pure false)(n:X.fn x=true\/X.env.scope.names.lookup x=some .local):JS X (.Assign [.Name x a] e pos) (cc i f):=⟨Nf b d j h.h m n⟩
theorem P_(a:JI X tg iter fi)(b:JG X tg d)(i:JB X body gb)(j:PassesOwn (model X.prog X.w) X.A X.env X.xe)(m:X.calm=true):
  JS X (.For tg iter body [] pos) (eC fi d gb):=⟨O5 j m a.h b.h i.h (nt a.s)⟩
end
section
variable {X:Cx}
theorem Qa:dj X (dw .Add) aM:=⟨Cj⟩
theorem Qb:dj X (dw .Sub) gB:=⟨Nj⟩
theorem Qc:dj X (dw .Mult) jj:=⟨Nk⟩
theorem Qd:dj X (dw .Mod) ej:=⟨Nl⟩
theorem Qe:dj X (dw .FloorDiv) lj:=⟨Nm⟩
theorem Qf:dj X (bF .Lt) jk:=⟨Np⟩
theorem Qg:dj X (bF .LtE) ni:=⟨Nq⟩
theorem Qh:dj X (bF .Gt) ll:=⟨Nt⟩
theorem Qi{k:Nat}(a:bL k X.A):dj X (bF .Eq) (a7 64):=⟨Ny a.units⟩
theorem Qj{k:Nat}(a:bL k X.A):dj X (bF .NotEq) (dt 64):=⟨Nz a.units⟩
theorem Qk:dj X (bF .Is) jo:=⟨NA⟩
theorem Ql:dj X (bF .IsNot) hZ:=⟨NB⟩
theorem Qm{k:Nat}(a:bL k X.A):dj X (bF .In) nj:=⟨DL.w5 (oV a)⟩
theorem Qn:JC X (.builtin "len") cV:=⟨DL.B4⟩
theorem k_all(a:X.calm=true):JC X (.builtin "all") nk:=⟨OJ a⟩
theorem Qo:JC X (.builtin "sorted") t2:=⟨OL⟩
theorem Qp(a:X.calm=true):JC X (.type "tuple") ic:=⟨O0 a⟩
end
noncomputable def az(H:Hp)(O:List Addr):Hp:=λb=>if b∈O then none else H b
noncomputable def lay(H:Hp)(O:List Addr)(H':Hp):Hp:=λb=>if b∈O then H b else H' b
theorem eD(h:b∈O):az H O b=none:=if_pos h
theorem cv(h:b∉O):az H O b=H b:=if_neg h
theorem gj(h:b∈O):lay H O H' b=H b:=if_pos h
theorem d9(h:b∉O):lay H O H' b=H' b:=if_neg h
theorem lB(H:Hp):az H []=H:=by rfl
theorem iZ(h:az H O b=some o):b∉O/\H b=some o:=by
 grind[eD,cv]
theorem gR(H:Hp)(O:List Addr):av (az H O) H:=λb o h=>(iZ h).2
theorem x4(h:∀b∈O,H' b=none):az (lay H O H') O=H':=by
 funext b
 by_cases a:b∈O
 ·grind[eD]
 ·rw[cv a,d9 a]
def mq(a:Addr)(u:HO):Prop:=(∃vs,u=.lst vs)\/(∃b,u=.dK b)\/∃K ks vs,u=dH K a ks vs
def jK(H:Hp)(O:List Addr):Prop:=∀a∈O,∃u,H a=some u/\mq a u
section
variable {X:Cx}{pins:List (Addr × Obj)}{σ:St}{H:Hp}{s:ao}{O:List Addr}
theorem Inv.nu(I:Inv X pins σ H s)(h:H a=some u)(p:mq a u):∃o,s.heap.get? a=some o/\(∀v,o.data≠ .cell v)/\∀(H':Hp)(h':Heap),h'.get? a=some o->(∀b xs,H b=some (.tup xs)->H' b=some (.tup xs))->dB X.prog X.w H' h' a u:=by
 rcases p with⟨vs,rfl⟩ | ⟨t,rfl⟩ | ⟨K,ks,vs,rfl⟩
 ·refine bX (I.aR a _ h) λz c=>cz c λi n r e=>?_;clear c
  exact⟨_,e,λv z=>(by cases z),λH' h' g _=>⟨z,i,n,r,g⟩⟩
 ·refine bK (I.aR a _ h) λz y c=>b5 c λvs A d=>ey d λo es j B C f=>bX f λE G=>?_;clear c d f
  exact⟨o,B,(by simp_all),λH' h' g _=>⟨z,y,vs,A,o,es,j,g,C,E,G⟩⟩
 ·refine bK ((I.aR a _ h).1) λJ L c=>eh c λxs M N Q d=>ey d λo es j e T f=>bX f λm U=>?_;clear c d f
  exact⟨o,e,λv z=>(by rw[m]at z;cases z),λH' h' g Y=>xa ⟨J,L,xs,M,λx hx=>dU.mono (λb xs q=>mX.mpr (Y b xs (mX.mp q))) 8 _ _ (N x hx),Q,o,es,j,g,T,m,U⟩⟩
theorem Qq(I:Inv X pins σ H s)(c:b∈X.fs):H b=none:=by
 refine bX (I.ok.jg.mem c) λ_ a=>b5 a λo d _=>?_;clear a
 exact I.base.free b o d (I.ok.mY b c) λz=>I.ok.oM b z c
theorem Inv.hide(I:Inv X pins σ H s)(m:jK H O):Inv X (pins++iG O s.heap) σ (az H O) s:=by
 have t:∀b∈O,∀u,H b=some u->mq b u:=λb f u e=>by
  obtain⟨C,h,r⟩:=m b f
  simp_all
 have a:∀b u,H b=some u->¬mq b u->az H O b=some u:=(by grind[absurd,cv])
 have none_of:∀b,H b=none->az H O b=none:=(by grind[eD,cv])
 refine⟨I.ok,I.os,I.bare,⟨I.base.keep,I.base.slot,λb o e n w=>none_of b (I.base.free b o e n w),I.base.there,λb xs e=>a b _ (I.base.k6 b xs e) (by rintro(⟨_,z⟩ | ⟨_,z⟩ | ⟨_,_,_,z⟩)<;>cases z),λb o u e=>a b _ (I.base.iT b o u e) (by rintro(⟨_,z⟩ | ⟨_,z⟩ | ⟨_,_,_,z⟩)<;>cases z),λb ps e=>?_⟩,I.loc,I.cell,none_of _ I.free,λx c e=>none_of _ (I.g_ x c e),λp y=>?_,λb u e=>?_,I.len⟩
 ·obtain⟨g,q⟩:=I.base.kg b ps e
  exact⟨g,a b _ q (by rintro(⟨_,z⟩ | ⟨_,z⟩ | ⟨_,_,_,z⟩)<;>cases z)⟩
 ·have i:p∈X.pn++pins\/p∈iG O s.heap:=by
   rcases bW.mp y with h | h
   ·simp_all
   ·grind
  rcases i with h | h
  ·refine kc (I.pin p h) λe n t E d=>?_
   simp_all
  ·obtain⟨f,e⟩:=Bq h
   obtain⟨u,j,r⟩:=m _ f
   refine aP (Inv.nu I j r) λo q G _=>?_
   rw[q]at e
   have A:o=p.2:=gr e
   refine⟨by rw[q,A],eD f,λz=>?_,λz=>?_,λv z=>?_⟩
   ·rw[z,I.free]at j;cases j
   ·grind[Qq]
   simp_all
 ·obtain⟨f,B⟩:=iZ e
  refine(I.aR b u B).kf (λ_ _ _ q=>q) (λc q=>a c _ q (by rintro(⟨_,z⟩ | ⟨_,z⟩ | ⟨_,_,_,z⟩)<;>cases z)) λc xs q=>a c _ q (by rintro(⟨_,z⟩ | ⟨_,z⟩ | ⟨_,_,_,z⟩)<;>cases z)
theorem Inv.Du(I:Inv X pins σ H s)(y:jK H O)(J:Inv X (pins++iG O s.heap) m H' A)(S:∀b xs,az H O b=some (.tup xs)->H' b=some (.tup xs)):Inv X pins m (lay H O H') A/\∀b∈O,H' b=none:=by
 have E:∀b xs,H b=some (.tup xs)->lay H O H' b=some (.tup xs):=λb xs e=>by
  have a:b∉O:=λz=>by
   obtain⟨u,h,r⟩:=y b z;rw[e]at h;cases h
   rcases r with⟨_,z⟩ | ⟨_,z⟩ | ⟨_,_,_,z⟩<;>cases z
  rw[d9 a];exact S _ _ (by rw[cv a];exact e)
 have g:∀b∈O,∃u,H b=some u/\dB X.prog X.w (lay H O H') A.heap b u/\H' b=none:=λb a=>by
  obtain⟨u,j,r⟩:=y b a
  refine aP (Inv.nu I j r) λo q _ t=>?_
  obtain⟨G,L,_⟩:=J.pin (b,_) (dR _ (dR _ (oS a q)));exact⟨u,j,t _ _ G E,L⟩
 have hn:∀b∈O,H' b=none:=λb a=>by obtain⟨_,_,_,z⟩:=g b a;exact z
 have out:∀b u,H' b=some u->b∉O:=λb u e a=>by rw[hn b a]at e;cases e
 have f:∀b u,H' b=some u->lay H O H' b=some u:=λb u e=>by rw[d9 (out b u e)];exact e
 refine⟨⟨J.ok,J.os,J.bare,⟨J.base.keep,J.base.slot,λb o e n B=>?_,J.base.there,λb xs e=>f b _ (J.base.k6 b xs e),λb o u e=>f b _ (J.base.iT b o u e),λb ps e=>?_⟩,J.loc,J.cell,?_,λx c e=>?_,λp C=>?_,λb u e=>?_,J.len⟩,hn⟩
 ·by_cases a:b∈O
  ·rw[gj a];exact I.base.free b o e n B
  ·rw[d9 a];exact J.base.free b o e n B
 ·obtain⟨i,q⟩:=J.base.kg b ps e
  exact⟨i,f b _ q⟩
 ·by_cases a:X.env.locals∈O
  ·rw[gj a];exact I.free
  ·rw[d9 a];exact J.free
 ·by_cases a:c∈O
  ·rw[gj a];exact I.g_ x c e
  ·rw[d9 a];exact J.g_ x c e
 ·have v:p∈X.pn++(pins++iG O s.heap):=by
   rcases bW.mp C with h | h
   ·exact gK _ h
   ·exact dR _ (gK _ h)
  refine kc (J.pin p v) λe n M N d=>?_
  refine⟨e,?_,M,N,d⟩
  by_cases a:p.1∈O
  ·rw[gj a];exact(I.pin p C).2.1
  ·rw[d9 a];exact n
 ·by_cases a:b∈O
  ·rw[gj a]at e
   refine aP (g b a) λQ j t _=>?_
   rw[j]at e;cases e;exact t
  ·rw[d9 a]at e
   exact(J.aR b u e).kf (λ_ _ _ q=>q) (λc q=>f c _ q) λc xs q=>f c _ q
theorem Inv.ue(I:Inv X pins σ H s)(c:jK H O)(J:Inv X (pins++iG O s.heap) a H' d)(S:av (az H O) H'):Inv X pins a (lay H O H') d/\∀b∈O,H' b=none:=Inv.Du I c J λb xs=>S b _
end
inductive XD where
 | t (ks:List D) | n | x (b:Addr)
inductive SD where
 | ai (d:D) | ow (κ:Option (List Key)) (ds:List D) | xt (κ:XD) (ds:List D)
noncomputable abbrev SD.own(ds:List D):SD:=.ow none ds
noncomputable def ky:Option (List Key)->List V->HO
 | none,vs=>.lst vs
 | some ks,vs=>.dK (ks.zip vs)
theorem Dv(a:Addr)(κ:Option (List Key))(vs:List V):mq a (ky κ vs):=by
 cases κ with
 | none=>exact .inl ⟨vs,rfl⟩
 | some ks=>exact .inr (.inl ⟨_,rfl⟩)
def uf(κ:Option (List Key))(vs:List V):Prop:=∀ks,κ=some ks->ks.length=vs.length/\ks.Nodup/\∀k∈ks,m_ k=true
theorem x5(vs:List V):uf none vs:=λ_ z=>by cases z
noncomputable abbrev ar:=List (Option SD)
noncomputable def jL:Option SD->Option D
 | some (.ai d)=>some d
 | _=>none
noncomputable def pj:Option SD->Option D
 | some (.ai d)=>some d
 | some (.ow none ds)=>some (.lst ds)
 | some (.xt (.t ks) ds)=>some (.tab ks ds)
 | some (.xt .n ds)=>some (.lst ds)
 | some (.xt (.x _) ds)=>some (.lst ds)
 | _=>none
def pv(a:ar):ae:=a.map jL
def fz(a:ar):ae:=a.map pj
def OX(K:aw)(H G:Hp)(κ:XD)(a:Addr)(A:List Addr)(ds:List D):Prop:=match κ with
 | .t ks=>A=[]/\∃vs,H a=some (dH K a ks vs)/\aC K G vs ds/\ks.length=vs.length
 | .n=>H a=some (.lst (A.map .ref))/\A.Nodup/\A.length=ds.length/\∀(j:Nat)(b:Addr)(d:D),A[j]?=some b->ds[j]?=some d->∃vs es,d=.lst es/\H b=some (.lst vs)/\aC K G vs es
 | .x b=>a=b/\A=[]/\∃vs,H a=some (.lst vs)/\aC K G vs ds
theorem OX.mono{K:aw}{H H' G p:Hp}{κ:XD}{a:Addr}{A:List Addr}{ds:List D}(h:OX K H G κ a A ds)(e:∀b∈a::A,H' b=H b)(s:av G p):OX K H' p κ a A ds:=by
 cases κ with
 | t ks=>refine bX h λc f=>aP f λvs g i m=>?_;clear h f;exact⟨c,vs,(e a (by simp)).trans g,i.mono s,m⟩
 | n=>
  refine gA h λc g i m=>?_;clear h
  exact⟨(e a (by simp)).trans c,g,i,λj b d q r=>by obtain⟨vs,es,u,v,w⟩:=m j b d q r;exact⟨vs,es,u,(e b (bV _ (ee q))).trans v,w.mono s⟩⟩
 | x b=>exact bK h λc g i=>b5 i λvs m y=>⟨c,g,vs,(e a (by simp)).trans m,y.mono s⟩
def Off(a:St)(c:ar)(A:List Addr):Prop:=∀(j:Nat)(κ:Option (List Key))(es:List D)(b:Addr),c[j]?=some (some (.ow κ es))->a[j]?=some (some (.ref b))->b∉A
def RX(K:aw)(H:Hp)(d:St)(c:ar)(O:List Addr):Prop:=∀(i:Nat)(κ:XD)(ds:List D),c[i]?=some (some (.xt κ ds))->(∀j κ' es,c[j]?=some (some (.xt κ' es))->j=i)/\∃a A,d[i]?=some (some (.ref a))/\(∀b∈a::A,b∈O)/\a∉A/\OX K H (az H O) κ a A ds/\Off d c (a::A)
theorem RX.of{K:aw}{H H':Hp}{f c:St}{g ρ':ar}{O m:List Addr}(R:RX K H f g O)(n:∀(i:Nat)(κ:XD)(ds:List D),ρ'[i]?=some (some (.xt κ ds))->g[i]?=some (some (.xt κ ds))/\c[i]?=f[i]?)(p:av (az H O) (az H' m))(q:∀A,(∀b∈A,b∈O)->Off f g A->(∀b∈A,b∈m/\H' b=H b)/\Off c ρ' A):RX K H' c ρ' m:=λi κ ds h=>by
 obtain⟨r,s⟩:=n i κ ds h
 refine bX (R i κ ds r) λu d=>iE d λa A t v w x y=>?_;clear d
 obtain⟨b1,b2⟩:=q _ v y;exact⟨λj κ' es e=>u j κ' es (n _ _ _ e).1,a,A,s.trans t,λb h=>(b1 b h).1,w,x.mono (λb h=>(b1 b h).2) p,b2⟩
structure RO(K:aw)(H:Hp)(σ:St)(ρ:ar)(O:List Addr):Prop where
 len:σ.length=ρ.length
 ls:jK H O
 ai:∀(i:Nat)(d:D),ρ[i]?=some (some (.ai d))->∃v,σ[i]?=some (some v)/\Rep K (az H O) v d
 ow:∀(i:Nat)(κ:Option (List Key))(ds:List D),ρ[i]?=some (some (.ow κ ds))->∃a vs,σ[i]?=some (some (.ref a))/\a∈O/\H a=some (ky κ vs)/\aC K (az H O) vs ds/\uf κ vs
 inj:∀(i j:Nat)(κ κ':Option (List Key))(ds es:List D)(a:Addr),ρ[i]?=some (some (.ow κ ds))->ρ[j]?=some (some (.ow κ' es))->σ[i]?=some (some (.ref a))->σ[j]?=some (some (.ref a))->i=j
 xt:RX K H σ ρ O
section
variable {K:aw}{H H':Hp}{σ:St}{ρ:ar}{O:List Addr}
theorem RO.own(R:RO K H σ ρ O)(i:Nat)(ds:List D)(h:ρ[i]?=some (some (.own ds))):∃a vs,σ[i]?=some (some (.ref a))/\a∈O/\H a=some (.lst vs)/\aC K (az H O) vs ds:=
 let ⟨a,vs,b,c,d,e,_⟩:=R.ow i none ds h
 ⟨a,vs,b,c,d,e⟩
theorem Dw:∀{vs:List V}{ds:List D},vs.length=ds.length->(∀(j:Nat)(v:V)(d:D),vs[j]?=some v->ds[j]?=some d->Rep K H v d)->aC K H vs ds
 | [],[],_,_=>.nil
 | v::vs,d::ds,h,q=>.cons (q 0 v d rfl rfl) (Dw (by simpa using h) λj v d a b=>q (j+1) v d (by simpa using a) (by simpa using b))
theorem RO.pv(R:RO K H σ ρ O):cb K (az H O) σ (pv ρ):=by
 refine⟨by rw[R.len];simp[DL.pv],λi d h=>?_⟩;unfold DL.pv at h;rw[bJ]at h
 cases q:ρ[i]? with
 | none=>simp_all
 | some o=>
  rw[q]at h
  cases o with
  | none=>cases h
  | some x=>
   cases x with
   | ai d'=>cases h;exact R.ai i d q
   | ow κ ds=>cases h
   | xt κ ds=>cases h
theorem RO.fz(R:RO K H σ ρ O):cb K H σ (fz ρ):=by
 refine⟨by rw[R.len];simp[DL.fz],λi d h=>?_⟩;unfold DL.fz at h;rw[bJ]at h
 cases q:ρ[i]? with
 | none=>simp_all
 | some o=>
  rw[q]at h
  cases o with
  | none=>cases h
  | some x=>
   cases x with
   | ai d'=>
    cases h;obtain⟨v,e,s⟩:=R.ai i d q;exact⟨v,e,s.mono (gR H O)⟩
   | ow κ ds=>
    cases κ with
    | some ks=>cases h
    | none=>
    cases h
    refine dq (R.own i ds q) λa vs e _ u f=>?_
    exact⟨.ref a,e,.lst (.inl u) (f.mono (gR H O))⟩
   | xt κ ds=>
    refine bX (R.xt i κ ds q) λ_ c=>iE c λa A e _ _ f _=>?_;clear c
    cases κ with
    | t ks=>cases h;refine bX f λ_ c=>aP c λvs g m _=>?_;clear f c;exact⟨.ref a,e,.tab g (m.mono (gR H O))⟩
    | n=>
     cases h
     refine gA f λg _ m w=>?_;clear f
     exact⟨.ref a,e,.lst (.inl g) (Dw (by simpa using m) λj v d r y=>by
      rw[bJ]at r;obtain⟨b,z,rfl⟩:=bC.mp r
      refine cM (w j b d z y) λvs es p B C=>?_;subst p
      exact .lst (.inl B) (C.mono (gR H O)))⟩
    | x b=>cases h;exact bK f λ_ _ E=>b5 E λvs g m=>⟨.ref a,e,.lst (.inl g) (m.mono (gR H O))⟩
structure SO(H H':Hp)(O:List Addr):Prop where
 same:av (az H O) (az H' O)
 own:∀a∈O,H' a=H a
theorem SO.refl(H:Hp)(O:List Addr):SO H H O:=⟨av.refl _,λ_ _=>rfl⟩
theorem SO.trans(a:SO d H2 O)(b:SO H2 e O):SO d e O:=⟨a.same.trans b.same,λc h=>(b.own c h).trans (a.own c h)⟩
theorem SO.of(c:jK H O)(h:av H H'):SO H H' O:=⟨λb o e=>by
 obtain⟨d,f⟩:=iZ e;rw[cv d]
 exact h b o f,λa g=>by
 obtain⟨vs,e,_⟩:=c a g;rw[e]
 exact h a _ e⟩
theorem RO.mono(R:RO K H σ ρ O)(s:SO H H' O):RO K H' σ ρ O:=
 ⟨R.len,λa g=>by obtain⟨u,e,n⟩:=R.ls a g;exact⟨u,(s.own a g).trans e,n⟩,λi d h=>by obtain⟨v,f,c⟩:=R.ai i d h;exact⟨v,f,c.mono s.same⟩,
  λi κ ds h=>by obtain⟨a,vs,f,c,p,q,r⟩:=R.ow i κ ds h;exact⟨a,vs,f,c,(s.own a c).trans p,q.mono s.same,r⟩,R.inj,R.xt.of (λ_ _ _ h=>⟨h,rfl⟩) s.same λA j o=>⟨λb m=>⟨j b m,s.own b (j b m)⟩,o⟩⟩
theorem RO.set(R:RO K H σ ρ O)(i:Nat)(q:Rep K (az H O) v d):RO K H (σ.set i (some v)) (ρ.set i (some (.ai d))) O:=by
 have c:∀(j:Nat)(x:SD),(ρ.set i (some (.ai d)))[j]?=some (some x)->(j=i/\i<ρ.length/\x=.ai d)\/(j≠i/\ρ[j]?=some (some x)):=(by grind)
 refine⟨by rw[iC,iC];exact R.len,R.ls,λj e h=>?_,λj κ ds h=>?_,λj k κ κ' ds es a m n p r=>?_,R.xt.of (λj κ ds h=>?_) (av.refl _) λA s o=>⟨λb t=>⟨s b t,rfl⟩,λj κ es b m n=>?_⟩⟩
 rotate_left 3
 ·rcases c j _ h with⟨_,_,f⟩ | ⟨g,h⟩
  ·cases f
  ·exact⟨h,dQ (cn g)⟩
 ·rcases c j _ m with⟨_,_,f⟩ | ⟨g,m⟩
  ·cases f
  ·rw[dQ (cn g)]at n;exact o j κ es b m n
 ·rcases c j _ h with⟨rfl,u,f⟩ | ⟨g,h⟩
  ·cases f
   exact⟨v,i_ (by rw[R.len];exact u),q⟩
  ·rw[dQ (cn g)]
   exact R.ai j e h
 ·rcases c j _ h with⟨_,_,f⟩ | ⟨g,h⟩
  ·cases f
  ·rw[dQ (cn g)]
   exact R.ow j κ ds h
 ·rcases c j _ m with⟨_,_,f⟩ | ⟨g,m⟩
  ·cases f
  ·rcases c k _ n with⟨_,_,f⟩ | ⟨w,n⟩
   ·cases f
   ·rw[dQ (cn g)]at p
    rw[dQ (cn w)]at r;exact R.inj j k κ κ' ds es a m n p r
theorem RO.Dx(R:RO K H σ ρ O)(i:Nat)(w:H p=none)(q:aC K (az H O) vs ds)(y:uf κ vs):RO K (upd H p (ky κ vs)) (σ.set i (some (.ref p))) (ρ.set i (some (.ow κ ds))) (p::O)/\av (az H O) (az (upd H p (ky κ vs)) (p::O)):=by
 have m:p∉O:=λh=>by obtain⟨vs,e,_⟩:=R.ls p h;simp_all
 have n:av (az H O) (az (upd H p (ky κ vs)) (p::O)):=λb o e=>by
  obtain⟨B,I⟩:=iZ e
  have J:b≠p:=jF I w
  simp_all[cv,bz]
 have c:∀(j:Nat)(x:SD),(ρ.set i (some (.ow κ ds)))[j]?=some (some x)->(j=i/\i<ρ.length/\x=.ow κ ds)\/(j≠i/\ρ[j]?=some (some x)):=(by grind)
 refine⟨⟨by rw[iC,iC];exact R.len,λa ha=>?_,λj e h=>?_,λj κ' es h=>?_,λj k L M es fs a f d r u=>?_,R.xt.of (λj κ ds h=>?_) n λA C o=>⟨λb B=>⟨bV _ (C b B),bz λz=>m (z▸C b B)⟩,λj κ es b f d=>?_⟩⟩,n⟩
 rotate_left 4
 ·rcases c j _ h with⟨_,_,s⟩ | ⟨g,h⟩
  ·cases s
  ·exact⟨h,dQ (cn g)⟩
 ·rcases c j _ f with⟨rfl,t,_⟩ | ⟨g,f⟩
  ·rw[i_ (by rw[R.len];exact t)]at d;cases d;exactλz=>m (C _ z)
  ·rw[dQ (cn g)]at d;exact o j κ es b f d
 ·rcases a9.mp ha with rfl | ha
  ·exact⟨_,bG,Dv _ _ _⟩
  ·obtain⟨us,e,N⟩:=R.ls a ha
   exact⟨us,by rw[bz (jF e w)];exact e,N⟩
 ·rcases c j _ h with⟨_,_,s⟩ | ⟨g,h⟩
  ·cases s
  ·rw[dQ (cn g)]
   obtain⟨v,f,d⟩:=R.ai j e h;exact⟨v,f,d.mono n⟩
 ·rcases c j _ h with⟨rfl,t,s⟩ | ⟨g,h⟩
  ·cases s
   exact⟨p,vs,i_ (by rw[R.len];exact t),bg,bG,q.mono n,y⟩
  ·rw[dQ (cn g)]
   refine iE (R.ow j κ' es h) λa us f d r u Q=>?_
   exact⟨a,us,f,bV _ d,by rw[bz (jF r w)];exact r,u.mono n,Q⟩
 ·have G:∀(j:Nat)(κ:Option (List Key))(es:List D)(a:Addr),ρ[j]?=some (some (.ow κ es))->σ[j]?=some (some (.ref a))->a≠p:=λj κ es a f d z=>by
   refine dq (R.ow j κ es f) λb us T U Y _=>?_
   simp_all
  rcases c j _ f with⟨rfl,t,_⟩ | ⟨g,E⟩
  ·grind
  ·rw[dQ (cn g)]at r
   rcases c k _ d with⟨rfl,t,_⟩ | ⟨y,d⟩
   ·grind
   ·rw[dQ (cn y)]at u
    exact R.inj j k _ _ es fs a E d r u
theorem RO.new(R:RO K H σ ρ O)(i:Nat)(a:H p=none)(q:aC K (az H O) vs ds):RO K (upd H p (.lst vs)) (σ.set i (some (.ref p))) (ρ.set i (some (.own ds))) (p::O)/\av (az H O) (az (upd H p (.lst vs)) (p::O)):=R.Dx (κ:=none) i a q (x5 vs)
theorem RO.Dy(R:RO K H σ ρ O){i:Nat}(g:ρ[i]?=some (some (.ow κ ds)))(B:σ[i]?=some (some (.ref a)))(E:a∈O)(q:aC K (az H O) us es)(C:uf κ' us):RO K (upd H a (ky κ' us)) σ (ρ.set i (some (.ow κ' es))) O/\az (upd H a (ky κ' us)) O=az H O:=by
 have u:az (upd H a (ky κ' us)) O=az H O:=by
  funext b
  by_cases p:b∈O
  ·simp_all[eD]
  ·grind[cv,bz]
 have G:i<ρ.length:=(cA.mp g).1
 have c:∀(j:Nat)(x:SD),(ρ.set i (some (.ow κ' es)))[j]?=some (some x)->(j=i/\x=.ow κ' es)\/(j≠i/\ρ[j]?=some (some x)):=(by grind)
 refine⟨⟨by rw[iC];exact R.len,λb p=>?_,λj e h=>?_,λj d fs h=>?_,λj k d I r fs b m n v w=>?_,R.xt.of (λj κ ds h=>?_) (by rw[u];exact av.refl _) λA J o=>⟨λb p=>⟨J b p,bz λz=>o i κ ds a g B (z▸p)⟩,λj d L b m n=>?_⟩⟩,u⟩
 rotate_left 4
 ·rcases c j _ h with⟨_,y⟩ | ⟨s,h⟩
  ·cases y
  ·exact⟨h,rfl⟩
 ·rcases c j _ m with⟨rfl,_⟩ | ⟨s,m⟩
  ·exact o j κ ds b g n
  ·exact o j _ _ b m n
 ·by_cases z:b=a
  ·subst z;exact⟨_,bG,Dv _ _ _⟩
  ·rw[bz z];exact R.ls b p
 ·rw[u]
  rcases c j _ h with⟨_,y⟩ | ⟨s,h⟩
  ·cases y
  ·exact R.ai j e h
 ·rw[u]
  rcases c j _ h with⟨rfl,y⟩ | ⟨s,h⟩
  ·grind[bG]
  ·refine dq (R.ow j d fs h) λb ws m n v w=>?_
   have M:b≠a:=λz=>s (R.inj j i _ _ fs ds a h g (by simp_all) B)
   grind[bz]
 ·rcases c j _ m with⟨rfl,_⟩ | ⟨s,t⟩
  ·rcases c k _ n with⟨rfl,_⟩ | ⟨C,f⟩
   ·rfl
   ·exact R.inj j k _ _ ds fs b g f v w
  ·rcases c k _ n with⟨rfl,_⟩ | ⟨C,f⟩
   ·exact R.inj j k _ _ r ds b t g v w
   ·exact R.inj j k _ _ r fs b t f v w
theorem RO.chg(R:RO K H σ ρ O){i:Nat}(c:ρ[i]?=some (some (.own ds)))(d:σ[i]?=some (some (.ref a)))(b:a∈O)(q:aC K (az H O) us es):RO K (upd H a (.lst us)) σ (ρ.set i (some (.own es))) O/\az (upd H a (.lst us)) O=az H O:=R.Dy (κ':=none) c d b q (x5 us)
end
mutual
noncomputable def cQ:D->Bool
 | .lst _=>false
 | .aW _=>false
 | .aH _ _=>false
 | .tab .. =>false
 | .tup xs=>cF xs
 | _=>true
noncomputable def cF:List D->Bool
 | []=>true
 | x::xs=>cQ x&&cF xs
end
theorem Dz{d:D}{ds:List D}(n:cF (d::ds)=true):cQ d=true/\cF ds=true:=by simpa [cF]using n
theorem Rep.hide{K:aw}{H:Hp}{O:List Addr}(c:jK H O){v:V}{d:D}(r:Rep K H v d):cQ d=true->Rep K (az H O) v d:=
 r.go (P:=λd=>cQ d=true) (Q:=λds=>cF ds=true) (λ{a xs ds} _ h=>h.imp_left λh=>by
  by_cases b:a∈O
  ·obtain⟨vs,q,e⟩:=c a b
   rw[h]at q;cases q
   rcases e with⟨_,z⟩ | ⟨_,z⟩ | ⟨_,_,_,z⟩<;>cases z
  ·rw[cv b];exact h) (λn=>by simp[cQ]at n) (λn=>by simp[cQ]at n) (λn=>by simp[cQ]at n) (λn=>by simp[cQ]at n) (λn=>by simpa [cQ]using n) Dz
theorem aC.hide{K:aw}{H:Hp}{O:List Addr}(a:jK H O){vs:List V}{ds:List D}(r:aC K H vs ds):cF ds=true->aC K (az H O) vs ds:=r.go (P:=λd=>cQ d=true) (Q:=λds=>cF ds=true) (λr=>r.hide a) Dz
def x6(K:aw)(f:ar->Option D):TE:=λb H Q=>∃a O d,RO K H b a O/\f a=some d/\∀v H',SO H H' O->Rep K (az H' O) v d->Q v H'
def vH(f:ae->Option D):ar->Option D:=λa=>f (pv a)
def vZ(f:ae->Option D):ar->Option D:=λa=>(f (fz a)).bind λd=>if cQ d=true then some d else none
section
variable {X:Cx}{e:Expr}{f:ae->Option D}{t:ae->Option Bool}
theorem DA(h:DE X e f):PE X e (x6 X.K (vH f)):=by
 intro g s j H Q I ⟨m,O,d,R,n,q⟩
 refine aK (h _ s j (az H O) (λv b=>av (az H O) b/\Rep X.K b v d) (Inv.hide I R.ls) ⟨pv m,d,R.pv,n,λv b c i=>⟨c,i⟩⟩) λu y p=>?_
 obtain⟨v,b,J,r,c,i⟩:=p;obtain⟨w,hn⟩:=Inv.ue I R.ls J c
 have e:=x4 (H:=H) hn
 exact⟨v,lay H O b,w,r,q v _ ⟨by simp_all,λa x=>gj x⟩ (by simp_all)⟩
theorem Qr(h:DE X e f):PE X e (x6 X.K (vZ f)):=cD h<|by
 rintro m H Q ⟨b,O,d,R,a,q⟩
 refine bS a λd' c a=>?_
 split at a
 case isFalse=>cases a
 rename_i hn;cases a;refine⟨fz b,d,R.fz,c,λv g i j=>?_⟩
 have S:=SO.of R.ls i
 exact q v g S (Rep.hide (R.mono S).ls j hn)
end
section
variable {X:Cx}{e a b:Expr}{es:List Expr}{pos p:Pos}{f fa fb:ae->Option D}{fl:ae->Option (List D)}{fs:ae->Option (List D)}
theorem Qs{n:Nat}(h:kn X es fs)(g:nh n fs)(hn:n<=aB):PE X (.List es pos) (mi X.K fs):=
 cD (wO h)<|by rintro s H Q ⟨c,ds,r,e,q⟩;exact⟨c,ds,r,e,λvs i j d=>⟨by rw[d.length];exact cj (g c ds e) hn,λp m=>q vs i p j m d⟩⟩
noncomputable def ug:D->Option (List D)
 | .lst xs=>some xs
 | _=>none
noncomputable def DB:D->Option (List D)
 | .lst xs=>some xs
 | .tup xs=>some xs
 | _=>none
def lC(fa fb:ae->Option D):ae->Option (List D):=λc=>(fa c).bind λx=>(fb c).bind λy=>(ug x).bind λxs=>(ug y).bind λys=>if xs.length+ys.length<=aB then some (xs++ys)else none
theorem Qt(m:DE X a fa)(n:DE X b fb):PE X (.BinOp a .Add b pos) (mi X.K (lC fa fb)):=
 cD (Bs Ci m n)<|by
  rintro J H Q ⟨h,ds,R,e,q⟩
  refine bS e λx r e=>?_
  refine bS e λy s e=>?_
  refine bS e λxs t e=>?_
  refine bS e λys w e=>?_
  split at e
  case isFalse=>cases e
  rename_i hz;cases e;refine⟨h,x,R,r,λv L i z=>⟨h,y,R.mono i,s,λu H2 j A=>?_⟩⟩
  cases x<;>cases t
  cases y<;>cases w
  have g:=z.mono j
  cases g with
  | @lst B vs _ C c=>
   cases A with
   | @lst E ws _ G d=>exact⟨B,E,vs,ws,rfl,rfl,C,G,by rw[c.length,d.length];exact hz,λp I=>q (vs++ws) H2 p (i.trans j) I (c.append d)⟩
def uh(fa:ae->Option D):ae->Option (List D):=λc=>(fa c).bind DB
theorem Qu(m:Gl X "list")(n:X.mg "list"=none)(r:DE X a fa)(hn:cO a=true):PE X (.Call (.Name "list" p) [a] [] pos) (mi X.K (uh fa)):=
 cD (BG L_ m n DL.OG (hE r iH (cf hn)) (by decide) (by decide) (cf hn) (ik rfl))<|by
  rintro w H Q ⟨s,ds,R,e,q⟩
  refine bS e λx t e=>?_
  refine⟨s,x,R,t,λv i j u=>?_⟩
  cases u with
  | @lst d vs _ g c=>cases e;exact⟨d,vs,rfl,.inl (.inl g),λp h=>q vs i p j h c⟩
  | @tup d vs _ g c=>cases e;exact⟨d,vs,rfl,.inr g,λp h=>q vs i p j h c⟩
  | _=>cases e
def x8(K:aw)(f:ar->Option (List D)):TE:=λd H Q=>∃c O ds,RO K H d c O/\f c=some ds/\∀vs H' p,SO H H' O->H' p=none->aC K (az H' O) vs ds->Q (.ref p) (upd H' p (.lst vs))
def lH(f:ae->Option (List D)):ar->Option (List D):=λc=>f (pv c)
def lZ(f:ae->Option (List D)):ar->Option (List D):=λc=>(f (fz c)).bind λds=>if cF ds=true then some ds else none
theorem x9{r:Type}{fl:ae->Option r}{ds:r->List D}{o:r->Addr->List V->HO}(h:PE X e (λj H Q=>∃g z,cb X.K H j g/\fl g=some z/\∀vs c p,av H c->c p=none->aC X.K c vs (ds z)->Q (.ref p) (upd c p (o z p vs)))):
  PE X e (λj H Q=>∃g O z,RO X.K H j g O/\fl (pv g)=some z/\∀vs H' p,SO H H' O->H' p=none->aC X.K (az H' O) vs (ds z)->Q (.ref p) (upd H' p (o z p vs))):=by
 intro y s j H Q I ⟨g,O,z,R,B,q⟩
 refine aK (h _ s j (az H O) (λv H2=>∃vs c p,v=.ref p/\H2=upd c p (o z p vs)/\av (az H O) c/\c p=none/\aC X.K c vs (ds z)) (Inv.hide I R.ls) ⟨pv g,z,R.pv,B,λvs c p m n t=>⟨vs,c,p,rfl,rfl,m,n,t⟩⟩) λu T C=>?_
 obtain⟨v,H2,J,E,vs,c,p,G,L,m,n,t⟩:=C;subst G L;obtain⟨A,hn⟩:=Inv.ue I R.ls J (m.trans (cE n _))
 have i:p∉O:=λh=>by have:=hn p h;rw[bG]at this;cases this
 have w:∀b∈O,c b=none:=λb d=>by have:=hn b d;rw[bz (λz=>i (by rw[<-z];exact d))]at this;exact this
 have e:=x4 (H:=H) w
 have M:lay H O (upd c p (o z p vs))=upd (lay H O c) p (o z p vs):=by
  funext b
  by_cases d:b∈O
  ·rw[gj d,bz (λz=>i (by rw[<-z];exact d)),gj d]
  ·rw[d9 d]
   by_cases x:b=p
   ·subst x;rw[bG,bG]
   ·rw[bz x,bz x,d9 d]
 rw[M]at A;exact⟨.ref p,_,A,E,q vs _ p ⟨by rw[e];exact m,λa N=>gj N⟩ (by rw[d9 i];exact n) (by rw[e];exact t)⟩
theorem Qw(h:PE X e (mi X.K fl)):PE X e (x8 X.K (lH fl)):=x9 (ds:=id) (o:=λ_ _=>.lst) h
theorem Qx(h:PE X e (mi X.K fl)):PE X e (x8 X.K (lZ fl)):=cD h<|by
 rintro s H Q ⟨d,O,ds,R,c,q⟩
 refine bS c λg i c=>?_
 split at c
 case isFalse=>cases c
 rename_i hn;cases c;refine⟨fz d,ds,R.fz,i,λvs j p m n r=>?_⟩
 have S:=SO.of R.ls m
 exact q vs j p S n (aC.hide (R.mono S).ls r hn)
end
inductive aL where
 | aF (ρ:ar) | ret (d:D) | brk (ρ:ar) | cnt (ρ:ar)
def nv(K:aw)(e:Ends)(H:Hp)(O:List Addr):aL->Prop
 | .aF c=>∀a H' b,av (az H O) (az H' b)->RO K H' a c b->e.nx a H'
 | .ret d=>∀v H',av (az H O) H'->Rep K H' v d->e.rt v H'
 | .brk c=>∀a H' b,av (az H O) (az H' b)->RO K H' a c b->e.bk a H'
 | .cnt c=>∀a H' b,av (az H O) (az H' b)->RO K H' a c b->e.ct a H'
theorem nv.mono{K:aw}{b:Ends}{H H':Hp}{O c:List Addr}{o:aL}(h:nv K b H O o)(e:av (az H O) (az H' c)):nv K b H' c o:=by
 cases o with
 | aF f=>exactλa H2 O2 s r=>h a H2 O2 (e.trans s) r
 | ret d=>exactλv H2 s r=>h v H2 (e.trans s) r
 | brk f=>exactλa H2 O2 s r=>h a H2 O2 (e.trans s) r
 | cnt f=>exactλa H2 O2 s r=>h a H2 O2 (e.trans s) r
def DC(K:aw)(g:ar->Option aL):TS:=λb c H=>∃a O o,RO K H c a O/\g a=some o/\nv K b H O o
structure KS(X:Cx)(st:Stmt)(g:ar->Option aL):Prop where
 h:PS X st (DC X.K g)
structure KB(X:Cx)(st:List Stmt)(g:ar->Option aL):Prop where
 h:gd X st (DC X.K g)
structure eE(X:Cx)(e:Expr)(f:ar->Option D):Prop where
 h:PE X e (x6 X.K f)
structure KF(X:Cx)(e:Expr)(f:ar->Option (List D)):Prop where
 h:PE X e (x8 X.K f)
structure JL(X:Cx)(e:Expr)(f:ae->Option (List D)):Prop where
 h:PE X e (mi X.K f)
section
variable {X:Cx}{e c tg:Expr}{st:Stmt}{rest:List Stmt}{pos p:Pos}{f:ae->Option D}{fo fi':ar->Option D}{lo:ar->Option (List D)}{fl:ae->Option (List D)}{g u:ar->Option aL}{t:ae->Option Bool}{x:Str}
theorem Qy(h:JE X e f):eE X e (vH f):=⟨DA h.h⟩
theorem Qz(h:JE X e f):eE X e (vZ f):=⟨Qr h.h⟩
theorem QA(h:JL X e fl):KF X e (lH fl):=⟨Qw h.h⟩
theorem QB(h:JL X e fl):KF X e (lZ fl):=⟨Qx h.h⟩
noncomputable def c4:ar->Option aL:=λa=>some (.aF a)
noncomputable def aG(g u:ar->Option aL):ar->Option aL:=λa=>(g a).bind λo=>match o with
 | .aF ρ'=>u ρ'
 | o=>some o
theorem QC:KB X [] c4:=⟨me Be<|by rintro b a H ⟨d,O,o,R,e,q⟩;cases e;exact q a H O (av.refl _) R⟩
theorem QD(h:KS X st g):KB X [st] g:=⟨wA h.h⟩
theorem QE(a:KS X st g)(i:KB X rest u):KB X (st::rest) (aG g u):=
 ⟨me (wz a.h i.h)<|by
  rintro v w H ⟨j,O,o,R,e,q⟩
  refine bS e λb a e=>?_
  refine⟨j,O,b,R,a,?_⟩
  cases b with
  | aF ρ'=>exactλm H' n s r=>⟨ρ',n,o,r,e,q.mono s⟩
  | ret d=>cases e;exact q
  | brk ρ'=>cases e;exact q
  | cnt ρ'=>cases e;exact q⟩
def dW(f:ae->Option D):ar->Option aL:=λa=>(f (fz a)).bind λd=>some (.ret d)
theorem QF(h:JE X e f):KS X (.Return (some e) pos) (dW f):=
 ⟨c7 (sZ h.h)<|by
  rintro i j H ⟨a,O,o,R,e,q⟩
  refine bS e λd b e=>?_
  cases e
  exact⟨fz a,d,R.fz,b,λv H' s r=>q v H' ((gR H O).trans s) r⟩⟩
def cW(t:ae->Option Bool)(g u:ar->Option aL):ar->Option aL:=λa=>(t (fz a)).bind λc=>if c=true then g a else u a
theorem QG(i:JT X c t)(j:KB X a g)(m:KB X b u):KS X (.If c a b pos) (cW t g u):=
 ⟨c7 (wB i.h j.h m.h)<|by
  rintro s v H ⟨d,O,o,R,e,q⟩
  refine bS e λk n e=>?_
  refine⟨fz d,k,R.fz,n,λw r=>?_⟩
  have S:=SO.of R.ls r
  cases k with
  | true=>rw[if_pos rfl]at e;exact⟨d,O,o,R.mono S,e,q.mono S.same⟩
  | false=>rw[if_neg bP]at e;exact⟨d,O,o,R.mono S,e,q.mono S.same⟩⟩
noncomputable def bp(i:Nat)(f:ar->Option D):ar->Option aL:=λa=>(f a).bind λd=>some (.aF (a.set i (some (.ai d))))
theorem QH(i:Nat)(b:X.N.Nodup)(h:eE X e fo)(j:X.N[i]?=some x)(m:Loc X.env.scope x)(n:gu e (some (.Name x a)) pos.line X.env=pure false)(r:X.fn x=true\/X.env.scope.names.lookup x=some .local):KS X (.Assign [.Name x a] e pos) (bp i fo):=
 ⟨c7 (oP b j m h.h n r)<|by
  rintro A B H ⟨s,O,o,R,e,q⟩
  refine bS e λd w e=>?_
  cases e
  exact⟨s,O,d,R,w,λv y S z=>q _ y O S.same ((R.mono S).set i z)⟩⟩
noncomputable def cX(i:Nat)(f:ar->Option (List D)):ar->Option aL:=λa=>(f a).bind λds=>some (.aF (a.set i (some (.own ds))))
theorem QI(i:Nat)(b:X.N.Nodup)(h:KF X e lo)(d:X.N[i]?=some x)(j:Loc X.env.scope x)(m:gu e (some (.Name x a)) pos.line X.env=pure false)(n:X.fn x=true\/X.env.scope.names.lookup x=some .local):KS X (.Assign [.Name x a] e pos) (cX i lo):=
 ⟨c7 (oP b d j h.h m n)<|by
  rintro A B H ⟨r,O,o,R,e,q⟩
  refine bS e λds s e=>?_
  cases e;refine⟨r,O,ds,R,s,λvs C p S v w=>?_⟩;obtain⟨y,z⟩:=(R.mono S).new i v w
  exact q _ _ _ (S.same.trans z) y⟩
noncomputable def el(i:Nat)(a:ar):Option (List D):=match a[i]? with
 | some (some (.ow none ds))=>some ds
 | _=>none
theorem mr{i:Nat}(h:el i a=some ds):a[i]?=some (some (.own ds)):=by
 unfold el at h
 cases q:a[i]? with
 | none=>rw[q]at h;cases h
 | some o=>
  rw[q]at h
  cases o with
  | none=>cases h
  | some y=>
   cases y with
   | xt κ es=>cases h
   | ai d=>cases h
   | ow κ es=>
    cases κ with
    | none=>cases h;rfl
    | some ks=>cases h
def c9(i:Nat)(f:ar->Option D):ar->Option aL:=λa=>(el i a).bind λds=>(f a).bind λd=>if ds.length<aB then some (.aF (a.set i (some (.own (ds++[d])))))else none
theorem QJ{b j:Pos}(i:Nat)(h:eE X e fo)(C:X.N[i]?=some x)(E:eN X.env.scope x)(hn:cO e=true)(G:(x==("__debug__":Str))=false)(s:(x==("__classdict__":Str))=false)(m:(b.endLine==j.line)=true):KS X (.Expr (.Call (.Attribute (.Name x np) "append" b) [e] [] j) pos) (c9 i fo):=
 ⟨c7 (oN (md ou Ax Ay tG (iU C E G s) (hE h.h iH (cf hn)) rfl (by rw[lA (show [e].all cO=true by rw[e_,hn];rfl)];rfl) m (cf hn) (ik rfl)) rfl)<|by
  rintro Dn σ H ⟨I,O,o,R,n,q⟩
  refine bS n λds J n=>?_
  refine bS n λd L n=>?_
  split at n
  case isFalse=>cases n
  rename_i hz;cases n
  have r:=mr J
  refine dq (R.own i ds r) λa vs w M Q e4=>?_
  refine⟨.ref a,w,.inl ⟨rfl,vs,b8.of Q⟩,I,O,d,R,L,λv H1 S T=>?_⟩
  have z:=R.mono S
  refine dq (z.own i ds r) λa' y A f2 U B=>?_
  rw[w]at A;cases A;refine⟨a,y,v,rfl,rfl,U,by rw[B.length];exact hz,?_⟩;obtain⟨R2,Y⟩:=z.chg r w M (B.snoc T)
  exact q _ _ O (by rw[Y];exact S.same) R2⟩
def ui(i:Nat)(f:ar->Option (List D)):ar->Option aL:=λa=>(el i a).bind λds=>(f a).bind λes=>if ds.length+es.length<=aB then some (.aF (a.set i (some (.own (ds++es)))))else none
theorem QK{d j:Pos}(i:Nat)(h:KF X e lo)(Q:X.N[i]?=some x)(T:eN X.env.scope x)(hn:cO e=true)(U:(x==("__debug__":Str))=false)(v:(x==("__classdict__":Str))=false)(m:(d.endLine==j.line)=true):KS X (.Expr (.Call (.Attribute (.Name x np) "extend" d) [e] [] j) pos) (ui i lo):=
 ⟨c7 (oN (md ou Y8 Y9 Zip (iU Q T U v) (hE h.h iH (cf hn)) rfl (by rw[lA (show [e].all cO=true by rw[e_,hn];rfl)];rfl) m (cf hn) (ik rfl)) rfl)<|by
  rintro Dn σ H ⟨Y,O,o,R,n,q⟩
  refine bS n λds h1 n=>?_
  refine bS n λes h2 n=>?_
  split at n
  case isFalse=>cases n
  rename_i hz;cases n
  have r:=mr h1
  refine dq (R.own i ds r) λa vs y e2 e3 e4=>?_
  refine⟨.ref a,y,.inl ⟨rfl,vs,b8.of e3⟩,Y,O,es,R,h2,λus G b S A I=>?_⟩
  have s:=R.mono S
  refine dq (s.own i ds r) λa' B J f2 L M=>?_
  rw[y]at J;cases J
  have C:a≠b:=jF L A
  have hbO:b∉O:=λz=>by obtain⟨ws,w,_⟩:=s.ls b z;rw[A]at w;cases w
  have E:SO G (upd G b (.lst us)) O:=SO.of s.ls (cE A _)
  have R2:=s.mono E
  refine⟨a,b,B,us,rfl,rfl,by rw[bz C];exact L,bG,by rw[M.length,I.length];exact hz,?_⟩;obtain⟨R3,hh⟩:=R2.chg r y e2 ((M.append I).mono E.same)
  exact q _ _ O (by rw[hh];exact S.same.trans E.same) R3⟩
def rn(i:Nat)(fi fv:ar->Option D):ar->Option aL:=λa=>(fv a).bind λd=>(fi a).bind λk=>(el i a).bind λds=>match k with
 | .int j=>(hH ds.length j).bind λm=>some (.aF (a.set i (some (.own (ds.set m d)))))
 | _=>none
theorem aC.set{K:aw}{H:Hp}{v:V}{d:D}(q:Rep K H v d):∀{vs:List V}{ds:List D}(m:Nat),aC K H vs ds->aC K H (vs.set m v) (ds.set m d)
 | _,_,_,.nil=>.nil
 | _,_,0,.cons _ t=>.cons q t
 | _,_,m+1,.cons r t=>.cons r (aC.set q m t)
end
section
variable {X:Cx}{e c tg:Expr}{st:Stmt}{rest:List Stmt}{pos p:Pos}{f:ae->Option D}{fo fi fv:ar->Option D}{g u:ar->Option aL}{x:Str}
theorem QL(i:Nat)(T:eE X e fv)(z:eE X r fi)(U:X.N[i]?=some x)(t:eN X.env.scope x)(Y:(x==("__debug__":Str))=false)(A:(x==("__classdict__":Str))=false)(ha:∀v,jW (.Subscript (.Name x np) r b) X.env v=(do
   let y<-holding [v] (eval (.Name x np) X.env)
   let B<-holding [v,y] (eval r X.env)
   standAt b
   holding [v,y,B] (setItem y B v)
   release [v,y,B] []):=by intro _;rfl) (hs:Ia [.Subscript (.Name x np) r b] e pos.line X.env=pure false) (hw:Ib [.Subscript (.Name x np) r b] e X.env=pure none) (h1:(f_ [.Subscript (.Name x np) r b] X.env).map (·.2)=[jW (.Subscript (.Name x np) r b) X.env]):KS X (.Assign [.Subscript (.Name x np) r b] e pos) (rn i fi fv):=
 ⟨c7 (Bm T.h (Kz (iU U t Y A) z.h L4 ha) hs hw h1)<|by
  rintro Dn σ H ⟨J,O,o,R,n,q⟩
  refine bS n λd q1 n=>?_
  refine bS n λk q2 n=>?_
  refine bS n λds q3 n=>?_
  cases k with
  | int j=>
   refine bS n λm q4 n=>?_
   cases n
   have s:=mr q3
   refine⟨J,O,d,R,q1,λv H1 L r1=>?_⟩
   have C:=R.mono L
   refine dq (C.own i ds s) λa vs E e2 e3 e4=>?_
   refine⟨.ref a,E,J,O,.int j,C,q2,λw H2 G r2=>?_⟩;cases r2
   have R2:=C.mono G
   refine dq (R2.own i ds s) λa' I M f2 f3 Q=>?_
   rw[E]at M;cases M;refine⟨a,I,j,m,rfl,rfl,f3,by rw[Q.length];exact q4,?_⟩;obtain⟨R3,hh⟩:=R2.chg s E e2 (aC.set (r1.mono G.same) m Q);exact q _ _ O (by rw[hh];exact L.same.trans G.same) R3
  | _=>cases n⟩
inductive KJ(K:aw)(H:Hp):It->List D->Prop
 | lst {a:Addr} {vs:List V} {ds:List D} (h:b8 K H a vs) (r:aC K H vs ds):KJ K H (tf K a) ds
 | tup {a:Addr} {vs:List V} {ds:List D} (h:cx K H a vs) (r:aC K H vs ds):KJ K H (ti K a) ds
 | str (x:Str):KJ K H (t6 x) (x.cps.toList.map λc=>D.str (sg c))
 | mV (lo:Int) (n:Nat):KJ K H (oR lo n) (b7 lo n)
 | x_ {a:Addr} {vs:List V} {ds:List D} (h:b8 K H a vs) (r:aC K H vs ds):KJ K H (t_ K a) (iK 0 ds)
noncomputable def ro(K:aw)(f:ae->Option (List D)):TI:=λb H R=>∃a ds,cb K H b a/\f a=some ds/\∀J H',av H H'->KJ K H' J ds->R J H'
structure JK(X:Cx)(tg e:Expr)(f:ae->Option (List D)):Prop where
 h:PI X tg e (ro X.K f)
 s:iY e=true
theorem QM(h:DE X e f):PI X tg e (ro X.K (bo f)):=by
 intro b s j H R I ⟨m,ds,n,i,q⟩
 refine bS i λd t i=>?_
 cases d with
 | lst xs=>
  cases i;refine tj h b s j H R I ⟨m,_,n,t,λv H' s r=>?_⟩
  cases r with
  | @lst a vs _ h' w=>exact⟨a,rfl,⟨vs,.inl h'⟩,q _ H' s (.lst (.inl h') w)⟩
 | tup xs=>
  cases i;refine Bn h b s j H R I ⟨m,_,n,t,λv H' s r=>?_⟩
  cases r with
  | @tup a vs _ h' w=>exact⟨a,rfl,⟨vs,h'⟩,q _ H' s (.tup h' w)⟩
 | aW ns=>
  cases i;refine tj h b s j H R I ⟨m,_,n,t,λv H' s r=>?_⟩
  cases r with
  | @aW a _ h'=>exact⟨a,rfl,⟨_,h'⟩,q _ H' s (.lst h' (oZ ns))⟩
 | str x=>
  cases i;refine C_ h b s j H R I ⟨m,_,n,t,λv H' s r=>?_⟩
  cases r with
  | str _ y=>exact⟨x,rfl,q _ H' s (.str x)⟩
 | _=>cases i
theorem QN(v:Gl X "range")(w:X.mg "range"=none)(y:DE X a fa)(m:bq [a] X.env=[(false,eval a X.env)]):PI X tg (.Call (.Name "range" p) [a] [] pos) (ro X.K (dD (ag [fa]))):=
 xR (Bp v w (ng y pa m) m)<|by
  rintro C H R ⟨z,ds,A,h,q⟩
  refine bS h λB i h=>?_
  refine⟨z,B,A,i,λvs H' s r=>?_⟩
  refine bS i λd E i=>?_
  cases i
  cases r with
  | cons r t=>
   cases t
   cases r with
   | int j=>
    have b:(if-(2 ^ 62)<=j/\j<2 ^ 62 then some (b7 0 j.toNat)else none)=some ds:=h
    split at b
    case isFalse=>cases b
    rename_i n;cases b;exact⟨j,rfl,n.1,n.2,q _ H' s (.mV 0 _)⟩
   | _=>cases h
theorem QO(A:Gl X "range")(B:X.mg "range"=none)(C:DE X a fa)(E:DE X b G)(y:bq [a,b] X.env=[(false,eval a X.env),(false,eval b X.env)])(h:bq [b] X.env=[(false,eval b X.env)]):
  PI X tg (.Call (.Name "range" p) [a,b] [] pos) (ro X.K (dD (ag [fa,G]))):=
 xR (K0 A B (ng C (ng E pa h) (by rw[y,h])) y h)<|by
  rintro O H R ⟨I,ds,J,n,q⟩
  refine bS n λL v n=>?_
  refine⟨I,L,J,v,λvs H' s r=>?_⟩
  refine bS v λd Q v=>?_
  refine bS v λM w v=>?_
  cases v
  refine bS w λd' T w=>?_
  cases w
  cases r with
  | cons r t=>
   cases t with
   | cons z t=>
    cases t
    cases r with
    | int i=>
     cases z with
     | int j=>
      have m:(if-(2 ^ 62)<=i/\i<2 ^ 62/\ -(2 ^ 62)<=j/\j<2 ^ 62 then some (b7 i (j-i).toNat)else none)=some ds:=n
      split at m
      case isFalse=>cases m
      rename_i N;cases m;exact⟨i,j,rfl,N,q _ H' s (.mV i _)⟩
     | _=>cases n
    | _=>first | cases n | (cases z<;>cases n)
theorem QP(C:Gl X "enumerate")(E:X.mg "enumerate"=none)(G:DE X a fa)(v:bq [a] X.env=[(false,eval a X.env)]):
  PI X (.Tuple w T y) (.Call (.Name "enumerate" p) [a] [] pos) (ro X.K (rj fa)):=by
 intro b s J H R I ⟨L,ds,M,j,q⟩
 refine bS j λd N j=>?_
 rw[bC]at j;obtain⟨ys,m,rfl⟩:=j;refine Call_ (jG I C E DL.boot_enumerate (oa (aK (ng G pa v pos b s J H (λvs i=>av H i/\aC X.K i vs [d]) I ⟨L,[d],M,by simp[o_,o4,N],λvs H' s r=>⟨s,r⟩⟩) λus U O=>?_) v rfl));obtain⟨vs,i,z,Q,A,n⟩:=O
 cases n with
 | cons r t=>
  cases t;obtain⟨u,rfl,B⟩:=gQ Q
  cases r with
  | @lst a vs ds h n=>
   cases m;cases B;exact Di z (.inl h) (q _ i A (.x_ (.inl h) n))
  | @aW a ns h=>
   cases m;cases B;exact Di z h (q _ i A (.x_ h (oZ ns)))
  | _=>cases m
def nA(K:aw)(J:It)(H:Hp)(O:List Addr)(ds:List D):Prop:=∀H' b,av (az H O) (az H' b)->jK H' b->
 (∀(i:Nat)(d:D),ds[i]?=some d->J.go i H'/\∀x a,J.oQ i H' x a->SO H' a b/\Rep K (az a b) x d)/\J.stop ds.length H'
theorem QQ{K:aw}{J:It}{H:Hp}{O:List Addr}{ds:List D}(h:KJ K (az H O) J ds):nA K J H O ds:=by
 intro H' C S Q
 cases h with
 | @lst a vs _ h r=>
  have b:=(S.trans (gR H' C)).seq h
  refine⟨λi d m=>?_,⟨vs,b,by rw[r.length];exact a5 _⟩⟩;obtain⟨v,B,E⟩:=r.get m;refine⟨⟨vs,v,b,B⟩,λx s t=>?_⟩;obtain⟨j,A⟩:=t;subst j
  have:=A vs b
  rw[B]at this;cases this;exact⟨SO.refl _ _,E.mono S⟩
 | @tup a vs _ h r=>
  have b:=nc (S.trans (gR H' C)) h
  refine⟨λi d m=>?_,⟨vs,b,by rw[r.length];exact a5 _⟩⟩;obtain⟨v,B,E⟩:=r.get m;refine⟨⟨vs,v,b,B⟩,λx s t=>?_⟩;obtain⟨j,A⟩:=t;subst j
  have:=A vs b
  rw[B]at this;cases this;exact⟨SO.refl _ _,E.mono S⟩
 | str x=>
  have w:=De (K:=K) (H:=az H' C) x
  obtain⟨G,I⟩:=w _ (av.refl _);refine⟨λi d m=>?_,I⟩;obtain⟨L,M⟩:=G i d m;refine⟨L,λy s t=>?_⟩;obtain⟨j,A⟩:=t;subst j;exact⟨SO.refl _ _,(M y _ ⟨rfl,A⟩).2⟩
 | mV lo n=>
  have w:=Df (K:=K) (H:=az H' C) lo n
  obtain⟨G,I⟩:=w _ (av.refl _);refine⟨λi d m=>?_,I⟩;obtain⟨L,M⟩:=G i d m;refine⟨L,λy s t=>?_⟩;obtain⟨j,A⟩:=t;subst j;exact⟨SO.refl _ _,(M y _ ⟨rfl,A⟩).2⟩
 | @x_ a vs ds h r=>
  have b:=(S.trans (gR H' C)).seq h
  refine⟨λi d m=>?_,⟨vs,b,by rw[js,r.length];exact a5 _⟩⟩;obtain⟨y,U,rfl⟩:=ua ds 0 i d m;obtain⟨v,B,E⟩:=r.get U;refine⟨⟨vs,v,b,B⟩,λx s t=>?_⟩;obtain⟨p,z,j,A,Y,e4⟩:=t
  have:=e4 vs b
  rw[B]at this;cases this;subst A Y
  have T:SO H' (upd H' p (.tup [.int i,v])) C:=SO.of Q (cE j _)
  have N:p∉C:=λw=>by obtain⟨us,q,_⟩:=Q p w;rw[j]at q;cases q
  refine⟨T,.tup (.of (by rw[cv N];exact bG)) (.cons ?_ (.cons ((E.mono S).mono T.same) .nil))⟩;rw[k1];exact .int _
def QR(K:aw)(g:D->ar->Option ar):TG:=λx h H Q=>∃b O d ρ',RO K H h b O/\Rep K (az H O) x d/\g d b=some ρ'/\∀a,RO K H a ρ' O->Q a H
def QS(K:aw)(g:List D->ar->Option ar):m2:=λxs d H Q=>∃b O ds ρ',RO K H d b O/\aC K (az H O) xs ds/\g ds b=some ρ'/\∀a,RO K H a ρ' O->Q a H
structure KG(X:Cx)(e:Expr)(g:D->ar->Option ar):Prop where
 h:PG X e (QR X.K g)
structure rp(X:Cx)(es:List Expr)(g:List D->ar->Option ar):Prop where
 h:oO X es (QS X.K g)
noncomputable def goN(i:Nat):D->ar->Option ar:=λd a=>some (a.set i (some (.ai d)))
noncomputable def iL:List D->ar->Option ar
 | [],a=>some a
 | _,_=>none
noncomputable def dg(g:D->ar->Option ar)(b:List D->ar->Option ar):List D->ar->Option ar
 | d::ds,h=>(g d h).bind λa=>b ds a
 | [],_=>none
noncomputable def iM(n:Nat)(a:List D->ar->Option ar):D->ar->Option ar
 | .tup ds,b=>if ds.length=n then a ds b else none
 | _,_=>none
theorem QT(i:Nat)(b:X.N.Nodup)(h:X.N[i]?=some x)(j:Loc X.env.scope x)(m:X.fn x=true\/X.env.scope.names.lookup x=some .local):KG X (.Name x pos) (goN i):=
 ⟨by rintro a s n H v u Q I r ⟨t,O,d,ρ',R,rd,e,q⟩;exact Bh b h j m a s n H v u Q I r (by cases e;exact q _ (R.set i rd))⟩
theorem QU:rp X [] iL:=⟨by
 intro a s b H xs us Q I r ⟨h,O,ds,ρ',R,rd,d,q⟩;refine Bi a s b H xs us Q I r ?_
 cases rd with
 | nil=>cases d;exact⟨rfl,q b R⟩
 | cons _ _=>cases d⟩
theorem QV{es:List Expr}{g:D->ar->Option ar}{i:List D->ar->Option ar}(j:KG X e g)(m:rp X es i)(n:(f_ (e::es) X.env).map (·.2)=jW e X.env::(f_ es X.env).map (·.2)):rp X (e::es) (dg g i):=⟨by
 intro a s v H xs us Q I r ⟨w,O,ds,ρ',R,rd,d,q⟩;refine Bj j.h m.h n a s v H xs us Q I r ?_
 cases rd with
 | nil=>cases d
 | cons y t=>
  refine bS d λb z d=>?_
  exact⟨_,_,rfl,w,O,_,b,R,y,z,λA B=>⟨b,O,_,ρ',B,t,d,q⟩⟩⟩
theorem QW{k n:Nat}(h:rp X es m)(z:X.calm=true)(hn:(f_ es X.env).length=n)(j:(f_ es X.env).findIdx? (·.1)=none):KG X (.Tuple es k pos) (iM n m):=⟨by
 intro i s A H v u Q I r ⟨t,O,d,ρ',R,rd,w,q⟩;refine Bl z h.h hn j i s A H v u Q I r ?_
 cases rd with
 | @tup a xs ds h' y=>
  have b:(if ds.length=n then m ds t else none)=some ρ':=w
  split at b
  case isFalse=>cases b
  rename_i B;exact⟨a,xs,rfl,nc (gR H O) h',by rw[y.length];exact B,t,O,ds,ρ',R,y,b,q⟩
 | _=>cases w⟩
noncomputable def c_(b:D->ar->Option ar)(gb:ar->Option aL):List D->ar->Option aL
 | [],h=>some (.aF h)
 | d::ds,h=>(b d h).bind λi=>(gb i).bind λo=>match o with
  | .aF a=>c_ b gb ds a
  | .cnt a=>c_ b gb ds a
  | .brk a=>some (.aF a)
  | .ret d=>some (.ret d)
def eG(fi:ae->Option (List D))(b:D->ar->Option ar)(gb:ar->Option aL):ar->Option aL:=λa=>(fi (pv a)).bind λds=>c_ b gb ds a
structure KW(X:Cx)(tg e:Expr)(f:ae->Option (List D)):Prop where
 h:PI X tg e (λσ H R=>∃ρ O ds,RO X.K H σ ρ O/\f (pv ρ)=some ds/\∀J H',SO H H' O->nA X.K J H' O ds->R J H')
 s:iY e=true
theorem DD{tg i:Expr}{f:ae->Option (List D)}{w:aw->Hp->It->List D->Prop}(M:PI X tg i (λy H R=>∃r ds,cb X.K H y r/\f r=some ds/\∀J H',av H H'->w X.K H' J ds->R J H'))(hw:∀H O J ds,w X.K (az H O) J ds->nA X.K J H O ds)(hn:iY i=true):KW X tg i f:=⟨by
 intro C s y H R I ⟨r,O,ds,t,N,q⟩
 refine aK (M _ s y (az H O) (λJ d=>av (az H O) d/\w X.K d J ds) (Inv.hide I t.ls) ⟨pv r,ds,t.pv,N,λJ d E A=>⟨E,A⟩⟩) λv E Q=>?_
 refine aK Q λU s2 G=>?_
 refine dd G λi Y tn j=>iE j λJ d e1 I1 T st m=>bK m λf1 n A=>?_;clear G j m
 obtain⟨J',hn⟩:=Inv.ue I t.ls I1 n
 have e:=x4 (H:=H) hn
 have S:SO H (lay H O d) O:=⟨by rw[e];exact n,λa ha=>gj ha⟩
 refine⟨i,Y,tn,J,lay H O d,e1,J',T,st,λb hb=>?_,q J _ S (hw _ _ _ _ (by rw[e];exact A))⟩
 refine g9 (f1 b hb) λj0 j1 j2 j3 j4 L=>?_
 have B:b∉O:=λz=>by
  obtain⟨vs,hl,hu⟩:=t.ls b z;obtain⟨_,q,_⟩:=Inv.nu I hl hu;exact L (b,_) (dR _ (dR _ (oS z q))) rfl
 refine⟨by rw[d9 B];exact j0,j1,j2,j3,j4,λp hp=>L p ?_⟩;rcases bW.mp hp with h | h
 ·exact gK _ h
 ·exact dR _ (gK _ h),hn⟩
def QX(fi:ar->Option (List D))(b:D->ar->Option ar)(gb:ar->Option aL):ar->Option aL:=λa=>(fi a).bind λds=>c_ b gb ds a
theorem DF{fi:ar->Option (List D)}(hi:PI X tg iter (λσ H R=>∃z O ds,RO X.K H σ z O/\fi z=some ds/\∀J H',SO H H' O->nA X.K J H' O ds->R J H'))(hs:iY iter=true)(hg:KG X tg N)(hb:KB X body gb)(hp:PassesOwn (model X.prog X.w) X.A X.env X.xe)(hc:X.calm=true):
  KS X (.For tg iter body [] pos) (QX fi N gb):=by
 refine⟨c7 (Br hp hc hi hg.h hb.h (nt hs)) λDn σ H zZ=>?_⟩;obtain⟨z,O,o,R,Q,q⟩:=zZ
 refine bS Q λds h1 Q=>?_
 refine⟨z,O,ds,R,h1,λJ H1 S1 wk=>?_⟩;refine⟨λi m r H'=>i<=ds.length/\m=ds.length-i/\∃ρ' j,RO X.K H' r ρ' j/\av (az H1 O) (az H' j)/\c_ N gb (ds.drop i) ρ'=some o,⟨ds.length,ef _,rfl,z,O,R.mono S1,av.refl _,Q⟩,?_⟩
 rintro i m r H' ⟨T,rfl,ρ',j,L,M,a⟩
 have U:nv X.K Dn H' j o:=q.mono (S1.same.trans M)
 by_cases n:i<ds.length
 ·right
  rw[Ap n]at a
  refine bS a λB h2 a=>?_
  refine bS a λo1 h3 a=>?_
  obtain⟨Y,hy⟩:=(wk H' j M L.ls).1 i ds[i] (c6 n);refine⟨Y,λC H2=>∃b O2,RO X.K H2 C b O2/\av (az H' j) (az H2 O2)/\c_ N gb (ds.drop (i+1)) b=some o,by rintro C H2 ⟨b,O2,R2,S2,e2⟩;exact⟨_,by omega,n,rfl,b,O2,R2,M.trans S2,e2⟩,λx H2 hx=>?_⟩;obtain⟨E,rx⟩:=hy x H2 hx;refine⟨ρ',j,ds[i],B,L.mono E,rx,h2,λO6 R3=>⟨B,j,o1,R3,h3,?_⟩⟩
  cases o1 with
  | aF b=>exactλs G I t y=>⟨b,I,y,E.same.trans t,a⟩
  | cnt b=>exactλs G I t y=>⟨b,I,y,E.same.trans t,a⟩
  | brk b=>cases a;exactλs G I t y=>U s G I (E.same.trans t) y
  | ret d=>cases a;exactλv G t y=>U v G (E.same.trans t) y
 ·left
  have xF:i=ds.length:=IG T (IH.mp n)
  subst xF;rw[II]at a;cases a;exact⟨(wk H' j M L.ls).2,U r H' j (av.refl _) L⟩
theorem QY{iter:Expr}{body:List Stmt}{fi:ae->Option (List D)}{b:D->ar->Option ar}{gb:ar->Option aL}(a:JK X tg iter fi)(d:KG X tg b)(i:KB X body gb)(j:PassesOwn (model X.prog X.w) X.A X.env X.xe)(m:X.calm=true):
  KS X (.For tg iter body [] pos) (eG fi b gb):=
 DF (DD a.h (λ_ _ _ _ h=>QQ h) a.s).h a.s d i j m
noncomputable def rq(f:ar->Option D)(g:D->ar->Option ar):ar->Option aL:=λa=>(f a).bind λd=>(g d a).bind λρ'=>some (.aF ρ')
theorem QZ(h:eE X e fo)(m:KG X tg n)(r:Ia [tg] e pos.line X.env=pure false)(hw:Ib [tg] e X.env=pure none)(s:(f_ [tg] X.env).map (·.2)=[jW tg X.env]):KS X (.Assign [tg] e pos) (rq fo n):=
 ⟨c7 (Bm h.h m.h r hw s)<|by
  rintro B C H ⟨i,O,o,R,a,q⟩
  refine bS a λd t a=>?_
  refine bS a λρ' w a=>?_
  cases a
  exact⟨i,O,d,R,t,λv y j z=>⟨i,O,d,ρ',R.mono j,z,w,λb A=>q b y O j.same A⟩⟩⟩
end
noncomputable def kz(n:Nat)(ds:List D):ar:=ds.map (λd=>some (.ai d))++z_ (n-ds.length) none
def eH(np ns:Nat)(g:ar->Option aL)(ds:List D):Option D:=if ds.length=np then(g (kz ns ds)).bind λo=>match o with
  | .ret d=>some d
  | .aF _=>some .ay
  | _=>none
 else none
theorem Q0{K:aw}{H:Hp}{N:List Str}{vs:List V}{ds:List D}(r:aC K H vs ds):RO K H (start N vs) (kz N.length ds) []:=by
 have f:=r.length
 have g:∀(i:Nat)(x:SD),(kz N.length ds)[i]?=some (some x)->∃d,ds[i]?=some d/\x=.ai d:=λi x h=>by
  unfold kz at h
  by_cases b:i<ds.length
  ·rw[jC (by simpa using b),bJ]at h
   cases q:ds[i]? with
   | none=>rw[q]at h;cases h
   | some d=>rw[q]at h;cases h;exact⟨d,rfl,rfl⟩
  ·rw[v7 (by simp;lia),ID]at h
   split at h<;>cases h
 refine⟨by simp[L2.start,kz,f],λa m=>(by cases m),λi d h=>?_,λi κ es h=>?_,λi j κ κ' es fs a h _ _ _=>?_,λi κ es h=>?_⟩
 ·obtain⟨d',c,e⟩:=g i _ h
  cases e;obtain⟨v,n,p⟩:=r.get c;refine⟨v,?_,by rw[lB];exact p⟩
  have b:i<ds.length:=(cA.mp c).1
  unfold L2.start;rw[jC (by simp[f];exact b),bJ,n]
  rfl
 all_goals
  obtain⟨d',c,e⟩:=g i _ h;cases e
theorem Q1{P:a6}{w:World}{K:aw}{p:Str->Option Value}{base:Heap}{x b:Str}{st:Stmt}{f:Addr}{t:d7}{N ps:List Str}{k np ns:Nat}{g:ar->Option aL}(Fn:kl K x b st f t)(S:m5 N ps (dF st))(u:ps.length=np)(hn:N.length=ns)
  (i:∀(c:Value)(A:a8)(a:List Env)(s:ao)(H:Hp)(E:XK),bL k (A.deeper (iR b (dF st) s.heap.objs.size f c))->KB (jh dG P w K p base N b (dF st) f c A a s H E).ki (iV st) g):
  dS P w K p base dG (k+1) f t ps (ko K (eH np ns g)):=by
 subst u hn
 have hlen:∀{ds:List D}{d:D},eH ps.length N.length g ds=some d->ds.length=ps.length/\∃o,g (kz N.length ds)=some o/\(match o with | .ret d=>some d | .aF _=>some .ay | _=>none)=some d:=λ{ds d} h=>by
  unfold eH at h
  split at h
  case isFalse=>cases h
  rename_i y
  refine bS h λo n j=>?_
  exact⟨y,o,n,j⟩
 refine Fn.ok S (by rintro vs H Q E ⟨ds,d,r,e,_⟩;rw[r.length];exact(hlen e).1) (λc A a s H vs Q E z h=>?_)
 refine cM h λds d r e q=>?_;clear h
 refine bX (hlen e) λ_ m=>b5 m λo n j=>?_;clear m
 refine⟨_,(i c A a s H E z).h,kz N.length ds,[],o,Q0 r,n,?_⟩
 cases o with
 | ret d'=>cases j;exactλv H' s B=>q v H' (by rw[lB]at s;exact s) B
 | aF I=>cases j;exactλC H' G s _=>q .ay H' (by rw[lB]at s;exact s.trans (gR H' G)) .ay
 | _=>cases j
noncomputable def txt:Value->Str
 | .str x _=>x
 | _=>default
noncomputable def gS(ks:List Str)(x:Str):List Str:=if x∈ks then ks else ks++[x]
def DH(w:World)(o:Obj)(ks:List Str):Prop:=
 ∃es a t,o.ExactSet/\o.data=.set es a t/\(∀e∈es.toList,∃x tk,e=(jT w x,i9 x tk))/\(es.toList.map λe=>txt e.2).Perm ks/\ks.length<jc/\t.fits es.size=true∧
  t.led=!w.params.followText "set-order"/\(es.size≠0->t.plain=false)
def gf(w:World)(h:Heap)(a:Addr)(ks:List Str):Prop:=∃o,h.get? a=some o/\DH w o ks
theorem Q2(t:k3)(n:Nat):(t.orStandIn n).led=t.led:=by
 unfold SetTable.orStandIn
 split<;>rfl
theorem Q3(t:k3)(es:Array (Int × Value))(h:Int)(x:Value):(layNew t es h x).2.1.led=t.led:=by
 unfold layNew
 split
 ·exact Q2 _ _
 ·rfl
theorem Q4(t:k3)(es:Array (Int × Value))(a:Nat):(ov t es a).2.1.led=t.led:=by
 unfold ov
 split
 ·rename_i t' b h
  have:t'.led=t.led:=by
   unfold Y_ Za at h;simp only[Zb,Zc,Zd,IE]at h;obtain⟨_,_,h⟩:=h;cases h
   rfl
  dsimp only
  split
  ·exact this
  ·rfl
 ·rfl
theorem Q5(t:k3)(es:Array (Int × Value))(a:Nat)(c:t.plain=false):(ov t es a).2.1.plain=false:=by
 unfold ov
 split
 ·rename_i t' b h
  have:t'.plain=t.plain:=by
   unfold Y_ Za at h;simp only[Zb,Zc,Zd,IE]at h;obtain⟨_,_,h⟩:=h;cases h
   rfl
  dsimp only
  split
  ·rw[this];exact c
  ·rfl
 ·rfl
section
variable {prog:a6}{w:World}{A:a8}{E:Value->ao->Prop}{s:ao}
theorem Q6(h:∀e∈es,∃x tk,e=(jT w x,i9 x tk)):ElemsOf (j_ prog w) es:=λe a=>by
 obtain⟨x,tk,rfl⟩:=h e a;exact⟨⟨x,by simp[j_,qd],rfl⟩,rfl⟩
theorem uj{es:Array (Int × Value)}{ks:List Str}(h:(es.toList.map λe=>txt e.2).Perm ks):es.size=ks.length:=by
 have:=h.length_eq
 simpa using this
theorem DJ{g:Bool->Sem Unit}(U:∀(b:Bool)(j:ao)(Q:Unit->ao->Prop),Q () j->wpAny (model prog w) A (g b) Q E j)
  {a:Addr} {o:Obj} {es:Array (Int × Value)} {I:Nat} {t:k3} (T:s.heap.get? a=some o) (hex:o.ExactSet) (J:o.data=.set es I t)
  {c:Array (Int × Value)} {d:k3} {ks:List Str} (m:∀e∈c.toList,∃x tk,e=(jT w x,i9 x tk)) (r:(c.toList.map λe=>txt e.2).Perm ks) (u:ks.length<jc)
  (L:d.fits c.size=true) (n:d.led=!w.params.followText "set-order") (G:d.plain=false) {i:Bool} {R:Option Bool->ao->Prop}
  (h:∀h',lV a s.heap h'->gf w h' a ks->R (some true) { s with heap:=h' }):
  wpAny (model prog w) A (do
    storeSet a c d
    if(!i&&d.tooFull)=true then do
      g (ov d c (ox c.size)).2.2
      storeSet a (ov d c (ox c.size)).1 (ov d c (ox c.size)).2.1
      pure (some true)
     else pure (some true)) R E s:=by
 have p:c.size<jc:=by rw[uj r];exact u
 have v:(s.heap.update a (sN c d)).get? a=some { o with data:=.set c (I+1) d }:=by
  have:=lY (sN c d) T (by rw[Az c d J];rfl)
  rw[Az c d J]at this;exact this
 refine wpAny_bind (Ze T J ?_ (AA p))
 have q:=l4 s.heap a (sN c d)
 split
 ·have H:=relayAll_perm d c (ox c.size)
  have y:=relayAll_fits d c (ox c.size)
  have z:=Q4 d c (ox c.size)
  have B:=Q5 d c (ox c.size) G
  generalize Y:ov d c (ox c.size)=Rl at H y z B ⊢
  obtain⟨f,C,M⟩:=Rl
  dsimp only at H y z B ⊢
  have hsz:f.size=c.size:=by rw[<-mQ,H.length_eq,mQ]
  have N:f.size<jc:=by rw[hsz];exact p
  refine wpAny_bind (U _ _ _ ?_);refine wpAny_bind (Ze v rfl ?_ (AA N))
  have O:((s.heap.update a (sN c d)).update a (sN f C)).get? a=some { o with data:=.set f (I+1+1) C }:=by
   have:=lY (sN f C) v (by rw[Az f C rfl];rfl)
   rw[Az f C rfl]at this;exact this
  exact wpAny_pure (h _ (q.trans (l4 _ a _)) ⟨_,O,f,_,C,hex,rfl,λe he=>m e (H.mem_iff.mp he),(H.map _).trans r,u,y,z.trans n,λ_=>B⟩)
 ·exact wpAny_pure (h _ q ⟨_,v,c,_,d,hex,rfl,m,r,u,L,n,λ_=>G⟩)
theorem Q7{ks:List Str}(hS:gf w s.heap a ks)(g:ks.length+1<jc)(h:∀b h',lV a s.heap h'->gf w h' a (gS ks x)->Q b { s with heap:=h' }):
  wpAny (model prog w) A (setAddHashed a (.str x tk) (jT w x)) Q E s:=by
 obtain⟨o,J,es,ep,t,hex,M,i,m,N,hf,n,Q8⟩:=hS
 have O:ElemsOf (j_ prog w) es.toList:=Q6 i
 have T:(j_ prog w).is x (.str x tk)=true:=by simp[j_,qd]
 have U:(i9 x tk).scannable=true:=rfl
 have hb:es.size<jc:=by rw[uj m];exact N
 have lx:es.size+1<jc:=by rw[uj m];exact g
 unfold setAddHashed setAddHashedIn;refine wpAny_holding (wpAny_bind (l5 J M hf ?_))
 dsimp only
 rw[byScan_of U hb O];simp only[↓reduceIte];unfold setAddByScan;refine wpAny_bind ?_;refine wpAny_bind (wpAny_rule ?_);refine wpAny_bind (wpAny_setScan_of (knd:=j_ prog w) T J M hf O ?_)
 have u:∀y,y∈ks↔∃e∈es.toList,(j_ prog w).is y e.2=true:=λy=>by
  rw[<-m.mem_iff,aO]
  constructor
  ·rintro⟨e,p,rfl⟩
   obtain⟨x',Y,rfl⟩:=i e p;exact⟨_,p,by simp[j_,qd,txt]⟩
  ·rintro⟨e,p,q⟩
   obtain⟨x',Y,rfl⟩:=i e p;refine⟨_,p,?_⟩;obtain⟨t',q'⟩:=Yf (show qd y (.str x' Y)=true from q);cases q'
   rfl
 cases hr:List.findIdx? (λe=>(j_ prog w).is x e.2) es.toList with
 | some j=>
  dsimp only
  obtain⟨hj,Q9,_⟩:=List.findIdx?_eq_some_iff_getElem.mp hr
  have hx:x∈ks:=(u x).mpr ⟨es.toList[j],AD hj,Q9⟩
  refine wpAny_pure (wpAny_pure ?_)
  have e:s={ s with heap:=s.heap }:=by cases s;rfl
  rw[e];exact h _ _ (Zsz a s.heap) ⟨o,J,es,ep,t,hex,M,i,by unfold gS;rw[if_pos hx];exact m,by unfold gS;rw[if_pos hx];exact N,hf,n,Q8⟩
 | none=>
  dsimp only
  have hx:x∉ks:=λhk=>by
   obtain⟨e,p,hp⟩:=(u x).mp hk
   have:=List.findIdx?_eq_none_iff.mp hr e p;rw[hp]at this;exact Bool.noConfusion this
  have Q_:∀(b:Bool){f:ao}{Q':Unit->ao->Prop},Q' () f->wpAny (model prog w) A (match b with | true=>rule "set.scan.the-table-gave-way" | false=>pure ()) Q' E f:=
   λb f Q' v=>by cases b<;>first | exact wpAny_pure v | exact wpAny_rule v
  have c:=layNew_perm t es (jT w x) (.str x tk)
  have d:=layNew_fits t es (jT w x) (.str x tk)
  have r:=Q3 t es (jT w x) (.str x tk)
  show wpAny (model prog w) A _ _ E s
  have hh:(j_ prog w).hash x=jT w x:=rfl
  try rw[hh]
  generalize hL:layNew t es (jT w x) (.str x tk)=L at c d r ⊢
  obtain⟨DK,t1,I,Zsr⟩:=L
  dsimp only at c d r ⊢
  rw[Zf]at c
  have z:∀e∈DK.toList,∃x tk,e=(jT w x,i9 x tk):=λe p=>by
   rcases bW.mp (c.mem_iff.mp p)with q | q
   ·exact i e q
   ·rw[br]at q;exact⟨x,tk,q⟩
  have B:(DK.toList.map λe=>txt e.2).Perm (gS ks x):=by
   unfold gS;rw[if_neg hx];refine(c.map _).trans ?_;rw[cU];exact m.append_right _
  have C:(gS ks x).length<jc:=by unfold gS;rw[if_neg hx,bQ];exact g
  refine wpAny_bind (Q_ _ ?_)
  split
  ·refine wpAny_bind ?_
   rw[hashByValue_scannable 8 U];refine wpAny_pure ?_;refine DJ ?_ J hex M z B C ?_ ?_ ?_ ?_
   ·intro b f Q' v;cases b<;>first | exact wpAny_pure v | exact wpAny_rule v
   ·exact SetTable.fits_plain_off d
   ·exact r.trans n
   ·rfl
   ·intro h' G H;dsimp only;exact wpAny_pure (h _ h' G H)
  ·rename_i ya
   refine wpAny_bind (wpAny_pure ?_);simp only[↓reduceIte];refine DJ ?_ J hex M z B C d ?_ ?_ ?_
   ·intro b f Q' v;cases b<;>first | exact wpAny_pure v | exact wpAny_rule v
   ·exact r.trans n
   ·exact jE.mpr ya
   ·intro h' G H;dsimp only;exact wpAny_pure (h _ h' G H)
end
def du(xs:List Str):List Str:=xs.foldl gS []
theorem Ra(ks:List Str)(x:Str):(gS ks x).length<=ks.length+1:=by
 unfold gS;split
 ·lia
 ·rw[bQ];exact a5 _
theorem DM:∀(xs ks:List Str),(xs.foldl gS ks).length<=ks.length+xs.length
 | [],ks=>a5 _
 | x::xs,ks=>by
  have:=DM xs (gS ks x)
  have:=Ra ks x
  rw[AE,bR];lia
theorem uk(xs:List Str):(du xs).length<=xs.length:=by
 have:=DM xs []
 simpa [du]using this
noncomputable def pq(w:World):Obj:={ cls:=.type "set",dict:=none,data:=.set #[] 0 (.fresh 0 0 (!w.params.followText "set-order")) }
theorem DN:DH w (pq w) []:=⟨#[],0,_,⟨rfl,rfl,rfl⟩,rfl,λe a=>by simp at a,.nil,by decide,rfl,rfl,λh=>absurd rfl h⟩
section
variable {prog:a6}{w:World}{A:a8}{R:Result->ao->Prop}{I:Addr}{fp wr:List Addr}{G:Array z5->Array z5->Prop}{n:Nat}{P:Nat->Value->Prop}{St:Nat->ao->Prop}
theorem DP(W:WalksS prog w A.in1 I fp wr G n P St)(S:Addr)(j:S∉fp)
  (xs:List Str) (hn:xs.length=n) (m:∀i v,P i v->∃t,v=.str (xs.getD i default) t) (g:n+1<jc):
  ∀(k i:Nat)(s:ao),n-i=k->i<=n->St i s->gf w s.heap S (du (xs.take i))->
   (∀a,Moved (S::wr) G s a->gf w a.heap S (du xs)->R (.ok (.ret .none)) a)->
   qm (model prog w) A (.builtin "set.update.loop" ⟨[.ref S,.ref I],[]⟩) R s:=by
 have p:S∉wr:=λh=>j (W.sub _ h)
 have c:∀b∈wr,b∈S::wr:=λb g=>bV _ g
 intro k
 induction k with
 | zero=>
  intro i s N O d E hR
  have H:i=n:=by lia
  subst H;refine mU Zg ?_;rw[qy IP _]
  show wpAny _ A.in1 (jX (.ref I)>>=_) _ _ s
  refine wpAny_bind (W.done s _ _ d λa q=>?_)
  show wpAny _ A.in1 (ret dc) _ _ a
  refine wpAny_pure (hR a (q.mono c) ?_);obtain⟨o,J,rest⟩:=E;rw[<-hn,k0]at rest;exact⟨o,q.heap S _ p J,rest⟩
 | succ k Q=>
  intro i s N O d E hR
  have r:i<n:=by lia
  refine mU Zg ?_;rw[qy IP _]
  show wpAny _ A.in1 (jX (.ref I)>>=_) _ _ s
  refine wpAny_bind (W.item i s _ _ r d λv a T u q=>?_);obtain⟨t,rfl⟩:=m i v T
  have L:gf w a.heap S (du (xs.take i)):=by
   obtain⟨o,J,rest⟩:=E;exact⟨o,q.heap S _ p J,rest⟩
  show wpAny _ A.in1 (holding [i9 (xs.getD i default) t] (setAdd S (.str (xs.getD i default) t))>>=_) _ _ a
  refine wpAny_bind (wpAny_holding ?_);unfold setAdd;refine wpAny_holding ?_;refine wpAny_bind ((j_ prog w).pyHash (k:=xs.getD i default) (by simp[j_,qd]) ?_)
  have f:(du (xs.take i)).length+1<jc:=by
   have:=uk (xs.take i)
   rw[lW]at this
   lia
  refine Q7 (s:={ a with toks:=a.toks+1 }) L f λb h' x y=>?_
  have e:du (xs.take (i+1))=gS (du (xs.take i)) (xs.getD i default):=by
   have z:i<xs.length:=by lia
   unfold du;rw[l6,IQ,c6 z]
   simp[j9,c6 z]
  rw[<-e]at y;refine wpAny_pure ⟨sO IP _,Q (i+1) _ (by lia) r (W.frame _ a _ _ u (iS _) λb g o e=>?_) y λM B C=>?_⟩
  ·rw[x.2 b (λh:b=S=>j (by rw[<-h];exact g))];exact e
  ·refine hR M (Moved.trans W.gtrans ((q.mono c).then_heap (iS _) λb o g e=>?_) B) C
   rw[x.2 b (λh:b=S=>g (by rw[h];exact bg))];exact e
end
section
variable {prog:a6}{w:World}{A:a8}{E:Value->ao->Prop}{s:ao}
theorem DQ(a:Value)(h:Q₁ (.ref s.heap.objs.size) { s with heap:=s.heap.push (pq w) }):
  qm (model prog w) A (.call (.builtin "set.__new__") ⟨[.type "set",a],[]⟩) (IS Q₁ E) s:=by
 refine IT ?_
 show wpAny _ A.in1 (do checkBuiltinCall "set.__new__" ⟨[.type "set",a],[]⟩;again (.builtin "set.__new__" ⟨[.type "set",a],[]⟩)) _ _ s
 refine wpAny_bind (AF (PySem.F.newCall_set_1 a) (wpAny_pure ⟨sO Zh _,mU F.entry_set_new ?_⟩));rw[qy Zh _];unfold Builtin.«set.__new__» ZsA
 have b:=sub_set_self
 obtain⟨c,g,d,tk,os⟩:=s
 dsimp only
 wp_walk
 refine IU (wpAny_pure ?_)
 dsimp only
 simp only[newObj];refine wpAny_bind (wpAny_alloc (wpAny_pure ?_));exact wpAny_pure h
namespace F2
theorem sub_tuple_set:AG (.type "tuple") (.type "set")=pure false:=by rw[v_];kernel_rfl
theorem sub_tuple_frozenset:AG (.type "tuple") (.type "frozenset")=pure false:=by rw[v_];kernel_rfl
end F2
theorem Rb{a:Array Value}{xs:List Str}(hh:A.handled=none)(hl:s.heap.IsList l a)(hlen:xs.length=a.size)(hi:∀(i:Nat)(v:Value),a[i]?=some v->∃t,v=.str (xs.getD i default) t)(M:a.size+1<jc)(h:∀(h':Heap)(tk:Nat),gf w h' s.heap.objs.size (du xs)->
   (∀b o,b<s.heap.objs.size->s.heap.get? b=some o->h'.get? b=some o)->Q (.ref s.heap.objs.size) { s with heap:=h',toks:=tk }):
  wpAny (model prog w) A (call (.type "set") [.ref l]) Q E s:=by
 obtain⟨c,tl,Rc⟩:=iD.mro
 have O:=iD.made
 have Rf:=iD.sub
 refine Ig (IT ?_)
 show wpAny _ _ (callAny (.type "set") _) _ _ _
 refine wpAny_pure ⟨Zi _ (by decide+kernel),mU Zj ?_⟩;rw[Zk (Zl "set" [.ref l] []) rfl]
 have h1:=iD.notType
 have h2:=iD.canCreate
 have Rg:=Zm (.ref l)
 repeat (any_goals (first | assumption | wp_step))
 refine qo (DQ (.ref l) (E:=E) (Q₁:=λu j=>u=.ref s.heap.objs.size/\j={ s with heap:=s.heap.push (pq w) }) ⟨rfl,rfl⟩) λr j T=>?_
 cases r with
 | error e=>exact T
 | ok fl=>
  cases fl with
  | ret u=>
   obtain⟨rfl,rfl⟩:=T;obtain⟨d,x⟩:∃d:Bool,d=!w.params.followText "set-order":=⟨_,rfl⟩
   have y:pq w=({ cls:=.type "set",dict:=none,data:=.set #[] 0 (.fresh 0 0 d) }:Obj):=by rw[x];rfl
   rw[y]
   have hS:(s.heap.push ({ cls:=.type "set",dict:=none,data:=.set #[] 0 (.fresh 0 0 d) }:Obj)).get? s.heap.objs.size=some ({ cls:=.type "set",dict:=none,data:=.set #[] 0 (.fresh 0 0 d) }:Obj):=cL _ rfl
   have hT:wb { s with heap:=s.heap.push ({ cls:=.type "set",dict:=none,data:=.set #[] 0 (.fresh 0 0 d) }:Obj) } (.ref s.heap.objs.size) "set":=⟨_,hS,rfl⟩
   have Rh:=iD.init.lookup
   have Ri:=iD.init.bind (.ref s.heap.objs.size)
   repeat (any_goals (first | assumption | wp_step))
   refine qo (Zn (R:=IS (λr m=>r=.none/\∃h' tk,m={ s with heap:=h',toks:=tk }/\gf w h' s.heap.objs.size (du xs)∧
     (∀b o,b<s.heap.objs.size->s.heap.get? b=some o->h'.get? b=some o)) E) iD.init.plain Zo (Zp hT ?_)) λz m f=>?_
   ·obtain⟨ol,B,C,nl,G⟩:=hl
    obtain⟨Rj,n,U,g⟩:=ol;simp only at C G
    subst C;subst G
    have H:(s.heap.push ({ cls:=.type "set",dict:=none,data:=.set #[] 0 (.fresh 0 0 d) }:Obj)).get? l=some { cls:=.type "list",dict:=n,data:=.seq a nl,slots:=g }:=bx _ B
    have Rk:=PySem.F.sub_list_set
    have Rm:=PySem.F.sub_list_frozenset
    have Dh:(qe "list"==qe "dict")=false:=by decide
    have I:(s.heap.push ({ cls:=.type "set",dict:=none,data:=.set #[] 0 (.fresh 0 0 d) }:Obj)).IsList l a:=⟨_,H,rfl,nl,rfl⟩
    unfold Builtin.«set.__init__» noKeywords Zq
    generalize Y:mO=PI
    wp_walk
    subst Y;refine Ic I ?_;refine wpAny_bind (AH ?_)
    have J:l<s.heap.objs.size:=bh B
    have yb:A.in1.in1.in1.handled=none:=by simp[hh]
    have L:l≠(s.heap.push ({ cls:=.type "set",dict:=none,data:=.set #[] 0 (.fresh 0 0 d) }:Obj)).objs.size:=by
     rw[kZ];exact bO (j7 J)
    have yc:s.heap.objs.size∉[(s.heap.push ({ cls:=.type "set",dict:=none,data:=.set #[] 0 (.fresh 0 0 d) }:Obj)).objs.size,l]:=by
     rw[kZ];simp only[a9,br,kb,or_false,not_or]
     exact⟨bO (v8 _),qh J⟩
    refine DP ((YZ yb _ l L a).toS) s.heap.objs.size
     yc xs hlen hi M (a.size-0) 0 _ (rfl) (ef _)
     ⟨⟨_,cL _ rfl,rfl,rfl⟩,(I.push _)⟩ ?yd ?hR
    case yd=>exact⟨_,bx _ hS,y▸DN⟩
    case hR=>
     intro s' N p;obtain⟨h',g',d',ye,yf⟩:=s'
     have eg:g'=s.gens:=N.gens
     have ed:d'=s.drawn:=N.drawn
     have eo:yf=s.os:=N.os
     subst eg;subst ed;subst eo
     show wpAny _ _ _ _ _ _
     refine wpAny_pure ?_
     show wpAny _ _ (ret dc) _ _ _
     refine wpAny_pure ⟨rfl,h',ye,rfl,p,λb o M e=>?_⟩
     have lx:b≠s.heap.objs.size:=bO M
     have yg:b≠(s.heap.push ({ cls:=.type "set",dict:=none,data:=.set #[] 0 (.fresh 0 0 d) }:Obj)).objs.size:=by
      rw[kZ];exact bO (j7 M)
     exact N.heap b o (by simp only[a9,br,kb,or_false,not_or];exact⟨lx,yg⟩) (bx _ (bx _ e))
   ·cases z with
    | error e=>exact f
    | ok q=>
     cases q with
     | ret r=>
      obtain⟨rfl,h',tk,rfl,p,ku⟩:=f
      repeat (any_goals (first | assumption | wp_step))
      exact h _ _ p ku
     | _=>exact f.elim
  | _=>exact T.elim
end
end DL
namespace DL
open PySem PySem.Spec PyProof.Rows L2
section
variable {prog:a6}{w:World}{A:a8}{E:Value->ao->Prop}{s:ao}
theorem Rn{a:Array Value}{xs:List Str}(hh:A.handled=none)(hl:s.heap.IsTuple l a)(hlen:xs.length=a.size)(hi:∀(i:Nat)(v:Value),a[i]?=some v->∃t,v=.str (xs.getD i default) t)(M:a.size+1<jc)(h:∀(h':Heap)(tk:Nat),gf w h' s.heap.objs.size (du xs)->
   (∀b o,b<s.heap.objs.size->s.heap.get? b=some o->h'.get? b=some o)->Q (.ref s.heap.objs.size) { s with heap:=h',toks:=tk }):
  wpAny (model prog w) A (call (.type "set") [.ref l]) Q E s:=by
 obtain⟨c,tl,Rc⟩:=iD.mro
 have O:=iD.made
 have Rf:=iD.sub
 refine Ig (IT ?_)
 show wpAny _ _ (callAny (.type "set") _) _ _ _
 refine wpAny_pure ⟨Zi _ (by decide+kernel),mU Zj ?_⟩;rw[Zk (Zl "set" [.ref l] []) rfl]
 have h1:=iD.notType
 have h2:=iD.canCreate
 have Rg:=Zm (.ref l)
 repeat (any_goals (first | assumption | wp_step))
 refine qo (DQ (.ref l) (E:=E) (Q₁:=λu j=>u=.ref s.heap.objs.size/\j={ s with heap:=s.heap.push (pq w) }) ⟨rfl,rfl⟩) λr j T=>?_
 cases r with
 | error e=>exact T
 | ok fl=>
  cases fl with
  | ret u=>
   obtain⟨rfl,rfl⟩:=T;obtain⟨d,x⟩:∃d:Bool,d=!w.params.followText "set-order":=⟨_,rfl⟩
   have y:pq w=({ cls:=.type "set",dict:=none,data:=.set #[] 0 (.fresh 0 0 d) }:Obj):=by rw[x];rfl
   rw[y]
   have hS:(s.heap.push ({ cls:=.type "set",dict:=none,data:=.set #[] 0 (.fresh 0 0 d) }:Obj)).get? s.heap.objs.size=some ({ cls:=.type "set",dict:=none,data:=.set #[] 0 (.fresh 0 0 d) }:Obj):=cL _ rfl
   have hT:wb { s with heap:=s.heap.push ({ cls:=.type "set",dict:=none,data:=.set #[] 0 (.fresh 0 0 d) }:Obj) } (.ref s.heap.objs.size) "set":=⟨_,hS,rfl⟩
   have Rh:=iD.init.lookup
   have Ri:=iD.init.bind (.ref s.heap.objs.size)
   repeat (any_goals (first | assumption | wp_step))
   refine qo (Zn (R:=IS (λr m=>r=.none/\∃h' tk,m={ s with heap:=h',toks:=tk }/\gf w h' s.heap.objs.size (du xs)∧
     (∀b o,b<s.heap.objs.size->s.heap.get? b=some o->h'.get? b=some o)) E) iD.init.plain Zo (Zp hT ?_)) λz m f=>?_
   ·obtain⟨ol,B,C,nl,G⟩:=hl
    obtain⟨Rj,n,U,g⟩:=ol;simp only at C G
    subst C;subst G
    have H:(s.heap.push ({ cls:=.type "set",dict:=none,data:=.set #[] 0 (.fresh 0 0 d) }:Obj)).get? l=some { cls:=.type "tuple",dict:=n,data:=.seq a nl,slots:=g }:=bx _ B
    have Rk:=F2.sub_tuple_set
    have Rm:=F2.sub_tuple_frozenset
    have Dh:(qe "tuple"==qe "dict")=false:=by decide
    have I:(s.heap.push ({ cls:=.type "set",dict:=none,data:=.set #[] 0 (.fresh 0 0 d) }:Obj)).IsTuple l a:=⟨_,H,rfl,nl,rfl⟩
    unfold Builtin.«set.__init__» noKeywords Zq
    generalize Y:mO=PI
    wp_walk
    subst Y;refine Ie I ?_;refine wpAny_bind (AH ?_)
    have J:l<s.heap.objs.size:=bh B
    have yb:A.in1.in1.in1.handled=none:=by simp[hh]
    have L:l≠(s.heap.push ({ cls:=.type "set",dict:=none,data:=.set #[] 0 (.fresh 0 0 d) }:Obj)).objs.size:=by
     rw[kZ];exact bO (j7 J)
    have yc:s.heap.objs.size∉[(s.heap.push ({ cls:=.type "set",dict:=none,data:=.set #[] 0 (.fresh 0 0 d) }:Obj)).objs.size,l]:=by
     rw[kZ];simp only[a9,br,kb,or_false,not_or]
     exact⟨bO (v8 _),qh J⟩
    refine DP ((Y0 yb _ l L a).toS) s.heap.objs.size
     yc xs hlen hi M (a.size-0) 0 _ (by omega) (ef _)
     ⟨⟨_,cL _ rfl,rfl,rfl⟩,(I.push _)⟩ ?yd ?hR
    case yd=>exact⟨_,bx _ hS,y▸DN⟩
    case hR=>
     intro s' N p;obtain⟨h',g',d',ye,yf⟩:=s'
     have eg:g'=s.gens:=N.gens
     have ed:d'=s.drawn:=N.drawn
     have eo:yf=s.os:=N.os
     subst eg;subst ed;subst eo
     show wpAny _ _ _ _ _ _
     refine wpAny_pure ?_
     show wpAny _ _ (ret dc) _ _ _
     refine wpAny_pure ⟨rfl,h',ye,rfl,p,λb o M e=>?_⟩
     have lx:b≠s.heap.objs.size:=bO M
     have yg:b≠(s.heap.push ({ cls:=.type "set",dict:=none,data:=.set #[] 0 (.fresh 0 0 d) }:Obj)).objs.size:=by
      rw[kZ];exact bO (j7 M)
     exact N.heap b o (by simp only[a9,br,kb,or_false,not_or];exact⟨lx,yg⟩) (bx _ (bx _ e))
   ·cases z with
    | error e=>exact f
    | ok q=>
     cases q with
     | ret r=>
      obtain⟨rfl,h',tk,rfl,p,ku⟩:=f
      repeat (any_goals (first | assumption | wp_step))
      exact h _ _ p ku
     | _=>exact f.elim
  | _=>exact T.elim
end
namespace F2
theorem Ro:sC (.type "set_iterator") "__next__"=pure (some (.builtin "set_iterator.__next__")):=by rw[AI,AJ];kernel_rfl
theorem Rp:sC (.type "set_iterator") "__iter__"=pure (some (.builtin "set_iterator.__iter__")):=by rw[AI,AJ];kernel_rfl
theorem DR:AG (.type "set_iterator") (.type "set_iterator")=pure true:=by rw[v_];kernel_rfl
theorem jt:Slot "set_iterator" "__next__" "set_iterator.__next__":=
 Slot.of (owner:="set_iterator") (n:="__next__") Ro (by decide+kernel) (by decide+kernel) (by decide+kernel) (.inl (by decide+kernel)) DR
theorem DU:Slot "set_iterator" "__iter__" "set_iterator.__iter__":=
 Slot.of (owner:="set_iterator") (n:="__iter__") Rp (by decide+kernel) (by decide+kernel) (by decide+kernel) (.inl (by decide+kernel)) DR
theorem um:entryFor table "set_iterator.__next__"=some Builtin.«set_iterator.__next__»:=entryFor_of_tree (by kernel_rfl)
theorem Rq:entryFor table "set_iterator.__iter__"=some Builtin.«dict_keyiterator.__iter__»:=
 entryFor_alias (id':="dict_keyiterator.__iter__") (by kernel_rfl) (by first | rfl | decide+kernel | (unfold Zr;simp+decide [Zs])) (by decide+kernel) (by kernel_rfl)
theorem Rt:entryFor table "set.__iter__"=some Builtin.«frozenset.__iter__»:=
 entryFor_alias (id':="frozenset.__iter__") (by kernel_rfl) (by first | rfl | decide+kernel | (unfold Zr;simp+decide [Zs])) (by decide+kernel) (by kernel_rfl)
theorem uo(a:Value):argsOk "set_iterator.__next__" ⟨[a],[]⟩:=by unfold argsOk;kernel_rfl
theorem Ru(a:Value):argsOk "set_iterator.__iter__" ⟨[a],[]⟩:=by unfold argsOk;kernel_rfl
end F2
noncomputable def iN(f:Value)(i:Nat)(S:Addr)(n a:Nat):Obj:={ cls:=.type "set_iterator",data:=.fields #[f,.int i 0,.ref S,.int n 0,.int a 0] }
section
variable {prog:a6}{w:World}{A:a8}{E:Value->ao->Prop}{s:ao}
variable {I S T:Addr}{so:Obj}{es:Array (Int × Value)}{ep i:Nat}{t:k3}
theorem DV{k k':Nat}(a:s.heap.get? I=some (iN (.int k 0) i S es.size ep))(d:s.heap.get? S=some so)(e:so.data=.set es ep t)(f:t.fits es.size=true)(g:∀(A:a8)(E:Value->ao->Prop)(Q:Option (Value × Nat)->ao->Prop),Q (some (x,k')) s->wpAny (model prog w) A (oy S k i ep) Q E s)(h:∀h',h'.get? I=some (iN (.int k' 0) (i+1) S es.size ep)->lV I s.heap h'->Q (some x) { s with heap:=h' }):
  wpAny (model prog w) A (jX (.ref I)) Q E s:=by
 have b:s.TypeIs (.ref I) "set_iterator":=⟨_,a,rfl⟩
 unfold jX
 refine wpAny_bind (AK (oi (name:=mR "__next__") b F2.jt
  (jD F2.jt b F2.um ?_ (F2.uo _))))
 show wpAny _ _ (AM (.ref I)>>=_) _ _ s
 refine wpAny_bind (AN a rfl ?_)
 show wpAny _ _ (oz S>>=_) _ _ s
 refine wpAny_bind ?_;unfold oz;refine wpAny_bind (l5 d e f (wpAny_pure ?_))
 dsimp only
 rw[if_neg (by simp)]
 show wpAny _ _ (oy S (sP k) (sP i) (sP ep)>>=_) _ _ s
 simp only[k4];refine wpAny_bind (g _ _ _ ?_)
 dsimp only
 refine wpAny_bind (oA a rfl (by simp) ?_)
 have c:(s.heap.update I (wc (·.setIfInBounds 0 (jB k')))).get? I=some (iN (.int k' 0) i S es.size ep):=lY _ a rfl
 refine wpAny_bind (oA c rfl (by simp) ?_)
 have j:((s.heap.update I (wc (·.setIfInBounds 0 (jB k')))).update I (wc (·.setIfInBounds 1 (jB ((i:Int)+1))))).get? I=some (iN (.int k' 0) (i+1) S es.size ep):=lY _ c rfl
 exact wpAny_pure ⟨x,rfl,wpAny_pure (h _ j ((l4 ..).trans (l4 ..)))⟩
theorem DY{k:Nat}(d:A.handled=none)(c:s.heap.get? I=some (iN (.int k 0) i S es.size ep))(f:s.heap.get? S=some so)(g:so.data=.set es ep t)(h:t.fits es.size=true)(j:∀(A:a8)(E:Value->ao->Prop)(Q:Option (Value × Nat)->ao->Prop),Q none s->wpAny (model prog w) A (oy S k i ep) Q E s)(n:∀h',IV I s.heap h'->Q none { s with heap:=h' }):
  wpAny (model prog w) A (jX (.ref I)) Q E s:=by
 have e:s.TypeIs (.ref I) "set_iterator":=⟨_,c,rfl⟩
 unfold jX
 refine wpAny_bind (AK (oi (name:=mR "__next__") e F2.jt
  (jD F2.jt e F2.um ?_ (F2.uo _))))
 show wpAny _ _ (AM (.ref I)>>=_) _ _ s
 refine wpAny_bind (AN c rfl ?_)
 show wpAny _ _ (oz S>>=_) _ _ s
 refine wpAny_bind ?_;unfold oz;refine wpAny_bind (l5 f g h (wpAny_pure ?_))
 dsimp only
 rw[if_neg (by simp)]
 show wpAny _ _ (oy S (sP k) (sP i) (sP ep)>>=_) _ _ s
 simp only[k4];refine wpAny_bind (j _ _ _ ?_)
 dsimp only
 refine wpAny_bind (oA c rfl (by simp) ?_)
 show wpAny _ _ (sQ (.type "StopIteration") []>>=_) _ _ _
 refine wpAny_bind ?_;simp only[sQ,newTuple];refine wpAny_bind (wpAny_newObj_type ?_ (by size_fits));refine wpAny_bind (m:=firstArgMember _ _) (AF (a:=dc) (by first | rfl | (simp only[firstArgMember];rfl)) ?_);refine wpAny_newObj_type ?_ (by size_fits);simp only[raiseNew];refine wpAny_bind (wpAny_handled ?_)
 first | rw[show A.in1.handled=none from d] | rw[d]
 refine wpAny_bind (wpAny_pure (IW ?_));refine wpAny_bind (v3 (T:="StopIteration") (b:=true) ⟨_,cL _ rfl,rfl⟩ isSubtype_stop ?_);exact wpAny_pure (n _ (((l4 ..).extBut.push _).push _))
variable {I S T:Addr}{so:Obj}{es:Array (Int × Value)}{ep i:Nat}{t:k3}
theorem Rv{p:Nat}{e0:Int}(b:s.heap.get? I=some (iN (.ref T) i S es.size ep))(e:s.heap.get? S=some so)(f:so.data=.set es ep t)(g:t.fits es.size=true)(h:s.heap.IsTuple T j)(m:j[i]?=some (.int p 0))(n:es[p]?=some (e0,x))(q:∀h',h'.get? I=some (iN (.ref T) (i+1) S es.size ep)->lV I s.heap h'->Q (some x) { s with heap:=h' }):
  wpAny (model prog w) A (jX (.ref I)) Q E s:=by
 have a:s.TypeIs (.ref I) "set_iterator":=⟨_,b,rfl⟩
 obtain⟨u,c,_,v,d⟩:=h;unfold jX
 refine wpAny_bind (AK (oi (name:=mR "__next__") a F2.jt
  (jD F2.jt a F2.um ?_ (F2.uo _))))
 show wpAny _ _ (AM (.ref I)>>=_) _ _ s
 refine wpAny_bind (AN b rfl ?_)
 show wpAny _ _ (oz S>>=_) _ _ s
 refine wpAny_bind ?_;unfold oz;refine wpAny_bind (l5 e f g (wpAny_pure ?_))
 dsimp only
 rw[if_neg (by simp)]
 show wpAny _ _ (AO (.ref T)>>=_) _ _ s
 refine wpAny_bind (v5 c d ?_);simp only[k4,m];refine wpAny_bind ?_;unfold setNextDrawn;refine wpAny_bind (l5 e f g ?_)
 dsimp only
 rw[if_neg (by simp)]
 try refine wpAny_bind (wpAny_pure ?_)
 rw[n];refine wpAny_pure ?_;refine wpAny_bind (oA b rfl (by simp) ?_)
 have r:(s.heap.update I (wc (·.setIfInBounds 1 (jB ((i:Int)+1))))).get? I=some (iN (.ref T) (i+1) S es.size ep):=lY _ b rfl
 exact wpAny_pure ⟨x,rfl,wpAny_pure (q _ r (l4 ..))⟩
theorem Rw(g:A.handled=none)(d:s.heap.get? I=some (iN (.ref T) i S es.size ep))(h:s.heap.get? S=some so)(j:so.data=.set es ep t)(n:t.fits es.size=true)(p:s.heap.IsTuple T q)(r:q[i]?=none)(u:∀h',IV I s.heap h'->Q none { s with heap:=h' }):
  wpAny (model prog w) A (jX (.ref I)) Q E s:=by
 have c:s.TypeIs (.ref I) "set_iterator":=⟨_,d,rfl⟩
 obtain⟨x,e,_,y,f⟩:=p;unfold jX
 refine wpAny_bind (AK (oi (name:=mR "__next__") c F2.jt
  (jD F2.jt c F2.um ?_ (F2.uo _))))
 show wpAny _ _ (AM (.ref I)>>=_) _ _ s
 refine wpAny_bind (AN d rfl ?_)
 show wpAny _ _ (oz S>>=_) _ _ s
 refine wpAny_bind ?_;unfold oz;refine wpAny_bind (l5 h j n (wpAny_pure ?_))
 dsimp only
 rw[if_neg (by simp)]
 show wpAny _ _ (AO (.ref T)>>=_) _ _ s
 refine wpAny_bind (v5 e f ?_);simp only[k4,r];refine wpAny_bind (oA d rfl (by simp) ?_)
 have v:(s.heap.update I (wc (·.setIfInBounds 0 (jB 0)))).get? I=some (iN (.int (0:Nat) 0) i S es.size ep):=lY _ d rfl
 refine wpAny_bind (oA v rfl (by simp) ?_)
 show wpAny _ _ (sQ (.type "StopIteration") []>>=_) _ _ _
 refine wpAny_bind ?_;simp only[sQ,newTuple];refine wpAny_bind (wpAny_newObj_type ?_ (by size_fits));refine wpAny_bind (m:=firstArgMember _ _) (AF (a:=dc) (by first | rfl | (simp only[firstArgMember];rfl)) ?_);refine wpAny_newObj_type ?_ (by size_fits);simp only[raiseNew];refine wpAny_bind (wpAny_handled ?_)
 first | rw[show A.in1.handled=none from g] | rw[g]
 refine wpAny_bind (wpAny_pure (IW ?_));refine wpAny_bind (v3 (T:="StopIteration") (b:=true) ⟨_,cL _ rfl,rfl⟩ isSubtype_stop ?_);exact wpAny_pure (u _ ((((l4 ..).trans (l4 ..)).extBut.push _).push _))
theorem uq(h:Q (w.params.followText "set-order") s):wpAny (model prog w) A setsByText Q E s:=by
 unfold setsByText;exact wpAny_bind (IU (wpAny_pure h))
theorem DZ{k:Nat}(hw:w.params.followText "set-order"=true)(a:s.heap.get? S=some so)(b:so.data=.set es ep t)(c:t.fits es.size=true)(d:Q (((oB (w.params.setOrder S ep) es)[i]?).map λe=>(e.2,k)) s):wpAny (model prog w) A (oy S k i ep) Q E s:=by
 unfold oy;refine wpAny_bind (l5 a b c ?_)
 dsimp only
 refine wpAny_bind (uq ?_);rw[hw,if_pos rfl,if_neg (by simp)]
 try refine wpAny_bind (wpAny_pure ?_)
 refine wpAny_bind ?_;unfold setWalk;refine wpAny_bind (l5 a b c ?_)
 dsimp only
 refine wpAny_bind (uq ?_);rw[hw,if_pos rfl];refine wpAny_bind (IU ?_);exact wpAny_pure (wpAny_pure d)
theorem D1{k:Nat}(hw:w.params.followText "set-order"=false)(c:s.heap.get? S=some so)(d:so.data=.set es ep t)(e:t.fits es.size=true)(a:t.led=true)(g:es.size<=1)(f:Q (match es[oC t.place k]?,t.place[oC t.place k]? with | some (_,x),some j=>some (x,j+1) | _,_=>none) s):wpAny (model prog w) A (oy S k i ep) Q E s:=by
 unfold oy;refine wpAny_bind (l5 c d e ?_)
 dsimp only
 refine wpAny_bind (uq ?_);rw[hw,if_neg (by decide)]
 have b:(!t.plain&&decide (es.size>1))=false:=by
  rw[decide_eq_false (by lia)];exact qr _
 refine wd ?_;rw[if_neg (by show¬((!t.plain&&decide (es.size>1))=true);rw[b];decide)];refine wpAny_bind ?_;refine wd ?_;rw[if_neg (by rw[a];simp)];refine wpAny_pure ?_;exact wpAny_pure f
end
end DL
namespace DL
open PySem PySem.Spec PyProof.Rows L2
theorem yh{a:Type}:∀(l:List a)(i:Nat)(h:i<l.length),(l[i]::l.eraseIdx i).Perm l
 | [],i,h=>by cases h
 | x::l,0,h=>.refl _
 | x::l,i+1,h=>((List.Perm.swap _ _ _).trans ((yh l i (Nat.lt_of_succ_lt_succ h)).cons x))
theorem D2{b:Type}(next:Nat->Nat):∀(fuel k:Nat)(left:List b)(out:Array b),left.length=fuel->(IX next fuel k left out).toList.Perm (out.toList++left)
 | 0,k,left,out,h=>by
  have:left=[]:=Zt.mp h
  subst this;unfold IX
  simp
 | fuel+1,k,left,out,h=>by
  have a:next k%left.length<left.length:=Nat.mod_lt _ (by lia)
  unfold IX;rw[c6 a]
  dsimp only
  refine(D2 next fuel (k+1) _ _ (by rw[Zu a];lia)).trans ?_;rw[Zf,j8];exact List.Perm.append_left _ (yh _ _ a)
theorem yi{a:Type}(next:Nat->Nat)(xs:Array a):(oB next xs).toList.Perm xs.toList:=by
 unfold oB;exact(D2 next xs.size 0 xs.toList #[] (by simp)).trans (by simp)
section
variable {prog:a6}{w:World}{A:a8}{E:Value->ao->Prop}{s:ao}
theorem Rx{n:Nat}(hn:n≠0)(h:∀i d',i<n->Q i { s with drawn:=d' }):wpAny (model prog w) A (choose a n) Q E s:=λc p b=>by
 unfold choose;rw[Sem.wp_choose];refine⟨hn,?_⟩;exact h _ _ (Nat.mod_lt _ (Nat.pos_of_ne_zero hn))
theorem D3{d:Type}:∀(n:Nat)(xs:List d)(s:ao)(Q:List d->ao->Prop),xs.length=n->(∀ys d',ys.Perm xs->Q ys { s with drawn:=d' })->wpAny (model prog w) A (drawOrder n xs) Q E s
 | 0,xs,s,Q,h,a=>by
  have:xs=[]:=Zt.mp h
  subst this;unfold drawOrder;exact wpAny_pure (a [] s.drawn .nil)
 | n+1,[],s,Q,h,a=>by cases h
 | n+1,x::xs,s,Q,h,a=>by
  unfold drawOrder;refine wpAny_bind (Rx (by rw[h];exact Nat.succ_ne_zero _) λi d' b=>?_);rw[c6 b]
  dsimp only
  refine wpAny_bind (D3 n _ _ _ (by rw[Zu b];lia) λys c p=>?_);exact wpAny_pure (a _ c ((p.cons _).trans (yh _ _ b)))
variable {I S T:Addr}{so:Obj}{es:Array (Int × Value)}{ep i:Nat}{t:k3}
theorem yj{n:Nat}(b:s.heap.get? I=some (iN f i S n ep))(h:Q (.ref I) s):wpAny (model prog w) A (mO (.ref I)) Q E s:=by
 have a:s.TypeIs (.ref I) "set_iterator":=⟨_,b,rfl⟩
 refine Zv a F2.DU (jD F2.DU a F2.Rq ?_ (F2.Ru _))
 show wpAny _ _ (ret (.ref I)) _ _ s
 exact wpAny_pure ⟨_,rfl,"set_iterator",_,a,F2.jt.lookup,h⟩
theorem Ry(r:A.handled=none)(j:S≠I)(hw:w.params.followText "set-order"=true)(f:so.data=.set es ep t)(g:t.fits es.size=true):
  Walks prog w A I [I,S] [I] es.size (λi v=>((oB (w.params.setOrder S ep) es).toList.map (·.2))[i]?=some v)
   (λi h=>(∃k:Nat,h.get? I=some (iN (.int k 0) i S es.size ep))/\h.get? S=some so) where
 sub:=λb c=>by simp at c;simp[c]
 frame:=by rintro i h h' ⟨⟨k,a⟩,b⟩ n;exact⟨⟨k,n I (by simp) _ a⟩,n S (by simp) _ b⟩
 item:=λi s Q E u ⟨⟨k,a⟩,b⟩ m=>by
  have hz:(oB (w.params.setOrder S ep) es).size=es.size:=by simpa using(yi (w.params.setOrder S ep) es).length_eq
  have d:i<(oB (w.params.setOrder S ep) es).size:=by rw[hz];exact u
  refine DV (x:=(oB (w.params.setOrder S ep) es)[i].2) (k':=k) a b f g (λy B C q=>DZ hw b f g (by rw[l7 d];exact q)) λh' e p=>?_
  refine m _ h' s.toks ?_ ⟨⟨k,e⟩,?_⟩ λb o c e=>?_
  ·rw[bJ,sD,l7 d];rfl
  ·rw[p.2 S j];exact b
  ·rw[p.2 b (λz=>c (by simp[z]))];exact e
 done:=λs Q E ⟨⟨k,a⟩,b⟩ m=>by
  have hz:(oB (w.params.setOrder S ep) es).size=es.size:=by simpa using(yi (w.params.setOrder S ep) es).length_eq
  refine DY r a b f g (λy B C q=>DZ hw b f g (by rw[Zw (by rw[hz];exact a5 _)];exact q)) λh' e=>?_
  exact m h' s.toks λb o c q=>e b o (λz=>c (by simp[z])) q
 self:=by rintro i s Q E ⟨⟨k,a⟩,b⟩ q;exact yj a q
theorem Rz(t:k3):oC t.place 0=0\/t.place.size>1:=by
 by_cases h:t.place.size>1
 ·exact .inr h
 ·refine .inl ?_
  unfold oC;rcases Zx.mp (YD h)with e | e
  ·rw[e];rfl
  ·rw[e]
   simp[Zy]
theorem RA(t:k3)(e:t.place.size=1)(j:Nat)(h:t.place[0]?=some j):oC t.place (j+1)=1:=by
 unfold oC;rw[e]
 simp[Zy,Array.getD_eq_getD_getElem?,h]
theorem RB(M:A.handled=none)(n:S≠I)(hw:w.params.followText "set-order"=false)(m:so.data=.set es ep t)(c:t.fits es.size=true)(d:t.led=true)(p:es.size<=1):
  Walks prog w A I [I,S] [I] es.size (λi v=>(es.toList.map (·.2))[i]?=some v)
   (λi h=>(∃k:Nat,h.get? I=some (iN (.int k 0) i S es.size ep)/\(i=0->k=0)/\(i=1->∀j,t.place[0]?=some j->k=j+1))/\h.get? S=some so) where
 sub:=λb f=>by simp at f;simp[f]
 frame:=by rintro i h h' ⟨⟨k,a,r⟩,b⟩ B;exact⟨⟨k,B I (by simp) _ a,r⟩,B S (by simp) _ b⟩
 item:=λi s Q E C ⟨⟨k,a,G,H⟩,b⟩ u=>by
  have hz:t.place.size=es.size:=by
   unfold Zz at c;simp only[bB,beq_iff_eq]at c;exact c.1
  have N:i=0:=by lia
  subst N
  have O:=G rfl
  subst O
  have y:oC t.place 0=0:=by
   rcases Rz t with e | e
   ·exact e
   ·lia
  have g:0<t.place.size:=by lia
  refine DV (x:=es[0].2) (k':=t.place[0]+1) a b m c (λU Y Q' q=>D1 hw b m c d p (by rw[y,l7 C,l7 g];exact q)) λh' e J=>?_
  refine u _ h' s.toks ?_ ⟨⟨_,e,λz=>(by lia),λ_ j L=>?_⟩,?_⟩ λb o f e=>?_
  ·rw[bJ,sD,l7 C];rfl
  ·rw[l7 g]at L;cases L;rfl
  ·rw[J.2 S n];exact b
  ·rw[J.2 b (λz=>f (by simp[z]))];exact e
 done:=λs Q E ⟨⟨k,a,G,H⟩,b⟩ u=>by
  have hz:t.place.size=es.size:=by
   unfold Zz at c;simp only[bB,beq_iff_eq]at c;exact c.1
  refine DY M a b m c (λU Y Q' q=>D1 hw b m c d p ?_) λh' e=>?_
  ·have:es[oC t.place k]?=none:=by
    apply Zw
    rcases Zx.mp p with e | e
    ·lia
    ·have g:0<t.place.size:=by lia
     have:=H e t.place[0] (l7 g)
     rw[this,RA t (by lia) _ (l7 g)];omega
   rw[this];exact q
  ·exact u h' s.toks λb o f q=>e b o (λz=>f (by simp[z])) q
 self:=by rintro i s Q E ⟨⟨k,a,_⟩,b⟩ q;exact yj a q
theorem RC(G:A.handled=none)(j:S≠I)(m:T≠I)(y:so.data=.set es ep t)(B:t.fits es.size=true){ps:List Nat}(d:ps.Perm (dY es.size)):
  Walks prog w A I [I,S,T] [I] es.size (λi v=>(ps.map (λp=>(es.toList.map (·.2)).getD p .none))[i]?=some v)
   (λi h=>h.get? I=some (iN (.ref T) i S es.size ep)/\h.get? S=some so/\h.IsTuple T (ps.map (λ(p:Nat)=>vJ p 0)).toArray) where
 sub:=λb g=>by simp at g;simp[g]
 frame:=by rintro i h h' ⟨a,b,c⟩ n;exact⟨n I (by simp) _ a,n S (by simp) _ b,c.at λo e=>n T (by simp) o e⟩
 item:=λi s Q E H ⟨a,b,c⟩ r=>by
  have hz:ps.length=es.size:=by simpa using d.length_eq
  have f:i<ps.length:=by lia
  have C:ps[i]<es.size:=by
   have:=d.mem_iff.mp (AD f)
   simpa using this
  refine Rv (p:=ps[i]) (e0:=es[ps[i]].1) (x:=es[ps[i]].2) a b y B c (by simp[f]) (by simp[C]) λh' e u=>?_
  refine r _ h' s.toks ?_ ⟨e,?_,c.extBut u.extBut m⟩ λb o g e=>?_
  ·rw[bJ,c6 f]
   simp[j9,C]
  ·rw[u.2 S j];exact b
  ·rw[u.2 b (λz=>g (by simp[z]))];exact e
 done:=λs Q E ⟨a,b,c⟩ r=>by
  have hz:ps.length=es.size:=by simpa using d.length_eq
  refine Rw G a b y B c (by simp[hz]) λh' e=>?_
  exact r h' s.toks λb o g q=>e b o (λz=>g (by simp[z])) q
 self:=by rintro i s Q E ⟨a,b,c⟩ q;exact yj a q
end
def rz(vs:List Value)(ks:List Str):Prop:=(∀v∈vs,∃x t,v=i9 x t)/\(vs.map txt).Perm ks
theorem D4{a:List Value}(h:rz vs ks)(p:a.Perm vs):rz a ks:=⟨λv b=>h.1 v (p.mem_iff.mp b),(p.map _).trans h.2⟩
section
variable {prog:a6}{w:World}{A:a8}{E:Value->ao->Prop}{s:ao}
variable {S:Addr}{ks:List Str}
theorem RD{a:Type}(l:List a)(d:a):(dY l.length).map (λp=>l.getD p d)=l:=by
 apply List.ext_getElem
 ·simp
 ·intro i c b
  simp[j9,b]
theorem RE(hS:gf w s.heap S ks)(J:∀(I:Addr)(h':Heap)(d':Drawn)(L wr:List Addr)(P:Nat->Value->Prop)(St:Nat->Heap->Prop)(vs:List Value)(n:Nat),
   n=ks.length->(∀m:a8,m.handled=none->Walks prog w m I L wr n P St)->St 0 h'->I∈L->(∀b∈L,b=S\/s.heap.objs.size<=b)->(∀b∈wr,s.heap.objs.size<=b)->
   (∀i v,P i v->vs[i]?=some v)->rz vs ks->(∀b o,s.heap.get? b=some o->h'.get? b=some o)->Q (.ref I) { s with heap:=h',drawn:=d' }):
  wpAny (model prog w) A (mO (.ref S)) Q E s:=by
 obtain⟨o,c,es,ep,t,hex,d,M,q,N,f,r,O⟩:=hS
 have hT:s.TypeIs (.ref S) "set":=⟨o,c,hex.1⟩
 have hn:es.size=ks.length:=uj q
 have u:S<s.heap.objs.size:=bh c
 have y:S≠s.heap.objs.size:=bO u
 have g:rz (es.toList.map (·.2)) ks:=by
  refine⟨λv hv=>?_,?_⟩
  ·obtain⟨e,he,rfl⟩:=aO.mp hv
   obtain⟨x,tk,rfl⟩:=M e he;exact⟨x,tk,rfl⟩
  ·rw[fQ];exact q
 refine Zv hT ZA (jD ZA hT F2.Rt ?_ (PySem.F.args_set_iter_1 _));unfold Builtin.«frozenset.__iter__» ZsB slotArgs;simp only[List.isEmpty_nil,Ak,kY,↓reduceIte,bind_assoc,gL,bne_self_eq_false];unfold ZsC ZsD;refine wpAny_bind (wpAny_pure ?_)
 try dsimp only
 refine wpAny_bind (wpAny_pure ?_);refine wpAny_bind ?_;refine wpAny_bind (wpAny_setEntries_of c d f (wpAny_pure ?_));refine wpAny_bind ?_;unfold setDrawn;refine wpAny_bind (l5 c d f ?_)
 dsimp only
 refine wpAny_bind (uq (wpAny_pure ?_))
 by_cases hw:w.params.followText "set-order"=true
 ·have B:(!w.params.followText "set-order"&&(!t.plain&&decide (es.size>1)))=false:=by rw[hw];rfl
  refine wd ?_;rw[if_neg (by show¬((!w.params.followText "set-order"&&(!t.plain&&decide (es.size>1)))=true);rw[B];decide)];refine wpAny_bind (wpAny_pure ?_);refine wpAny_bind (IY c d f ?_);refine wpAny_bind (wpAny_newObj_type (wpAny_pure ⟨_,rfl,"set_iterator",_,⟨_,cL _ rfl,rfl⟩,F2.jt.lookup,?_⟩))
  refine J s.heap.objs.size _ s.drawn _ _ _ _ _ _ hn (λm C=>Ry C y hw d f) ⟨⟨0,cL _ rfl⟩,bx _ c⟩ (by simp) (λb a=>?_) (λb a=>?_) (λi v h=>h) (D4 g ((yi _ es).map _)) λb o e=>bx _ e
  ·simp at a;rcases a with rfl | rfl
   ·exact .inr (a5 _)
   ·exact .inl rfl
  ·simp at a;rw[a];exact a5 _
 ·have j:w.params.followText "set-order"=false:=jE.mpr hw
  by_cases h1:es.size<=1
  ·have B:(!w.params.followText "set-order"&&(!t.plain&&decide (es.size>1)))=false:=by rw[decide_eq_false (by lia),qr,qr]
   refine wd ?_;rw[if_neg (by show¬((!w.params.followText "set-order"&&(!t.plain&&decide (es.size>1)))=true);rw[B];decide)];refine wpAny_bind (wpAny_pure ?_);refine wpAny_bind (IY c d f ?_);refine wpAny_bind (wpAny_newObj_type (wpAny_pure ⟨_,rfl,"set_iterator",_,⟨_,cL _ rfl,rfl⟩,F2.jt.lookup,?_⟩))
   refine J s.heap.objs.size _ s.drawn _ _ _ _ _ _ hn (λm C=>RB C y j d f (by rw[r,j];rfl) h1) ⟨⟨0,cL _ rfl,λ_=>rfl,λz=>(by cases z)⟩,bx _ c⟩ (by simp) (λb a=>?_) (λb a=>?_) (λi v h=>h) g λb o e=>bx _ e
   ·simp at a;rcases a with rfl | rfl
    ·exact .inr (a5 _)
    ·exact .inl rfl
   ·simp at a;rw[a];exact a5 _
  ·have B:(!w.params.followText "set-order"&&(!t.plain&&decide (es.size>1)))=true:=by rw[j,O (by lia),decide_eq_true (by lia)];rfl
   refine wd ?_;rw[if_pos (by show((!w.params.followText "set-order"&&(!t.plain&&decide (es.size>1)))=true);exact B)];refine wpAny_bind (D3 _ _ _ _ sL λps d' U=>?_)
   have G:ps.length=es.size:=by simpa using U.length_eq
   have Y:es.size<jc:=by rw[hn];exact N
   refine wpAny_bind (wpAny_newTuple ?_ (by rw[aJ,G];exact AA Y))
   have H:(s.heap.push { cls:=.type "tuple",data:=.seq (ps.map λ(i:Nat)=>jB i).toArray }).get? S=some o:=bx _ c
   refine wpAny_bind (IY H d f ?_);refine wpAny_bind (wpAny_newObj_type (wpAny_pure ⟨_,rfl,"set_iterator",_,⟨_,cL _ rfl,rfl⟩,F2.jt.lookup,?_⟩))
   have hsz:(s.heap.push { cls:=.type "tuple",data:=.seq (ps.map λ(i:Nat)=>jB i).toArray }).objs.size=s.heap.objs.size+1:=kZ ..
   refine J (s.heap.push { cls:=.type "tuple",data:=.seq (ps.map λ(i:Nat)=>jB i).toArray }).objs.size _ d' _ _ _ _ (ps.map (λp=>(es.toList.map (·.2)).getD p .none)) _ hn
    (λm C=>RC (T:=s.heap.objs.size) C (by rw[hsz];exact bO (j7 u)) (by rw[hsz];exact bO (v8 _)) d f U) ⟨cL _ rfl,bx _ H,⟨_,bx _ (cL _ rfl),rfl,_,rfl⟩⟩ (by simp) (λb a=>?_) (λb a=>?_) (λi v h=>h) (D4 g ?_) λb o e=>bx _ (bx _ e)
   ·simp at a;rcases a with rfl | rfl | rfl
    ·exact .inr (iS _)
    ·exact .inl rfl
    ·exact .inr (a5 _)
   ·simp at a;rw[a];exact iS _
   ·have:=U.map (λp=>(es.toList.map (·.2)).getD p dc)
    have e:=RD (es.toList.map (·.2)) dc
    rw[aJ,mQ]at e;rw[e]at this;exact this
end
namespace F2
theorem RF:AG (.type "set") (.type "set")=pure true:=by rw[v_];kernel_rfl
end F2
section
variable {prog:a6}{w:World}{A:a8}{E:Value->ao->Prop}{s:ao}
variable {S:Addr}{ks:List Str}
theorem RG(a:s.TypeIs (.ref S) "set")(h:Q false s):wpAny (model prog w) A (IZ (.ref S)) Q E s:=by
 unfold IZ;refine wpAny_bind (qw a PySem.F.slot_set_len.lookup ?_)
 dsimp only
 generalize az:("set.__len__":String)=c
 rw[show splitId c=some ("set","__len__") from by subst az;decide+kernel];subst az
 dsimp only
 refine wpAny_bind (v3 (b:=true) a F2.RF ?_);rw[if_neg (by decide)]
 try refine wpAny_bind (wpAny_pure ?_)
 rw[if_pos (by decide+kernel)];refine wpAny_bind (qq a ?_);exact wpAny_pure h
theorem RH(hh:A.handled=none)(O:gf w s.heap S ks)(hQ:∀vs f,rz vs ks->f.os=s.os->f.gens=s.gens->(∀b o,s.heap.get? b=some o->f.heap.get? b=some o)->s.heap.objs.size<=f.heap.objs.size->Q vs f):
  wpAny (model prog w) A (collect (.ref S)) Q E s:=by
 have T:S<s.heap.objs.size:=by obtain⟨o,g,_⟩:=O;exact bh g
 have U:ks.length<jc:=by obtain⟨o,g,es,ep,t,_,_,_,_,d,_⟩:=O;exact d
 unfold collect;refine wpAny_bind (AH (mU PySem.F.entry_proto_collect ?_));rw[qy PySem.F.plain_proto_collect _]
 show wpAny _ A.in1 (newList []>>=λl=>again (.builtin "list.__iadd__" ⟨[l,.ref S],[]⟩)) _ _ s
 refine wpAny_bind (wpAny_newObj_type ?_);refine wpAny_pure ⟨sO ZC _,mU PySem.F.entry_list_iadd ?_⟩;rw[qy ZC _]
 have j:gf w (s.heap.push { cls:=.type "list",data:=.seq ([]:List Value).toArray }) S ks:=by
  obtain⟨o,g,r⟩:=O;exact⟨o,bx _ g,r⟩
 have u:(s.heap.push { cls:=.type "list",data:=.seq ([]:List Value).toArray }).get? s.heap.objs.size=some { cls:=.type "list",data:=.seq ([]:List Value).toArray }:=cL _ rfl
 have a:(s.heap.push { cls:=.type "list",data:=.seq ([]:List Value).toArray }).objs.size=s.heap.objs.size+1:=kZ ..
 have v:∀b o,s.heap.get? b=some o->(s.heap.push { cls:=.type "list",data:=.seq ([]:List Value).toArray }).get? b=some o:=λb o e=>bx _ e
 have x:s.heap.objs.size≠S:=qh T
 generalize s.heap.push { cls:=.type "list",data:=.seq ([]:List Value).toArray }=m at j u a v ⊢
 show wpAny _ A.in1 (AQ (.ref s.heap.objs.size) (.ref S) (.ref s.heap.objs.size)) _ _ { s with heap:=m }
 unfold AQ
 have y:wb { s with heap:=m } (.ref S) "set":=by
  obtain⟨o,g,es,ep,t,hex,_⟩:=j;exact⟨o,g,hex.1⟩
 refine wpAny_bind (qq y ?_)
 have e1:AR (.ref s.heap.objs.size) (.ref S)=false:=by simp[AR,x]
 rw[if_neg (by rw[e1];decide)];refine wpAny_bind (RE (s:={ s with heap:=m }) j λI B Y fp wr P St vs n hn W st hI RI RJ hP C p=>?_)
 have RK:wb { s with heap:=B,drawn:=Y } (.ref S) "set":=by
  obtain⟨o,g,hc⟩:=y;exact⟨o,p _ _ g,hc⟩
 refine wpAny_bind (wpAny_holding (RG RK ?_));rw[if_pos (by decide+kernel)];refine wpAny_bind (wpAny_rule ?_);refine wpAny_bind ?_
 have G:=p _ _ u
 show wpAny _ A.in1 (updateSeq s.heap.objs.size (·.push .none)>>=λ_=>updateSeq s.heap.objs.size (·.pop)) _ _ { s with heap:=B,drawn:=Y }
 refine wpAny_bind (wpAny_updateSeq G rfl ?_)
 have H:=lY (eZ (·.push dc)) G rfl
 refine wpAny_updateSeq (hz:=by seq_fits) H rfl ?_
 have RL:=lY (eZ (·.pop)) H rfl
 have J:∀b o,b≠s.heap.objs.size->B.get? b=some o->((B.update s.heap.objs.size (eZ (·.push dc))).update s.heap.objs.size (eZ (·.pop))).get? b=some o:=
  λb o d e=>(Ad _ _ (cn d)).trans ((Ad _ _ (cn d)).trans e)
 have L:s.heap.objs.size∉fp:=λM=>by
  rcases RI _ M with e | e
  ·exact x e
  ·have:m.objs.size<=s.heap.objs.size:=e
   rw[a]at this;exact absurd this (Nat.not_succ_le_self _)
 have WS:=(W A.in1 hh).toS
 have hlen:vs.length=n:=by
  have:=C.2.length_eq
  rw[aJ]at this
  lia
 have RM:n<=aB:=by rw[hn];exact AA U
 refine wpAny_pure ⟨sO PySem.F.plain_extend_loop _,ZD WS RM _ L _ n 0 _ _ _ rfl (ef _)
  (WS.frame 0 { s with heap:=B,drawn:=Y } _ s.toks st (a5 _) λb d o e=>J b o (λz=>L (z▸d)) e) RL (ZE P) λf q c M N h=>?_⟩
 show wpAny _ A (load s.heap.objs.size>>=_) _ _ f
 refine wpAny_bind (wpAny_load N ?_)
 have he:q.toList=vs:=by
  apply vX
  intro i
  by_cases hi:i<q.size
  ·have m:=h.2 i q[i] (by simp[hi])
   rw[hP _ _ m]
   simp[hi]
  ·rw[qz (by simpa using hi),qz (by rw[hlen,<-h.1];lia)]
 have kp:∀b o,s.heap.get? b=some o->f.heap.get? b=some o:=λb o e=>by
  have d:b<s.heap.objs.size:=bh e
  refine M.heap b o (λz=>?_) (J b o (bO d) (p _ _ (v _ _ e)));rcases a9.mp z with z | z
  ·exact absurd z (bO d)
  ·have:m.objs.size<=b:=RJ b z
   rw[a]at this;exact absurd (iB (j7 d) this) (lU _)
 refine wpAny_pure (hQ _ f (he▸C) M.os M.gens kp ?_);exact f9 (bh N)
theorem RN(r:A.handled=none)(B:gf w s.heap S ks)(C:ks.length<64)(G:∀(L:Addr)(out:Array Value)(i:List Str)(e:Nat)(g:ao),v9 out.toList i->i.Perm ks->sortedS i=true->g.heap.get? L=some (di "list" out e)->s.heap.objs.size<=L->
   g.os=s.os->g.gens=s.gens->(∀b o,s.heap.get? b=some o->g.heap.get? b=some o)->Q (.ref L) g):
  wpAny (model prog w) A (call (.builtin "sorted") [.ref S]) Q E s:=by
 refine ZF kind_sorted plain_sorted entry_sorted (args_sorted1 _) ?_;unfold Builtin.«sorted»;refine wpAny_bind (m:=checkCount "sorted" 1 1 _) (wpAny_pure ?_);refine wpAny_bind (RH (by first | exact r | simpa using r) B λvs h a H I J hz=>?_)
 have hlen:vs.length<64:=by
  have:=a.2.length_eq
  rw[aJ]at this
  lia
 refine wpAny_bind (I0 ?_ (f9 (oq hlen (by decide))))
 have c:(h.heap.push (di "list" vs.toArray 0)).get? h.heap.objs.size=some (di "list" vs.toArray 0):=cL _ rfl
 show wpAny _ _ _ _ _ { h with heap:=h.heap.push (di "list" vs.toArray 0) }
 have d:=strsAre_map vs a.1
 have j:vs.map ZsE=vs.map txt:=sR λv M=>by
  obtain⟨x,t,rfl⟩:=a.1 v M
  rfl
 refine wpAny_bind (wpAny_holding (jD slot_list_sort ⟨_,c,rfl⟩ entry_list_sort (list_sort_treeK strKind_oneLt c d.keysOf (λu y rest e=>keyKind_strs (by rw[<-e];exact d)) hlen λn N O=>⟨_,rfl,?_⟩) (args_list_sort _)));obtain⟨p,T,U,Y⟩:=sorted_out_str d N O;obtain⟨e,he⟩:=sortedHeap_at (out:=(arrOf n).map (·.2)) c;refine wpAny_pure ⟨_,rfl,G _ _ p e _ T (U.trans (j▸a.2)) Y he hz H I λb o q=>?_⟩
 have z:=J b o q
 have f:=bh z
 show(sortedHeap _ _ _ _).get? b=some o
 rw[sortedHeap_old (bO f) (by rw[AS];exact j7 f),qA _ _ _ (bO f)];exact z
end
end DL
namespace DL
open PySem PySem.Spec PyProof.Rows L2
section
variable {X:Cx}{e a b c:Expr}{es:List Expr}{pos p p2 p3 ur:Pos}{f fa fb fc:ae->Option D}{fs:ae->Option (List D)}
theorem RP{s i:ao}(I:Inv X j r H s)(m:i.heap=s.heap)(n:i.gens=s.gens)(q:i.os=s.os):Inv X j r H i:=by
 obtain⟨h,g,d,t,o⟩:=s;obtain⟨h',g',d',t',u⟩:=i;simp only at m n q
 subst m;subst n;subst q
 exact⟨I.ok,I.os,I.bare,I.base,I.loc,I.cell,I.free,I.g_,I.pin,I.aR,I.len⟩
theorem yk:∀{us:List Value}{bs:List Str},v9 us bs->∀(i:Nat)(v:Value),us[i]?=some v->∃t,v=i9 (bs.getD i default) t
 | _,_,.nil,i,v,h=>by simp at h
 | _,_,.cons y t r,0,v,h=>by simp at h;exact⟨t,by rw[<-h];rfl⟩
 | _,_,.cons y t r,i+1,v,h=>by
  simp only[oD]at h;obtain⟨t',e⟩:=yk r i v h;exact⟨t',by rw[e];rfl⟩
theorem yl:∀{us:List Value}{bs:List Str},v9 us bs->bs.length=us.length
 | _,_,.nil=>rfl
 | _,_,.cons y t r=>by rw[bR,bR,yl r]
theorem D5:∀(xs ks:List Str)(x:Str),x∈xs.foldl gS ks↔x∈ks\/x∈xs
 | [],ks,x=>by simp
 | y::xs,ks,x=>by
  rw[AE,D5 xs (gS ks y) x];unfold gS
  split
  ·rename_i h
   constructor
   ·rintro(q | q)
    ·exact .inl q
    ·exact .inr (bV _ q)
   ·rintro(q | q)
    ·exact .inl q
    ·rcases a9.mp q with q | q
     ·rw[q];exact .inl h
     ·exact .inr q
  ·simp[or_assoc]
theorem D6(xs:List Str)(x:Str):x∈du xs↔x∈xs:=by
 unfold du;rw[D5]
 simp
noncomputable def RQ:D->Option (List D)
 | .lst xs=>some xs
 | .tup xs=>some xs
 | _=>none
def D7(d:D):Option D:=(RQ d).bind λxs=>if xs.length<64 then(ib xs).map λbs=>.lst ((dV (du bs)).map .str)else none
def ym(f:ae->Option D):ae->Option D:=λd=>(f d).bind D7
theorem RR(hc:X.calm=true)(hg:Gl X "sorted")(hm:X.mg "sorted"=none)(T:Gl X "set")(U:X.mg "set"=none)(ha:DE X a f)(hs:bq [a] X.env=(false,eval a X.env)::bq [] X.env):
  DE X (.Call (.Name "sorted" p) [.Call (.Name "set" p2) [a] [] ur] [] pos) (ym f):=by
 intro g s Y H Q I ⟨ρ,d,R,e,q⟩;obtain⟨d0,h0,e⟩:=bind_some e;obtain⟨xs,h1,e⟩:=bind_some e
 split at e
 case isFalse=>cases e
 rename_i h64;rw[bC]at e;obtain⟨bs,C,rfl⟩:=e
 have hh:X.A.handled=none:=I.ok.hd hc
 refine wpAny_Call_Name_kw (jG I hg hm boot_sorted ?_);refine Yp ?_
 show wpAny _ _ (vM ((false,eval (.Call (.Name "set" p2) [a] [] ur) X.env)::[])) _ _ s
 refine z9 ?_;refine wpAny_Call_Name_kw (jG I T U (show et "set"=some (.type "set") by decide+kernel) ?_);refine oa ?_ hs;rw[hs]
 show wpAny _ _ (vM ((false,eval a X.env)::[])) _ _ s
 refine z9 (aK (ha g s Y H _ I ⟨ρ,d0,R,h0,λv B m r1=>(⟨m,r1⟩:av H B/\Rep X.K B v d0)⟩) λu m zZ=>?_);obtain⟨v,B,O,rv,sm,r1⟩:=zZ;refine z8 ?_
 have E:∀(S:Addr)(t:ao),gf X.w t.heap S (du bs)->t.os=m.os->t.gens=m.gens->(∀b o,m.heap.get? b=some o->t.heap.get? b=some o)->m.heap.objs.size<=t.heap.objs.size->(∀x∈bs,x.length<=aB)->bs.length<64->
   wpAny (model X.prog X.w) X.A (vM []) (λvs G=>wpAny (model X.prog X.w) X.A (call (.builtin "sorted") (.ref S::vs)) (EP X g Y Q) X.xe G) X.xe t:=λS t y eo eg J hz hx hl=>by
  refine z8 ?_
  refine RN hh y (kX (uk bs) hl) λL out ss en s3 a1 a2 a3 hL M RT RU RV=>?_
  have eq:ss=dV (du bs):=xN (CZ a3) (tZ (du bs)) (a2.trans (jJ (du bs)).symm)
  subst eq
  have hlen:∀x∈dV (du bs),x.length<=aB:=λx nB=>hx x ((D6 bs x).mp ((jJ (du bs)).mem_iff.mp nB))
  have hn:B L=none:=O.aR.fresh (cj hz M)
  have RW:((dV (du bs)).map V.str).length<=aB:=by
   rw[aJ,(jJ (du bs)).length_eq];exact f9 (oq (kX (uk bs) hl) (by decide))
  have I3:Inv X g Y (upd B L (.lst ((dV (du bs)).map V.str))) { m with heap:=s3.heap,toks:=s3.toks }:=
   O.laid (λb ob q=>RV _ _ (J _ _ q)) (cj hz M) ⟨RW,out.toList,en,(rf (K:=X.K) (H:=B) a1 hlen).1,by simpa [di]using hL⟩
  refine⟨.ref L,_,RP I3 rfl (RU.trans eg) (RT.trans eo),rfl,?_⟩;exact q _ _ (sm.trans (cE hn _)) (.lst (.inl bG) (rf a1 hlen).2)
 have n:bs.length<64:=by
  have:bs.length=xs.length:=by rw[lz C,aJ]
  lia
 cases r1 with
 | @lst a vs ds h r=>
  cases h1;cases rv
  have z:∀x∈bs,x.length<=aB:=by rw[lz C]at r;exact tX r
  rw[lz C]at r;obtain⟨RY,ri,pl⟩:=Inv.c3 O h
  have N:=rb r ri
  have j:=yl N
  refine Rb hh pl (by simpa using j) (λi v hv=>yk N i v (by simpa using hv)) (by rw[cH,<-j];exact oq (ZG n) (by decide)) λh' tk y J=>?_
  exact E _ { m with heap:=h',toks:=tk } y rfl rfl (λb o e=>J b o (bh e) e) (by obtain⟨o,ho,_⟩:=y;exact f9 (bh ho)) z n
 | @tup a vs ds h r=>
  cases h1;cases rv
  have z:∀x∈bs,x.length<=aB:=by rw[lz C]at r;exact tX r
  rw[lz C]at r;obtain⟨RY,ri,pl⟩:=Inv.df O h
  have N:=rb r ri
  have j:=yl N
  refine Rn hh pl (by simpa using j) (λi v hv=>yk N i v (by simpa using hv)) (by rw[cH,<-j];exact oq (ZG n) (by decide)) λh' tk y J=>?_
  exact E _ { m with heap:=h',toks:=tk } y rfl rfl (λb o e=>J b o (bh e) e) (by obtain⟨o,ho,_⟩:=y;exact f9 (bh ho)) z n
 | _=>cases h1
theorem RZ(i:X.mg "sorted"=none)(d:X.mg "set"=none)(j:JE X a f)(m:Gl X "sorted":=by rfl)(g:Gl X "set":=by rfl)(hn:cO a=true:=by rfl)(n:X.calm=true:=by rfl):
  JE X (.Call (.Name "sorted" p) [.Call (.Name "set" p2) [a] [] ur] [] pos) (ym f):=⟨RR n m i g d j.h (cf hn)⟩
end
section
variable {X:Cx}{e a b c:Expr}{es:List Expr}{pos p p2 p3 ur:Pos}{f fa fb fc:ae->Option D}{fs:List (ae->Option D)}{x:Str}
theorem R0{A iter t:Expr}{u:List Expr}{d:Scope}{r:List (Str × Addr)}{N':List Str}{cap:List (Option Nat)}{fi:ae->Option (List D)}{G:D->ae->Option ae}{fc:ae->Option Bool}{H:ae->Option D}
  (I:JI X A iter fi) (B:∀C g i v,JG (bT X d r N' C g i v) A G/\JF (bT X d r N' C g i v) u fc/\JE (bT X d r N' C g i v) t H)
  (m:l3 d X.env=pure r) (n:∀y∈d.names,y.2≠ .cell) (q:d.kind=.function)
  (j:∀y∈d.names,y.2=.local->d.names.lookup y.1=some .local) (E:h_ X.env.cells r)
  (w:ia r (jb d X.env).names)
  (z:eB X d N' cap)
  (J:X.calm=true):JL X (.ListComp t [⟨A,iter,u,0⟩] d pos) (ek cap fi G fc H):=
 ⟨CN J I.h m n q j E w z (λC g i v=>by obtain⟨L,M,N⟩:=B C g i v;exact⟨L.h,M.h,N.h⟩) (nt I.s)⟩
theorem R4(h:JA X es fs (ag fs))(hn:qc fs.length 1000=true):JL X (.List es pos) (ag fs):=
 ⟨Qs h.h h.n (uc hn)⟩
theorem R5(d:JE X a fa)(g:JE X b fb):JL X (.BinOp a .Add b pos) (lC fa fb):=⟨Qt d.h g.h⟩
theorem R6(d:X.mg "list"=none)(g:JE X a fa)(i:Gl X "list")(hn:cO a=true):JL X (.Call (.Name "list" p) [a] [] pos) (uh fa):=⟨Qu i d g.h hn⟩
theorem R7(h:JE X e f)(d:iY e=true):JK X g e (bo f):=⟨QM h.h,d⟩
theorem R8(d:X.mg "range"=none)(g:JE X a fa)(i:Gl X "range")(hn:cO a=true):JK X j (.Call (.Name "range" p) [a] [] pos) (dD (ag [fa])):=⟨QN i d g.h (cf hn),rfl⟩
theorem R9(g:X.mg "range"=none)(i:JE X a fa)(j:JE X b fb)(m:Gl X "range")(hn:cO a=true)(d:cO b=true):JK X n (.Call (.Name "range" p) [a,b] [] pos) (dD (ag [fa,fb])):=
 ⟨QO m g i.h j.h (by rw[cf hn,cf d];rfl) (cf d),rfl⟩
theorem R_(i:X.mg "enumerate"=none)(j:JE X a fa)(m:Gl X "enumerate")(hn:cO a=true):JK X (.Tuple d n g) (.Call (.Name "enumerate" p) [a] [] pos) (rj fa):=⟨QP m i j.h (cf hn),rfl⟩
noncomputable def rA:D->Option Bool
 | .ay=>some false
 | .bl b=>some b
 | .int i=>some (i != 0)
 | .str y=>some ((y.length:Int) != 0)
 | .tup xs=>some (!xs.isEmpty)
 | .lst xs=>some (!xs.isEmpty)
 | .aW ns=>some (!ns.isEmpty)
 | .aH _ _=>none
 | .tab .. =>none
theorem D8{K:aw}{H:Hp}{v:V}{d:D}{k:Bool}(r:Rep K H v d)(h:rA d=some k):wM K v H k:=by
 cases r with
 | ay=>cases h;rfl
 | bl b=>cases h;rfl
 | int i=>cases h;rfl
 | str y j=>cases h;exact⟨j,rfl⟩
 | @tup a vs ds q g=>cases h;refine .inr (.inl ⟨vs,q,?_⟩);cases g<;>rfl
 | @lst a vs ds q g=>cases h;refine .inl ⟨vs,.inl q,?_⟩;cases g<;>rfl
 | @aW a ns q=>cases h;refine .inl ⟨_,q,?_⟩;cases ns<;>rfl
 | aH | tab=>cases h
def kA(f:ae->Option D):ae->Option Bool:=λd=>(f d).bind rA
theorem Sa(h:JE X e f)(g:xX e=true):JT X e (kA f):=⟨tL (Lq h.h (Dj g))<|by
 rintro t H Q ⟨i,k,R,j,q⟩
 refine bS j λd m n=>?_
 exact⟨i,d,R,m,λv H' r s=>⟨k,D8 s n,q H' r⟩⟩⟩
def rB(f:ae->Option D):ae->Option D:=λd=>(kA f d).bind λk=>some (.bl (!k))
theorem Sb(h:JE X a f):JE X (.UnaryOp .Not a pos) (rB f):=⟨by
 intro g s r H Q I ⟨w,d,R,y,q⟩
 refine bS y λk z A=>?_
 refine bS z λt B C=>?_
 cases A;refine UnaryOp_ (aK (h.h g s r H _ I ⟨w,t,R,B,λv i j m=>(⟨j,m⟩:av H i/\Rep X.K i v t)⟩) λu j n=>?_);obtain⟨v,i,E,G,J,m⟩:=n;refine not_of (aK (Bw g j r i v u (λk' H2=>k'=k/\H2=i) E G ⟨k,D8 m C,rfl,rfl⟩) λk' O n=>?_);obtain⟨H2,L,M,N⟩:=n;subst M N
 exact⟨.bl (!k'),H2,L,rfl,q _ H2 J (.bl _)⟩⟩
end
namespace F2
end F2
section
variable {prog:a6}{w:World}{A:a8}{E:Value->ao->Prop}{s:ao}
end
section
variable {X:Cx}
end
end DL
namespace DL
open PySem PySem.Spec PyProof.Rows L2
section
variable {X:Cx}{x:Str}{pos:Pos}
theorem Se{g:Pos}{a:Scope}(i:Nat)(hN:X.N.Nodup)(U:JI X J iter fi)(L:∀C b c u,JG (bT X a v N' C b c u) J gt/\JF (bT X a v N' C b c u) w fc/\JE (bT X a v N' C b c u) z fe)(M:X.N[i]?=some x)(hx:Loc X.env.scope x)(m:l3 a X.env=pure v)(n:∀y∈a.names,y.2≠ .cell)(t:a.kind=.function)(f:∀y∈a.names,y.2=.local->a.names.lookup y.1=some .local)(O:h_ X.env.cells v)(A:ia v (jb a X.env).names)(B:eB X a N' cap)(hc:X.calm=true)(Q:gu (.ListComp z [⟨J,iter,w,0⟩] a pos) (some (.Name x E)) g.line X.env=pure true)(hf:X.fn x=true\/X.env.scope.names.lookup x=some .local):JS X (.Assign [.Name x E] (.ListComp z [⟨J,iter,w,0⟩] a pos) g) (cc i (bY cap fi gt fc fe)):=
 ⟨c7 (CP hN M hx hc U.h m n t f O A B (λC b c u=>by obtain⟨j,h2,h3⟩:=L C b c u;exact⟨j.h,h2.h,h3.h⟩) (nt U.s) Q hf)<|by
  rintro Dn σ H ⟨ρ,o,R,e,q⟩
  refine bS e λd j e=>?_
  cases e
  refine bS j λds T j=>?_
  split at j
  case isFalse=>cases j
  rename_i hlen;rw[bC]at j;obtain⟨G,I,rfl⟩:=j;refine⟨ρ,G,R,by simp only[ek,T,bj,hlen,if_true];exact I,λvs H1 p s1 Y r=>?_⟩
  have S:=s1.trans (cE Y (.lst vs))
  exact q _ _ S ((R.mono S).set i (.lst (.inl bG) (r.mono (cE Y _))))⟩
end
section
variable {X:Cx}
end
section
variable {X:Cx}{a:Expr}{pos p2:Pos}{fa:ae->Option D}
theorem Sf{lo b:Option Expr}{fl c:ae->Option (Option Int)}(d:JE X a fa)(e:JO X lo fl)(f:JO X b c):JE X (.Subscript a (.Slice lo b none p2) pos) (iX fa fl c):=⟨C5 d.h e.h f.h⟩
end
section
variable {prog:a6}{w:World}{A:a8}{E:Value->ao->Prop}{s:ao}
theorem Sg{ws:List Value}(p:IsTup s.heap t (#[]:Array Value))(q:IsTup s.heap b ws.toArray)(r:Q (.ref b) s):wpAny (model prog w) A (dw .Add (.ref t) (.ref b)) Q E s:=by
 obtain⟨⟨u,v,g,x⟩,h,i,n,j⟩:=id p;obtain⟨⟨m,e,data2,f⟩,a,c,n2,d⟩:=id q;simp only at i j c d;subst i j c d
 exact Ih ⟨_,h,rfl⟩ ⟨_,a,rfl⟩ Ii Ij Ik Il (Im _ _)
  (tuple_addW0 t b #[] ws.toArray n n2 v e x f (by rfl)) ⟨h,a,r⟩
end
section
variable {X:Cx}
def il:D->D->Option D
 | .tup [],.tup ys=>some (.tup ys)
 | a,b=>aM a b
theorem Sh:dJ X (dw .Add) il:=by
 intro c s p H x y v u Q I r t h
 refine ey h λz B d i j f=>bX f λe q=>?_;clear h f
 have m:aM z B=some d->wpAny (model X.prog X.w) X.A (dw .Add v u) (EP X c p Q) X.xe s:=λE=>Cj c s p H x y v u Q I r t ⟨z,B,d,i,j,E,q⟩
 unfold il at e
 split at e
 case h_2=>exact m e
 cases e
 cases i with
 | @tup a vs ds G J=>
  cases j with
  | @tup b ws es g n=>
   cases J;cases r;cases t
   refine aP (I.tuple G) λL i M _=>?_
   refine aP (I.tuple g) λC j N _=>?_
   cases i;exact Sg M N ⟨.ref b,H,I,rfl,q _ H (av.refl H) (.tup g n)⟩
theorem Si:dj X (dw .Add) il:=⟨Sh⟩
end
section
variable {X:Cx}
noncomputable instance(i j:Int):Decidable (qk i j):=by unfold qk;infer_instance
theorem Sj:cq X (dw .Mult) (rI qk λi j=>.int (i*j)):=tp λ_ _ _ _ _ _ _ a q=>mul_int q a
def nE:D->D->Option D:=dI qk λi j=>.int (i*j)
theorem Sk:dJ X (dw .Mult) nE:=tO Sj λ_ _ _=>.int _
theorem Sl:dj X (dw .Mult) nE:=⟨Sk⟩
end
noncomputable def iO{b:Type}(lt:Nat->Nat->Bool):oE b->b
 | .ret a=>a
 | .ask i j k=>iO lt (k (lt i j))
noncomputable def lD{a:Type}(n:Nat):oE a->Bool
 | .ret _=>true
 | .ask i j k=>decide (i<n)&&decide (j<n)&&decide (i≠j)&&lD n (k true)&&lD n (k false)
theorem D9{c:Type}{n:Nat}{b:Nat->Nat->(Bool->ao->Prop)->ao->Prop}{lt:Nat->Nat->Bool}{Q:c->ao->Prop}{s:ao}(d:∀i j C,i<n->j<n->i≠j->C (lt i j) s->b i j C s):
  ∀(t:oE c),lD n t=true->Q (iO lt t) s->t.kasWp b Q s
 | .ret a,_,h=>h
 | .ask i j k,e,h=>by
  simp only[lD,bB,decide_eq_true_eq]at e;obtain⟨⟨⟨⟨f,g⟩,m⟩,p⟩,q⟩:=e;refine d i j _ f g m (D9 d _ ?_ h);cases lt i j
  ·exact q
  ·exact p
theorem D_:lD 2 (jd 2)=true:=by decide+kernel
theorem Ea:lD 3 (jd 3)=true:=by decide+kernel
def eP{a:Type}(d:a)(lt:Nat->Nat->Bool)(vs:List a):List a:=if vs.length<2 then vs else(iO lt (jd vs.length)).toList.map λi=>vs.getD i d
section
variable {prog:a6}{w:World}{A:a8}{E:Value->ao->Prop}{s:ao}
theorem Sm{a:Addr}{vs:List Value}{n:Nat}{P:PySem.Fin->ao->Prop}{lt:Nat->Nat->Bool}(u:s.heap.get? a=some (di "list" vs.toArray n))(m:vs.length<=3)
  (N:∀h',(∀b o,b≠a->s.heap.get? b=some o->h'.get? b=some o)->2<=vs.length->∃κ,(∀Q,Q κ { s with heap:=h' }->wpAny (model prog w) A (keyKind' vs.toArray) Q (λ_ _=>False) { s with heap:=h' })∧
   ∀i j C,i<vs.length->j<vs.length->i≠j->C (lt i j) { s with heap:=h' }->wpAny (model prog w) A (keyLt' κ (vs.getD i dc) (vs.getD j dc)) C (λ_ _=>False) { s with heap:=h' })
  (h:P (.done (.ret .none)) { s with heap:=sortedHeap s.heap a vs (eP dc lt vs).toArray }):
  wpAny (model prog w) A (Builtin.«list.sort» ⟨[.ref a],[]⟩) P E s:=by
 rw[list_sort_plain]
 have L:a<s.heap.objs.size:=bh u
 refine wpAny_bind (listItems_at u rfl ?_);refine wpAny_bind (I_ u rfl ?_);obtain⟨y,r⟩:∃y,(s.heap.update a (eZ λ_=> #[])).get? a=some (di "list" #[] y):=⟨_,get?_update_seq u (λ_=> #[])⟩;refine wpAny_bind (Ja r rfl ?_);refine wpAny_bind (wpAny_newTuple ?_);refine wpAny_bind (I0 ?_);refine wpAny_holding ?_
 have d:(((s.heap.update a (eZ λ_=> #[])).push (di "tuple" vs.toArray 0)).push (di "list" #[] 0)).get? a=some (di "list" #[] y):=by
  rw[qA _ _ _ (by rw[AS,we];exact bO (j7 L)),qA _ _ _ (by rw[we];exact bO L)];exact r
 show wpAny (model prog w) A _ P E { s with heap:=((s.heap.update a (eZ λ_=> #[])).push (di "tuple" vs.toArray 0)).push (di "list" #[] 0) }
 dsimp only
 have hsz:vs.toArray.size=vs.length:=by simp
 by_cases v:vs.toArray.size<2
 ·rw[if_pos v,if_pos v]
  refine wpAny_bind (wpAny_pure ?_);rw[StateT.run_pure];refine wpAny_bind (wpAny_pure ?_)
  dsimp only
  refine wpAny_bind (Ja d rfl ?_);refine wpAny_bind (I_ d rfl ?_ (hsz2:=by rw[Array.size_map];show(pairsOf vs).size<=_;rw[pairsOf_size,ql];exact fo m));simp only[bne_self_eq_false,kY,if_false]
  have e:(eP dc lt vs).toArray=(arrOf (SortSt.mk' general' (vs.toArray.zip vs.toArray) #[] 7 none)).map (·.2):=by
   unfold eP;rw[if_pos (by omega)]
   show vs.toArray=(vs.toArray.zip vs.toArray).map (·.2)
   apply Array.toList_inj.mp
   rw[Array.toList_map,Array.toList_zip]
   simp[List.map_snd_zip]
  rw[e]at h;exact wpAny_pure h
 ·rw[if_neg v,if_neg v]
  obtain⟨κ,O,T⟩:=N (((s.heap.update a (eZ λ_=> #[])).push (di "tuple" vs.toArray 0)).push (di "list" #[] 0)) (λb o U q=>by
   have t:b<s.heap.objs.size:=bh q
   rw[qA _ _ _ (by rw[AS,we];exact bO (j7 t)),qA _ _ _ (by rw[we];exact bO t),ZH _ _ _ _ U]
   exact q) (by lia)
  refine wpAny_bind (kU (O (λκ' f=>κ'=κ/\f={ s with heap:=((s.heap.update a (eZ λ_=> #[])).push (di "tuple" vs.toArray 0)).push (di "list" #[] 0) }) ⟨rfl,rfl⟩) (λκ' f Y=>?_) λ_ _ x=>x.elim);obtain⟨rfl,rfl⟩:=Y
  have z:lD vs.length (jd vs.length)=true:=by
   have:vs.length=2\/vs.length=3:=by lia
   rcases this with e | e
   ·rw[e];exact D_
   ·rw[e];exact Ea
  refine wpAny_bind (kU (PySem.W.kat_run (ks:=vs) (vs:=vs) (κ:=κ') (G:=λp f=>p=iO lt (jd vs.length)/\f={ s with heap:=((s.heap.update a (eZ λ_=> #[])).push (di "tuple" vs.toArray 0)).push (di "list" #[] 0) })
   (Q:=λc f=>(∃p:Array Nat,p.size=vs.length/\arrOf c=p.map (PySem.W.kas_item (vs.toArray.zip vs.toArray))/\p=iO lt (jd vs.length))/\failedOf c=none/\f={ s with heap:=((s.heap.update a (eZ λ_=> #[])).push (di "tuple" vs.toArray 0)).push (di "list" #[] 0) })
   rfl (by omega) (by lia) (λp' c f a1 a2 a3 M=>⟨⟨p',a1,a2,M.1⟩,a3,M.2⟩) (D9 (n:=vs.length) (lt:=lt) (λi j C hi hj B hC=>T i j C hi hj B hC) _ z ⟨rfl,rfl⟩)) ?_ λ_ _ e=>e)
  rintro⟨⟨⟩,c⟩ f ⟨⟨p,H,I,J⟩,hf,rfl⟩
  dsimp only
  have g:=PySem.W.kat_snds (ks:=vs) (vs:=vs) rfl I
  have e:(arrOf c).map (·.2)=(eP dc lt vs).toArray:=by
   rw[g];unfold eP;rw[if_neg (by omega),J]
  refine wpAny_bind (Ja d rfl ?_);refine wpAny_bind (I_ d rfl ?_ (hsz2:=by rw[g,cH,aJ,mQ,H,ql];exact fo m));rw[hf];simp only[bne_self_eq_false,kY,if_false];rw[e];exact wpAny_pure h
theorem Sn{l:Addr}{vs:List Value}{lt:Nat->Nat->Bool}{Q:Value->ao->Prop}(f:s.heap.IsList l vs.toArray)(a:vs.length<=3)
  (g:∀h',(∀b o,s.heap.get? b=some o->h'.get? b=some o)->2<=vs.length->∃κ,(∀Q,Q κ { s with heap:=h' }->wpAny (model prog w) A.in1.in1 (keyKind' vs.toArray) Q (λ_ _=>False) { s with heap:=h' })∧
   ∀i j C,i<vs.length->j<vs.length->i≠j->C (lt i j) { s with heap:=h' }->wpAny (model prog w) A.in1.in1 (keyLt' κ (vs.getD i dc) (vs.getD j dc)) C (λ_ _=>False) { s with heap:=h' })
  (h:Q (.ref (s.heap.objs.size+1)) { s with heap:=sortedAll s.heap vs (eP dc lt vs).toArray }):
  wpAny (model prog w) A (call (.builtin "sorted") [.ref l]) Q E s:=by
 refine ZF kind_sorted plain_sorted entry_sorted (args_sorted1 _) ?_;unfold Builtin.«sorted»;refine wpAny_bind (m:=checkCount "sorted" 1 1 _) (wpAny_pure ?_);refine wpAny_bind (collect_list f ?_ (by rw[ql];exact fo a));refine wpAny_bind (I0 ?_ (by rw[ql];exact fo a))
 have hsz:((s.heap.push (di "list" #[] 0)).update s.heap.objs.size (eZ (· ++vs.toArray))).objs.size=s.heap.objs.size+1:=by
  rw[we,AS]
 have d:(((s.heap.push (di "list" #[] 0)).update s.heap.objs.size (eZ (· ++vs.toArray))).push (di "list" vs.toArray 0)).get? (s.heap.objs.size+1)=some (di "list" vs.toArray 0):=by
  rw[<-hsz];exact cL _ rfl
 have e:∀b o,s.heap.get? b=some o->(((s.heap.push (di "list" #[] 0)).update s.heap.objs.size (eZ (· ++vs.toArray))).push (di "list" vs.toArray 0)).get? b=some o:=λb o q=>by
  have c:b<s.heap.objs.size:=bh q
  rw[qA _ _ _ (by rw[hsz];exact bO (j7 c)),ZH _ _ _ _ (bO c),qA _ _ _ (bO c)];exact q
 show wpAny _ _ _ _ _ { s with heap:=((s.heap.push (di "list" #[] 0)).update s.heap.objs.size (eZ (· ++vs.toArray))).push (di "list" vs.toArray 0) }
 rw[hsz];refine wpAny_bind (wpAny_holding (jD slot_list_sort ⟨_,d,rfl⟩ entry_list_sort ?body (args_list_sort _)))
 case body=>
  refine Sm (s:={ s with heap:=((s.heap.push (di "list" #[] 0)).update s.heap.objs.size (eZ (· ++vs.toArray))).push (di "list" vs.toArray 0) }) (lt:=lt) d a (λh' n p=>g h' (λb o q=>n b o (bO (j7 (bh q))) (e b o q)) p) ⟨_,rfl,?_⟩;exact wpAny_pure ⟨_,rfl,h⟩
end
def uu(h:Heap)(v:Value)(x:Str):Prop:=∃a o xs n t,v=.ref a/\h.get? a=some o/\o.cls=.type "tuple"/\o.data=.seq xs n/\xs[0]?=some (.str x t)
noncomputable def iq(h:Heap):List Value->List Str->Prop
 | [],[]=>True
 | v::vs,x::xs=>uu h v x/\iq h vs xs
 | _,_=>False
theorem iq.len{h:Heap}:∀{vs:List Value}{xs:List Str},iq h vs xs->vs.length=xs.length
 | [],[],_=>rfl
 | v::vs,x::xs,t=>by rw[bR,bR,iq.len t.2]
 | [],_::_,t=>t.elim
 | _::_,[],t=>t.elim
theorem iq.get{h:Heap}:∀{vs:List Value}{xs:List Str}{i:Nat},iq h vs xs->i<vs.length->uu h (vs.getD i dc) (xs.getD i "")
 | v::vs,x::xs,0,t,_=>t.1
 | v::vs,x::xs,i+1,t,a=>by
  have:=iq.get (i:=i) t.2 (by simpa using a)
  simpa using this
 | [],[],i,_,a=>by simp at a
 | [],_::_,_,t,_=>t.elim
 | _::_,[],_,t,_=>t.elim
theorem iq.mono{h h':Heap}(k:∀b o,h.get? b=some o->h'.get? b=some o):∀{vs:List Value}{xs:List Str},iq h vs xs->iq h' vs xs
 | [],[],_=>trivial
 | v::vs,x::xs,⟨⟨a,o,ys,n,t,c,d,e⟩,r⟩=>⟨⟨a,o,ys,n,t,c,k _ _ d,e⟩,iq.mono k r⟩
 | [],_::_,t=>t.elim
 | _::_,[],t=>t.elim
theorem iq.Eb{h:Heap}:∀{vs:List Value}{xs:List Str},iq h vs xs->∃fs,PySem.W.KatTups h vs fs/\fs.length=vs.length/\∀f∈fs,∃x t,f=i9 x t
 | [],[],_=>⟨[],trivial,rfl,λf hf=>by cases hf⟩
 | v::vs,x::xs,⟨⟨a,o,ys,n,t,b,c,d,e,g⟩,r⟩=>by
  subst b
  refine aP (iq.Eb r) λfs i j m=>?_
  refine⟨.str x t::fs,.cons c d e g i,by simp[j],λf hf=>?_⟩;rcases a9.mp hf with rfl | hf
  ·exact⟨x,t,rfl⟩
  ·exact m f hf
 | [],_::_,t=>t.elim
 | _::_,[],t=>t.elim
section
variable {prog:a6}{w:World}{A:a8}{E:Value->ao->Prop}{s:ao}
theorem Sq{v u:Value}{x y:Str}{C:Bool->ao->Prop}(i:uu s.heap v x)(j:uu s.heap u y)(g:(x==y)=false)(H:C (bc x y) s):wpAny (model prog w) A (keyLt' (tuples' true) v u) C E s:=by
 refine dd i λa o xs c=>iE c λn t d I Q J e=>?_;clear i c;subst d
 refine dd j λb p ys c=>iE c λm r d L T M f=>?_;clear j c;subst d
 refine PySem.W.kat_lt I J L M ?_
 obtain⟨B,N⟩:∃B,xs.toList=.str x t::B:=by
  rw[<-sD]at e
  cases q:xs.toList with
  | nil=>rw[q]at e;cases e
  | cons z h=>rw[q]at e;cases e;exact⟨h,rfl⟩
 obtain⟨G,O⟩:∃G,ys.toList=.str y r::G:=by
  rw[<-sD]at f
  cases q:ys.toList with
  | nil=>rw[q]at f;cases f
  | cons z h=>rw[q]at f;cases f;exact⟨h,rfl⟩
 rw[N,O];refine PySem.W.kat_cons (eqBool_str ?_);rw[g];exact PySem.W.kat_no (oneLt_str H)
end
noncomputable def Ec:D->Option Str
 | .tup (.str x::_)=>some x
 | _=>none
def nF:List D->Option (List Str)
 | []=>some []
 | d::ds=>(Ec d).bind λx=>(nF ds).bind λxs=>some (x::xs)
def gC(ks:List Str):Nat->Nat->Bool:=λi j=>bc (ks.getD i "") (ks.getD j "")
def ju:List D->Option D
 | [.lst ds]=>(nF ds).bind λks=>if ds.length<=3/\ks.Nodup then some (.lst (eP .ay (gC ks) ds))else none
 | _=>none
section
variable {X:Cx}{pins:List (Addr × Obj)}{σ:St}{H:Hp}{s:ao}
theorem rC(I:Inv X pins σ H s){vs:List V}:∀{ds:List D}{b:List Value}{ks:List Str},aC X.K H vs ds->Vals vs b->nF ds=some ks->iq s.heap b ks:=by
 induction vs with
 | nil=>intro ds b ks r q h;cases r;cases q;cases h;trivial
 | cons v vs d=>
  intro ds b ks r q h
  cases r with
  | cons r t=>
   cases q with
   | cons q u=>
    refine bS h λx c h=>?_
    refine bS h λxs e h=>?_
    cases h;refine⟨?_,d t u e⟩
    cases r with
    | @tup a ws es f g=>
     cases g with
     | nil=>cases c
     | cons i A=>
      cases i with
      | str y B=>
       cases c;cases q;obtain⟨b,j,⟨o,m,p,n,w⟩,_⟩:=I.tuple f
       cases j with
       | cons z C=>
        obtain⟨t',rfl⟩:=z;exact⟨a,o,_,n,_,rfl,m,p,w,by simp;rfl⟩
      | _=>cases c
    | _=>cases c
theorem Ed{K:aw}{vs:List V}{ds:List D}(r:aC K H vs ds):∀{a:List Nat},(∀i∈a,i<ds.length)->aC K H (a.map λi=>vs.getD i .ay) (a.map λi=>ds.getD i .ay)
 | [],_=>.nil
 | i::a,h=>by
  have b:=h i bg
  obtain⟨v,c,d⟩:=r.get (c6 b);refine .cons ?_ (Ed r λj e=>h j (bV _ e))
  show Rep K H (vs.getD i .ay) (ds.getD i .ay)
  rw[j9,j9,c,c6 b];exact d
end
noncomputable def mu(n:Nat):oE (Array Nat)->Bool
 | .ret p=>p.toList.all λi=>decide (i<n)
 | .ask _ _ k=>mu n (k true)&&mu n (k false)
theorem Ee{n:Nat}{lt:Nat->Nat->Bool}:∀(t:oE (Array Nat)),mu n t=true->∀i∈(iO lt t).toList,i<n
 | .ret p,h,i,c=>by
  have:=ja.mp h i c
  simpa using this
 | .ask a b k,h,i,c=>by
  simp only[mu,bB]at h
  have d:mu n (k (lt a b))=true:=by cases lt a b;exact h.2;exact h.1
  exact Ee (k (lt a b)) d i c
theorem Sr:mu 2 (jd 2)=true:=by decide+kernel
theorem Ss:mu 3 (jd 3)=true:=by decide+kernel
theorem Su{n:Nat}(a:¬n<2)(b:n<=3):mu n (jd n)=true:=by
 have:n=2\/n=3:=by lia
 rcases this with e | e
 ·rw[e];exact Sr
 ·rw[e];exact Ss
noncomputable def pw(n:Nat):oE (Array Nat)->Bool
 | .ret p=>decide (p.toList.length<=n)
 | .ask _ _ k=>pw n (k true)&&pw n (k false)
theorem Ef{n:Nat}{lt:Nat->Nat->Bool}:∀{t:oE (Array Nat)},pw n t=true->(iO lt t).toList.length<=n
 | .ret p,h=>of_decide_eq_true h
 | .ask a b k,h=>by
  simp only[pw,bB]at h
  have c:pw n (k (lt a b))=true:=by cases lt a b;exact h.2;exact h.1
  exact Ef (t:=k (lt a b)) c
theorem Sv{n:Nat}(a:¬n<2)(b:n<=3):pw 3 (jd n)=true:=by
 have:n=2\/n=3:=by omega
 rcases this with e | e
 ·rw[e];decide+kernel
 ·rw[e];decide+kernel
theorem Eg:∀{vs:List V}{us:List Value},Vals vs us->∀{a:List Nat},(∀i∈a,i<vs.length)->Vals (a.map λi=>vs.getD i .ay) (a.map λi=>us.getD i dc)
 | vs,us,r,[],_=>.nil
 | vs,us,r,i::a,h=>by
  have b:=h i bg
  obtain⟨u,c,d⟩:=r.get (c6 b);refine .cons ?_ (Eg r λj e=>h j (bV _ e))
  show L2.RelV (vs.getD i .ay) (us.getD i dc)
  rw[j9,j9,c,c6 b];exact d
theorem Sw{ks:List Str}(h:ks.Nodup){i j:Nat}(b:i<ks.length)(c:j<ks.length)(a:i≠j):(ks.getD i ""==ks.getD j "")=false:=by
 rw[j9,j9,c6 b,c6 c]
 refine beq_eq_false_iff_ne.mpr λe=>a ?_
 have d:ks[i]=ks[j]:=e
 have f:=List.pairwise_iff_getElem.mp (AU.mp h)
 rcases Nat.lt_or_gt_of_ne a with q | q
 ·exact absurd d (f i j b c q)
 ·exact absurd d.symm (f j i c b q)
section
variable {X:Cx}
theorem Sx:lq X (.builtin "sorted") ju:=by
 intro E s σ H xs us Q I M h
 refine cM h λds d r e q=>?_;clear h
 cases r with
 | nil=>cases e
 | cons r t=>
  cases t with
  | cons _ _=>cases r<;>cases e
  | nil=>
   obtain⟨u,rfl,N⟩:=gQ M
   cases r with
   | @lst a vs ds h g=>
    cases N
    refine bS (show(nF ds).bind (λks=>if ds.length<=3/\ks.Nodup then some (D.lst (eP .ay (gC ks) ds))else none)=some d from e) λks O n=>?_
    split at n
    case isFalse=>cases n
    rename_i U;cases n;obtain⟨G,w⟩:=U
    have J:=g.length
    obtain⟨c,m,p⟩:=Inv.c3 I h
    have y:c.length=vs.length:=m.length.symm
    have T:=rC I g m O
    have Y:=T.len
    refine Sn (lt:=gC ks) p (by lia) (λh' kp f=>?_) ?_
    ·have z:=T.mono kp
     refine aP z.Eb λfs f1 f2 f3=>?_
     refine⟨tuples' true,λQ hQ=>PySem.W.kat_kind (T:=qe "str") f1 (by lia) (λv hv=>?_) (by decide) hQ,λi j C A hj B hC=>Sq (z.get A) (z.get hj) (Sw w (by lia) (by lia) B) hC⟩;obtain⟨x,t,rfl⟩:=f3 v hv;exact ZsF
    ·obtain⟨ex,he⟩:=IJ s.heap c (eP dc (gC ks) c).toArray
     have hn:H (s.heap.objs.size+1)=none:=I.aR.fresh (iS _)
     have both:Vals (eP V.ay (gC ks) vs) (eP dc (gC ks) c)/\aC X.K H (eP V.ay (gC ks) vs) (eP D.ay (gC ks) ds)/\(eP V.ay (gC ks) vs).length<=3:=by
      unfold eP;rw[y,J]
      by_cases f:ds.length<2
      ·rw[if_pos f,if_pos f,if_pos f]
       exact⟨m,g,by lia⟩
      ·rw[if_neg f,if_neg f,if_neg f]
       have L:=Ee (lt:=gC ks) _ (Su f G)
       refine⟨Eg m λi A=>by rw[J];exact L i A,Ed g L,?_⟩;rw[aJ];exact Ef (Sv f G)
     obtain⟨b1,b2,b3⟩:=both
     have hz:(eP V.ay (gC ks) vs).length<=aB:=cj b3 (by decide)
     refine⟨.ref (s.heap.objs.size+1),_,I.laid (t':=s.toks) (o:=.lst (eP V.ay (gC ks) vs)) (λb ob q=>IK q) (iS _) ?_,rfl,?_⟩
     ·exact⟨hz,eP dc (gC ks) c,ex,b1,by simpa [di]using he⟩
     ·exact q _ _ (cE hn _) (.lst (.inl bG) (b2.mono (cE hn _)))
   | _=>cases e
theorem Sz:JC X (.builtin "sorted") ju:=⟨Sx⟩
end
section
variable {X:Cx}{x:Str}{pos:Pos}
theorem SA{f:Pos}{a:Scope}(i:Nat)(Q:X.N.Nodup)(M:JI X B iter fi)(E:∀C b c r,JG (bT X a t N' C b c r) B T/\JF (bT X a t N' C b c r) u U/\JE (bT X a t N' C b c r) v Y)(G:X.N[i]?=some x)(hx:Loc X.env.scope x)(g:l3 a X.env=pure t)(j:∀y∈a.names,y.2≠ .cell)(m:a.kind=.function)(d:∀y∈a.names,y.2=.local->a.names.lookup y.1=some .local)(I:h_ X.env.cells t)(w:ia t (jb a X.env).names)(z:eB X a N' cap)(hc:X.calm=true)(J:gu (.ListComp v [⟨B,iter,u,0⟩] a pos) (some (.Name x A)) f.line X.env=pure true)(hf:X.fn x=true\/X.env.scope.names.lookup x=some .local):KS X (.Assign [.Name x A] (.ListComp v [⟨B,iter,u,0⟩] a pos) f) (cX i (lZ (ek cap fi T U Y))):=
 ⟨c7 (CP Q G hx hc M.h g j m d I w z (λC b c r=>by obtain⟨n,L,h3⟩:=E C b c r;exact⟨n.h,L.h,h3.h⟩) (nt M.s) J hf)<|by
  rintro Dn σ H ⟨ρ,O,o,R,e,q⟩
  refine bS e λds n e=>?_
  cases e
  refine bS n λds' L n=>?_
  split at n
  case isFalse=>cases n
  rename_i hn;cases n;refine⟨fz ρ,ds,R.fz,L,λvs H1 p s1 hp r1=>?_⟩
  have S:=SO.of R.ls s1
  obtain⟨R',S'⟩:=(R.mono S).new i hp (aC.hide (R.mono S).ls r1 hn)
  exact q _ _ _ (S.same.trans S') R'⟩
noncomputable def mv:List D->Option D
 | [.int i]=>some (.int i)
 | [.bl k]=>some (.int (if k then 1 else 0))
 | _=>none
theorem SE:lq X (.type "int") mv:=gP.cases<|by
 rintro xs H Q ⟨ds,d,r,e,q⟩
 cases r with
 | nil=>cases e
 | cons r t=>
  cases t with
  | cons _ _=>cases r<;>cases e
  | nil=>
   cases r with
   | int i=>cases e;exact⟨_,Bx,.inl ⟨i,rfl,q _ H (av.refl H) (.int _)⟩⟩
   | bl k=>cases e;exact⟨_,Bx,.inr ⟨k,rfl,q _ H (av.refl H) (.int _)⟩⟩
   | _=>cases e
theorem SF:JC X (.type "int") mv:=⟨SE⟩
end
end DL
namespace HT
open PySem PySem.Spec PyProof.Rows L2
section
variable {prog:a6}{w:World}{A:a8}{E:Value->ao->Prop}{s:ao}
end
end HT
namespace DL
open PySem PySem.Spec PyProof.Rows L2
section
variable {X:Cx}{e st:Expr}{pos p2:Pos}{f fst:ae->Option D}
end
noncomputable def kB(i:Nat)(a:ar):ar:=match a[i]? with
 | some (some (.ow none ds))=>a.set i (some (.ai (.lst ds)))
 | _=>a
def uv(i:Nat)(g:ar->Option aL):ar->Option aL:=λa=>g (kB i a)
theorem RO.Eh{K:aw}{H H2:Hp}{u:St}{m:ar}{O:List Addr}(R:RO K H u m O){i:Nat}{κ:Option (List Key)}{ds:List D}{a:Addr}{d:D}(f:m[i]?=some (some (.ow κ ds)))(w:u[i]?=some (some (.ref a)))(C:a∈O)(s:∀b,b≠a->H2 b=H b)
  (E:av (az H O) (az H2 (O.filter λb=>decide (b≠a)))->Rep K (az H2 (O.filter λb=>decide (b≠a))) (.ref a) d):RO K H2 u (m.set i (some (.ai d))) (O.filter λb=>decide (b≠a))/\av (az H O) (az H2 (O.filter λb=>decide (b≠a))):=by
 have y:i<m.length:=(cA.mp f).1
 have sub:∀b,b∈O.filter (λb=>decide (b≠a))↔b∈O/\b≠a:=λb=>by simp[d6]
 have S:av (az H O) (az H2 (O.filter λb=>decide (b≠a))):=λb o q=>by
  obtain⟨e,G⟩:=iZ q;rw[cv λz=>e ((sub b).mp z).1,s b λz=>e (by rw[z];exact C)];exact G
 have c:∀(j:Nat)(x:SD),(m.set i (some (.ai d)))[j]?=some (some x)->(j=i/\x=.ai d)\/(j≠i/\m[j]?=some (some x)):=λj x h=>by
  by_cases n:i=j
  ·subst n
   rw[i_ y]at h;cases h;exact .inl ⟨rfl,rfl⟩
  ·rw[dQ n]at h
   exact .inr ⟨cn n,h⟩
 refine⟨⟨by rw[iC];exact R.len,λb e=>by rw[s b ((sub b).mp e).2];exact R.ls b ((sub b).mp e).1,λj d h=>?_,λj κ es h=>?_,λj k κ κ' es fs b g p I J=>?_,R.xt.of (λj κ es h=>?_) S λA L o=>⟨λb e=>have z:b≠a:=λz=>o i κ ds a f w (z▸e);⟨(sub b).mpr ⟨L b e,z⟩,s b z⟩,λj κ es b g p=>?_⟩⟩,S⟩
 rotate_left 3
 ·rcases c j _ h with⟨_,q⟩ | ⟨_,h⟩
  ·cases q
  ·exact⟨h,rfl⟩
 ·rcases c j _ g with⟨_,q⟩ | ⟨_,g⟩
  ·cases q
  ·exact o j κ es b g p
 ·rcases c j _ h with⟨rfl,q⟩ | ⟨n,h⟩
  ·cases q
   exact⟨.ref a,w,E S⟩
  ·obtain⟨v,t,B⟩:=R.ai j d h
   exact⟨v,t,B.mono S⟩
 ·rcases c j _ h with⟨_,q⟩ | ⟨n,h⟩
  ·cases q
  ·refine iE (R.ow j κ es h) λb us t B M N Q=>?_
   have r:b≠a:=λz=>by
    subst z;exact n (R.inj j i _ _ es ds b h f t w)
   exact⟨b,us,t,(sub b).mpr ⟨B,r⟩,by rw[s b r];exact M,N.mono S,Q⟩
 ·rcases c j _ g with⟨_,q⟩ | ⟨_,g⟩
  ·cases q
  ·rcases c k _ p with⟨_,q⟩ | ⟨_,p⟩
   ·cases q
   ·exact R.inj j k _ _ es fs b g p I J
theorem RO.drop{K:aw}{H:Hp}{f:St}{b:ar}{O:List Addr}(R:RO K H f b O)(i:Nat):∃g,RO K H f (kB i b) g/\av (az H O) (az H g):=by
  cases d:el i b with
  | none=>
    have e:kB i b=b:=by
      unfold kB;unfold el at d
      split at d
      ·cases d
      ·rename_i h
       first
         | rfl
         | (split
            ·rename_i ds j
             exact absurd j (h ds)
            ·rfl)
    rw[e];exact⟨O,R,av.refl _⟩
  | some ds=>
    have c:=mr d
    have e:kB i b=b.set i (some (.ai (.lst ds))):=by unfold kB;rw[c]
    rw[e]
    refine dq (R.own i ds c) λa vs m n p q=>?_
    exact⟨_,R.Eh c m n (λ_ _=>rfl) λS=>.lst (.inl (by rw[cv λz=>by simp at z];exact p)) (q.mono S)⟩
theorem SG(i:Nat)(h:KB X a g):KB X a (uv i g):=
 ⟨me h.h<|by rintro f j H ⟨b,O,o,R,e,q⟩;exact by obtain⟨c,d,S⟩:=R.drop i;exact⟨kB i b,c,o,d,e,q.mono S⟩⟩
section
variable {X:Cx}{a b e:Expr}{rest:List Expr}{pos:Pos}{f fa fb:ae->Option D}
noncomputable def i0:List D->Option (List Int)
 | []=>some []
 | d::r=>match d with
  | .int i=>(i0 r).map (i:: ·)
  | _=>none
theorem yn:∀{ds:List D}{ns:List Int},i0 ds=some ns->ds=ns.map D.int:=by
 intro ds
 induction ds with
 | nil=>intro ns h;cases h;rfl
 | cons d r c=>
  intro ns h
  cases d with
  | int i=>
   obtain⟨m,g,j⟩:=bC.mp (show(i0 r).map (i:: ·)=some ns from h);subst j;rw[c g]
   rfl
  | _=>cases h
theorem tH{K:aw}{H:Hp}(ns:List Int):∀{vs:List V}{c:List Value},aC K H vs (ns.map D.int)->Vals vs c->qs c ns:=by
 induction ns with
 | nil=>intro vs c r q;cases r;cases q;exact .nil
 | cons n m d=>
  intro vs c r q
  cases r with
  | cons g t=>
   cases g
   cases q with
   | cons h i=>obtain⟨tk,rfl⟩:=h;exact .cons n tk (d t i)
end
end DL
namespace HT
open PySem PySem.Spec PyProof.Rows L2
open AutoSeq1 (wpAny_loadPart')
section
variable {prog:a6}{w:World}{A:a8}{E:Value->ao->Prop}{s:ao}
theorem SH{i:Nat}(a:oF s.heap c t i)(j:IsTup s.heap t b)(m:b[i]?=some x)(n:∀h',oF h' c t (i+1)->lV c s.heap h'->Q x { s with heap:=h' }):wpAny (model prog w) A (AV (.ref c)) Q E s:=by
 refine aP (id a) λo f p d=>?_;refine aP j λq g _ e=>gz e λr h=>?_;clear j e
 unfold AV;refine wpAny_bind (oi (name:=mR "__next__") a.typeIs AW (jD AW a.typeIs ZI ?_ (ZJ _)))
 show wpAny _ _ (field (.ref c) 0>>=_) _ _ s;refine wpAny_bind (qp f d (x:=.ref t) rfl ?_)
 show wpAny _ _ (if(eY t==dc)=true then _ else _) _ _ s;rw[if_neg (show¬((eY t==dc)=true) from bP)]
 show wpAny _ _ (field (.ref c) 1>>=_) _ _ s;refine wpAny_bind (qp f d (x:=.int i 0) rfl ?_)
 show wpAny _ _ (AO (.ref t)>>=_) _ _ s;refine wpAny_bind (v5 g h ?_)
 simp only[k4,m];refine wpAny_bind (oA f d (by simp) (wpAny_pure ⟨x,rfl,wpAny_pure (n _ ⟨_,lY _ f (Obj.isFreed_of_fields (ZK d _)),(Obj.cls_mapFields ..).trans p,by rw[ZK d];simp[jB]⟩ (l4 ..))⟩))
theorem Ei{i:Nat}(p:A.handled=none)(b:oF s.heap f t i)(q:IsTup s.heap t c)(r:c[i]?=none)(u:∀h' e,IV f s.heap h'->(∃o,h'.get? e=some o/\o.cls=.type "StopIteration")->E (.ref e) { s with heap:=h' }):wpAny (model prog w) A (AV (.ref f)) Q E s:=by
 refine aP (id b) λo g v h=>?_;refine aP q λy j _ d=>gz d λz n=>?_;clear q d
 unfold AV;refine wpAny_bind (oi (name:=mR "__next__") b.typeIs AW (jD AW b.typeIs ZI ?_ (ZJ _)))
 show wpAny _ _ (field (.ref f) 0>>=_) _ _ s;refine wpAny_bind (qp g h (x:=.ref t) rfl ?_)
 show wpAny _ _ (if(eY t==dc)=true then _ else _) _ _ s;rw[if_neg (show¬((eY t==dc)=true) from bP)]
 show wpAny _ _ (field (.ref f) 1>>=_) _ _ s;refine wpAny_bind (qp g h (x:=.int i 0) rfl ?_)
 show wpAny _ _ (AO (.ref t)>>=_) _ _ s;refine wpAny_bind (v5 j n ?_)
 simp only[k4,r]
 refine wpAny_bind (wpAny_rule (wpAny_bind (oA g h (by simp) ?_)));show wpAny _ _ (sQ (.type "StopIteration") []>>=_) _ _ _
 refine wpAny_bind ?_;simp only[sQ,newTuple]
 refine wpAny_bind (wpAny_newObj_type ?_ (by size_fits));refine wpAny_bind (m:=firstArgMember _ _) (AF (a:=dc) (by first | rfl | (simp only[firstArgMember];rfl)) ?_)
 refine wpAny_newObj_type ?_ (by size_fits);simp only[raiseNew]
 refine wpAny_bind (wpAny_handled ?_);first | rw[show A.in1.handled=none from p] | rw[p]
 refine wpAny_bind (wpAny_pure (IW (u _ _ (((l4 ..).extBut.push _).push _) ⟨_,cL _ rfl,rfl⟩)))
end
theorem SI{A:a8}(p:A.handled=none)(c t:Addr)(f:t≠c)(a:Array Value):
  Draws prog w A c [c,t] a.size (λi v=>a[i]?=some v) (λi h=>oF h c t i/\IsTup h t a) where
 live:=λ_ _ st=>by obtain⟨⟨o,g,_⟩,_⟩:=st;exact⟨o,g⟩
 frame:=λ_ _ _ st m=>by obtain⟨⟨o,g,r⟩,o2,b,j⟩:=st;exact⟨⟨o,m c (by simp) o g,r⟩,o2,m t (by simp) o2 b,j⟩
 item:=λi s Q E n st q=>SH st.1 st.2 (x:=a[i]) (by simp[n]) λh' d e=>q _ h' s.toks (by simp[n]) ⟨d,by obtain⟨o2,b,j⟩:=st.2;exact⟨o2,e.extBut t o2 f b,j⟩⟩ e
 done:=λs Q E st u=>Ei p st.1 st.2 (by simp) u
theorem SJ{A:a8}(g:A.handled=none)(b t:Addr)(a:Array Value){i:Nat}(m:a[i]?=none):
  Draws prog w A b [b,t] i (λ_ _=>False) (λj h=>j=i/\oF h b t i/\IsTup h t a) where
 live:=λ_ _ st=>by obtain⟨_,⟨o,c,_⟩,_⟩:=st;exact⟨o,c⟩
 frame:=λ_ _ _ st f=>by obtain⟨e,⟨o,c,r⟩,o2,d,n⟩:=st;exact⟨e,⟨o,f b (by simp) o c,r⟩,o2,f t (by simp) o2 d,n⟩
 item:=λj s Q E p st u=>absurd st.1 (bO p)
 done:=λs Q E st q=>Ei g st.2.1 st.2.2 m q
theorem SK(l:Addr)(a:Array Value)(n:Nat)(e:Option Addr)(j:Array (Option Value)):
  Meets (Builtin.«enumerate.__new__» ⟨[.type "enumerate",.ref l],[]⟩) (λ_ R s=>s.heap.get? l=some { cls:=.type "tuple",dict:=e,data:=.seq a n,slots:=j }∧
   R (.ok (.ret (.ref (s.heap.push { cls:=.type "tuple_iterator",data:=.fields #[.ref l,.int 0 0] }).objs.size)))
    { s with heap:=(s.heap.push { cls:=.type "tuple_iterator",data:=.fields #[.ref l,.int 0 0] }).push { cls:=.type "enumerate",data:=.fields #[.none,.bool false,.ref s.heap.objs.size,jB 0,.none,.none] } }):=
 .of_wp λprog w A R s h=>by
  obtain⟨m,g,d,tk,os⟩:=s;obtain⟨b,h⟩:=h
  have f:=sub_enumerate
  have i:IsTup (Shared.heap ⟨m,g,d,tk,os⟩) l a:=⟨_,b,rfl,n,rfl⟩
  wp_walk using wpAny_loadPart' b
  refine wpAny_stack_any λst=>wpAny_pure ?_
  split
  ·rename_i c _ _ _ _ _
   cases(c==qe "enumerate")<;>(wp_walk using wpAny_loadPart' b,iter_tuple i;exact⟨_,rfl,h⟩)
  ·wp_walk using wpAny_loadPart' b,iter_tuple i
   exact⟨_,rfl,h⟩
section
variable {prog:a6}{w:World}{A:a8}{E:Value->ao->Prop}{s:ao}
theorem SM(j:IsTup s.heap l a)(h:∀h',sM h' (s.heap.objs.size+1) s.heap.objs.size 0 .none->oF h' s.heap.objs.size l 0->h'.objs.size=s.heap.objs.size+2->
   (∀b o,s.heap.get? b=some o->h'.get? b=some o)->Q (.ref (s.heap.objs.size+1)) { s with heap:=h' }):wpAny (model prog w) A (call (.type "enumerate") [.ref l]) Q E s:=by
 obtain⟨⟨c,d,m,p⟩,r,e,n,f⟩:=j
 replace e:c=.type "tuple":=e
 replace f:m=.seq a n:=f
 subst e f;refine callType_new F.called_enumerate (by decide) (F.typeCall_enumerate_1 _) (F.newCall_enumerate_1 _) (λg=>ZL g _) F.entry_enumerate_new (SK l a n d p) ⟨r,?_⟩
 have hz:(s.heap.push { cls:=.type "tuple_iterator",data:=.fields #[.ref l,.int 0 0] }).objs.size=s.heap.objs.size+1:=kZ ..
 show _/\_
 rw[hz]
 have i:sM ((s.heap.push { cls:=.type "tuple_iterator",data:=.fields #[.ref l,.int 0 0] }).push { cls:=.type "enumerate",data:=.fields #[.none,.bool false,.ref s.heap.objs.size,jB 0,.none,.none] }) (s.heap.objs.size+1) s.heap.objs.size 0 .none:=by
  have q:=cL (s.heap.push { cls:=.type "tuple_iterator",data:=.fields #[.ref l,.int 0 0] }) (o:={ cls:=.type "enumerate",data:=.fields #[.none,.bool false,.ref s.heap.objs.size,jB 0,.none,.none] }) rfl
  rw[hz]at q;exact q
 exact⟨⟨_,i,rfl⟩,h _ i ⟨_,bx _ (cL _ rfl),rfl,rfl⟩ (by rw[kZ,hz]) λb o x=>bx _ (bx _ x)⟩
end
end HT
namespace DL
open PySem PySem.Spec PyProof.Rows L2
section
variable {X:Cx}{a:Expr}{pos p:Pos}{fa:ae->Option D}
def uw(K:aw)(a:Addr):It:=
 ⟨λi H=>∃xs x,cx K H a xs/\xs[i]?=some x,λi H x H'=>∃p y,H p=none/\H'=upd H p (.tup [.int i,y])/\x=.ref p/\∀xs,cx K H a xs->xs[i]?=some y,λi H=>∃xs,cx K H a xs/\xs.length<=i⟩
theorem SN{P:a6}{w:World}{K:aw}{C:List Expr}{x1}{G:Pos}(a y d:Addr)(m:y≠d):
  Turn P w K (.Tuple C x1 G) (uw K a) [y,d] y (λi h=>(∃c,sM h y d ((i:Nat):Int) c)/\oF h d a i) where
 mem:=by simp
 obj:=λi h st b hb=>by
  obtain⟨⟨c,f⟩,o,j,h3,h4⟩:=st;rcases a9.mp hb with rfl | hb
  ·exact⟨_,f,λv z=>by cases z⟩
  ·have e:b=d:=by simpa using hb
   subst e;exact⟨o,j,λv z=>by rw[h4]at z;cases z⟩
 keep:=λi h h' st k=>by
  obtain⟨⟨c,f⟩,o,j,h3⟩:=st;exact⟨⟨c,k y (by simp) _ f⟩,o,k d (by simp) o j,h3⟩
 item:=by
  intro X B hw hK hc i L s σ H E I hf st Q;subst B hw hK
  refine cz Q λxs x U Y=>?_;clear Q
  refine aP (I.tuple U) λg rv n hz=>?_
  obtain⟨⟨c,f⟩,j⟩:=st;obtain⟨u,hu,ru⟩:=rv.get Y
  have SQ:a≠y:=λz=>by
   subst z
   refine aP n λo q t _=>?_;clear n
   have e:=f.symm.trans q
   cases e
   simp at t
  have SR:a≠d:=λz=>by
   subst z
   refine aP n λo q t _=>?_;clear n
   refine aP j λo2 M N _=>?_;clear j
   rw[q]at M;cases M;rw[t]at N
   simp at N
  have hi:i<g.toArray.size:=by
   rw[cH];exact(cA.mp hu).1
  refine wpAny_pyNext_enum_itemD (HT.SI (A:=X.A.in1) (I.ok.hd hc) d a SR g.toArray) f ⟨j,n⟩ hi m (by simp[m,cn SQ]) λu' h' tk B xT O xU xV ku=>?_
  have lp:u'=u:=by
   have e:g.toArray[i]?=some u:=by simpa using hu
   rw[e]at B;exact(gr B).symm
  subst lp
  exact Dg (J:=(uw X.K a).oQ i H) (T:=λh=>oF h d a (i+1)) I m hf f (by obtain⟨_,q,_⟩:=j;exact bh q) xT xU ku ru (λxW=>⟨_,x,xW,rfl,rfl,λys hy=>by rw[I.sY hy U];exact Y⟩) λ_ e=>by obtain⟨⟨o,q,r⟩,_⟩:=O;exact⟨o,e d o (cn m) q,r⟩
 done:=by
  intro X B hw hK hc i L s σ H E I hf st Q;subst B hw hK
  refine g9 (hf d (by simp)) λg0 g1 g2 g3 g4 g5=>?_
  obtain⟨xs,U,Y⟩:=Q
  refine aP (I.tuple U) λg rv n hz=>?_
  obtain⟨⟨c,f⟩,j⟩:=st
  exact wpAny_pyNext_enum_endD (HT.SJ (A:=X.A.in1) (I.ok.hd hc) d a g.toArray (i:=i) (by rw[Y6];simp;rw[<-rv.length];exact Y)) f ⟨rfl,j,n⟩ λh' eb=>⟨rfl,I.turned (t':=s.toks) (λb o hb e=>eb b o hb e) g0 g1 g3 g4 g5⟩
 self:=λ_ _ _ _ _ st h=>by
  obtain⟨⟨c,f⟩,_⟩:=st;exact Aw f h
noncomputable def Ej:D->Option (List D)
 | .tup xs=>some xs
 | _=>none
def nG(f:ae->Option D):ae->Option (List D):=λb=>(f b).bind λd=>(Ej d).map (iK 0)
theorem SS{c:List (Addr × Obj)}{i:St}{H:Hp}{s:ao}{R:It->Hp->Prop}{E:Value->ao->Prop}{d:List Expr}{m}{f:Pos}{a:Addr}{vs:List V}(I:Inv X c i H s)(h:cx X.K H a vs)(q:R (uw X.K a) H):
  wpAny (model X.prog X.w) X.A (call (.type "enumerate") [.ref a]) (λv n=>wpAny (model X.prog X.w) X.A (mO v) (s_ X c i (.Tuple d m f) R) E n) E s:=by
 refine aP (I.tuple h) λr z t hz=>?_
 refine HT.SM t λh' j u B x=>Aw j ?_
 have y:Inv X c i H { s with heap:=h' }:=I.kept (t':=s.toks) x
 refine⟨s.heap.objs.size+1,[s.heap.objs.size+1,s.heap.objs.size],_,_,H,rfl,y,SN a _ _ (Y7 _),⟨⟨_,j⟩,u⟩,λb hb=>?_,q⟩
 have g:s.heap.objs.size<=b:=by
  rcases a9.mp hb with rfl | hb
  ·exact iS _
  ·have e:b=s.heap.objs.size:=by simpa using hb
   rw[e];exact a5 _
 exact I.m3 g (I.aR.fresh g)
end
end DL
namespace HT
open PySem PySem.Spec PyProof.Rows L2
section
variable {prog:a6}{w:World}{A:a8}{E:Value->ao->Prop}{s:ao}
end
section
variable {prog:a6}{w:World}{A:a8}{E:Value->ao->Prop}{s:ao}
end
end HT
namespace DL
open PySem PySem.Spec PyProof.Rows L2
section
variable {X:Cx}{a b tg:Expr}{pos p:Pos}{fa fb:ae->Option D}
noncomputable def mw:List D->List D->List D
 | x::xs,y::ys=>.tup [x,y]::mw xs ys
 | _,_=>[]
theorem SU{K:aw}{H:Hp}{J:It}{ds:List D}(h:nA K J H [] ds):Wk K J H ds:=λH' s=>by
 obtain⟨f,j⟩:=h H' [] (by rw[lB,lB];exact s) (λa m=>by cases m);refine⟨λi d n=>?_,j⟩;obtain⟨g,y⟩:=f i d n;refine⟨g,λx c q=>?_⟩;obtain⟨S,r⟩:=y x c q
 have e:=S.same
 rw[lB,lB]at e;rw[lB]at r;exact⟨e,r⟩
theorem Ek(c:KW X tg iter fi)(d:KG X tg e)(f:KB X body gb)(g:PassesOwn (model X.prog X.w) X.A X.env X.xe)(i:X.calm=true):
  KS X (.For tg iter body [] pos) (eG fi e gb):=DF c.h c.s d f g i
end
section
variable {X:Cx}{a b:Expr}{pos:Pos}{fb:ae->Option D}{la:ae->Option (List D)}
noncomputable instance(i j:Int):Decidable (Bu i j):=by unfold Bu;infer_instance
end
section
variable {X:Cx}{e ie:Expr}{pos wN np:Pos}{fo fi fv:ar->Option D}{f:ae->Option D}{x:Str}
noncomputable def uz(i:Nat)(a:ar):Option D:=match a[i]? with
 | some (some (.ai d))=>some d
 | _=>none
theorem SV{i:Nat}(h:uz i a=some d):a[i]?=some (some (.ai d)):=by
 unfold uz at h
 split at h
 ·rename_i q;cases h;exact q
 ·cases h
def uA(i:Nat)(f:ar->Option D):ar->Option aL:=λc=>(uz i c).bind λa=>(f c).bind λb=>match a,b with
 | .int u,.int v=>some (.aF (c.set i (some (.ai (.int (u+v))))))
 | _,_=>none
theorem SW(i:Nat)(g:X.N.Nodup)(h:eE X e fo)(j:X.N[i]?=some x)(m:Loc X.env.scope x)(n:X.fn x=true\/X.env.scope.names.lookup x=some .local):KS X (.AugAssign (.Name x d) .Add e pos) (uA i fo):=
 ⟨c7 (KC g j m h.h KI n)<|by
  rintro C E H ⟨p,O,o,R,c,q⟩
  refine bS c λa r c=>?_
  refine bS c λb s c=>?_
  obtain⟨v,t,z⟩:=R.ai i a (SV r)
  cases a with
  | int u=>
   cases b with
   | int w=>
    cases c;cases z;refine⟨.int u,t,p,O,.int w,R,s,λy A S B=>?_⟩;cases B;exact⟨u,w,rfl,rfl,q _ A O S.same ((R.mono S).set i (.int _))⟩
   | _=>cases c
  | _=>first | cases c | (cases b<;>cases c)⟩
end
section
variable {X:Cx}{c:Expr}{body:List Stmt}{pos:Pos}{t:ae->Option Bool}{g:ar->Option aL}
def eQ(t:ae->Option Bool)(g:ar->Option aL):Nat->ar->Option aL
 | 0,_=>none
 | n+1,a=>(t (fz a)).bind λb=>if b=true then(g a).bind λo=>match o with
   | .aF ρ'=>eQ t g n ρ'
   | .cnt ρ'=>eQ t g n ρ'
   | .brk ρ'=>some (.aF ρ')
   | .ret d=>some (.ret d)
  else some (.aF a)
theorem SX(N:Nat)(E:JT X c t)(G:KB X body g)(I:PassesOwn (model X.prog X.w) X.A X.env X.xe:=by exact ZM):KS X (.While c body [] pos) (eQ t g N):=
 ⟨c7 (KN I E.h G.h)<|by
  rintro J σ H ⟨L,O,o,R,M,q⟩
  refine⟨λm f H'=>∃ρ' i,RO X.K H' f ρ' i/\av (az H O) (az H' i)/\eQ t g m ρ'=some o,⟨N,L,O,R,av.refl _,M⟩,?_⟩
  rintro m f H' ⟨ρ',i,x,B,a⟩
  cases m with
  | zero=>cases a
  | succ m=>
   refine bS a λb Q a=>?_
   refine⟨fz ρ',b,x.fz,Q,λy T=>?_⟩
   have S:=SO.of x.ls T
   have z:nv X.K J y i o:=q.mono (B.trans S.same)
   cases b with
   | true=>
    rw[if_pos rfl]at a
    dsimp only
    rw[if_pos rfl]
    refine bS a λC U a=>?_
    refine⟨λr H2=>∃e O2,RO X.K H2 r e O2/\av (az y i) (az H2 O2)/\eQ t g m e=some o,by rintro r H2 ⟨e,O2,R2,Y,e2⟩;exact⟨m,v8 m,e,O2,R2,B.trans (S.same.trans Y),e2⟩,ρ',i,C,x.mono S,U,?_⟩
    cases C with
    | aF e=>exactλj s u n p=>⟨e,u,p,n,a⟩
    | cnt e=>exactλj s u n p=>⟨e,u,p,n,a⟩
    | brk e=>cases a;exactλj s u n p=>z j s u n p
    | ret d=>cases a;exactλv s n p=>z v s n p
   | false=>
    rw[if_neg bP]at a
    dsimp only
    rw[if_neg bP];cases a
    exact z f y i (av.refl _) (x.mono S)⟩
end
section
variable {P:a6}{w:World}{K:aw}{mg:Str->Option Value}{base:Heap}{N:List Str}{qual:Str}{scope:Scope}{f:Addr}{cd:Value}{A:a8}{outer:List Env}{s:ao}{H:Hp}{E:XK}
 {pins:List (Addr × Obj)} {σ:St} {H1:Hp} {s1:ao}
end
noncomputable abbrev El:=Out ⊕ (Str × ae)
noncomputable abbrev DX:=D ⊕ Str
section
variable {X:Cx}{W:Str->St->Hp->Prop}{e c:Expr}{st:Stmt}{yo rest:List Stmt}{pos p:Pos}{f:ae->Option D}{fx:ae->Option DX}{g u:ae->Option El}{gp:ae->Option Out}{t:ae->Option Bool}{fs:ae->Option (List D)}
end
section
variable {X:Cx}{W:Str->St->Hp->Prop}{Zss:Expr}{rest:List Expr}{c:Str}{np ji pos:Pos}{fs:ae->Option (List D)}
end
section
variable {X:Cx}{pins:List (Addr × Obj)}{σ:St}{H:Hp}{s:ao}{e:Value}{E:Value->ao->Prop}
end
end DL
namespace DL
open PySem PySem.Spec PySem.Calls PyProof.Rows L2 PySem.W PySem.Builtin PySem.Builtin.ObjectAttr PySem.Builtin.Getset_descriptor
section
variable {prog:a6}{w:World}{A:a8}{E:Value->ao->Prop}{s:ao}{K:aw}{x D:Addr}{B:String}
end
end DL
namespace DL
open PySem PySem.Spec PyProof.Rows L2
noncomputable def SY(K:aw)(i:Nat)(a:Addr)(f:ae->Option Bool):TT:=λc H Q=>∃d b,cb K H c d/\c[i]?=some (some (.ref a))/\f d=some b/\∀H',av H H'->Q b H'
abbrev HT(X:Cx)(i:Nat)(a:Addr)(e:Expr)(f:ae->Option Bool):Prop:=PT X e (SY X.K i a f)
section
variable {X:Cx}{i:Nat}{a Dc:Addr}{e c b:Expr}{st:Stmt}{rest:List Stmt}{es:List Expr}{pos p p1 p2:Pos}{f:ae->Option D}{g u:ae->Option Out}{t ta tb:ae->Option Bool}
end
section
variable {X:Cx}{i:Nat}{a Dc:Addr}{pos p p1 p2:Pos}
end
section
variable {X:Cx}
end
end DL
namespace DL
open PySem PySem.Spec PyProof.Rows L2 PySem.W
section
variable {K:aw}{C D:Addr}{T:String}
end
end DL
namespace DL
open PySem PySem.Spec PyProof.Rows L2
noncomputable abbrev pz:=aL ⊕ Str
def S0(K:aw)(W:Str->St->Hp->Prop)(b:Ends)(H:Hp)(O:List Addr):pz->Prop
 | .inl o=>nv K b H O o
 | .inr c=>∀a H',av (az H O) H'->W c a H'
def S3(K:aw)(W:Str->St->Hp->Prop)(g:ar->Option pz):TS:=λb c H=>∃a O o,RO K H c a O/\g a=some o/\S0 K W b H O o
structure KX(X:Cx)(W:Str->St->Hp->Prop)(st:Stmt)(g:ar->Option pz):Prop where
 h:PS X st (S3 X.K W g)
section
variable {X:Cx}{W:Str->St->Hp->Prop}{e c tg:Expr}{st:Stmt}{yo rest:List Stmt}{pos p:Pos}{fx:ae->Option DX}{g u:ar->Option pz}{gp:ar->Option aL}{t:ae->Option Bool}{x:Str}
end
section
variable {X:Cx}{W:Str->St->Hp->Prop}{e c:Expr}{st:Stmt}{yo rest:List Stmt}{pos p:Pos}{fx:ae->Option DX}{g u:ae->Option El}{gp:ae->Option Out}{t:ae->Option Bool}{fs:List (ae->Option D)}
end
section
variable {X:Cx}{W:Str->St->Hp->Prop}{e c:Expr}{st:Stmt}{yo rest:List Stmt}{pos p:Pos}{fx:ae->Option DX}{fs:List (ae->Option D)}
end
end DL
namespace HT
open PySem PySem.Spec PyProof.Rows L2
section
variable {prog:a6}{w:World}{A:a8}{E:Value->ao->Prop}{s:ao}
end
end HT
namespace DL
open PySem PySem.Spec PyProof.Rows L2
section
variable {X:Cx}{a:Expr}{pos p:Pos}{fa:ae->Option D}
def Em(K:aw)(H:Hp)(J:It)(ds:List D):Prop:=∃a vs xs,J=uw K a/\ds=iK 0 xs/\cx K H a vs/\aC K H vs xs
theorem S6{K:aw}{H:Hp}{O:List Addr}{J:It}{ds:List D}(h:Em K (az H O) J ds):nA K J H O ds:=by
 intro H' b S f;obtain⟨a,vs,xs,rfl,rfl,h,r⟩:=h
 have c:=nc (S.trans (gR H' b)) h
 refine⟨λi d n=>?_,⟨vs,c,by rw[js,r.length];exact a5 _⟩⟩;obtain⟨y,s,rfl⟩:=ua xs 0 i d n;obtain⟨v,g,t⟩:=r.get s;refine⟨⟨vs,v,c,g⟩,λx u A=>?_⟩;obtain⟨p,z,j,B,C,E⟩:=A
 have:=E vs c
 rw[g]at this;cases this;subst B C
 have m:SO H' (upd H' p (.tup [.int i,v])) b:=SO.of f (cE j _)
 have e:p∉b:=λw=>by obtain⟨us,q,_⟩:=f p w;rw[j]at q;cases q
 refine⟨m,.tup (.of (by rw[cv e];exact bG)) (.cons ?_ (.cons ((t.mono S).mono m.same) .nil))⟩;rw[k1];exact .int _
theorem S9(w:X.mg "enumerate"=none)(x:DE X a fa)(y:Gl X "enumerate")(j:bq [a] X.env=[(false,eval a X.env)]):
  PI X (.Tuple m M n) (.Call (.Name "enumerate" p) [a] [] pos) (λg H R=>∃c ds,cb X.K H g c/\nG fa c=some ds/\∀J H',av H H'->Em X.K H' J ds->R J H'):=by
 intro b s g H R I ⟨c,ds,z,e,q⟩
 refine bS e λd A e=>?_
 rw[bC]at e;obtain⟨ys,v,rfl⟩:=e;refine Call_ (jG I y w DL.boot_enumerate (oa (aK (ng x pa j pos b s g H (λvs f=>av H f/\aC X.K f vs [d]) I ⟨c,[d],z,by simp[o_,o4,A],λvs H' s r=>⟨s,r⟩⟩) λus N B=>?_) j rfl));obtain⟨vs,f,C,E,G,i⟩:=B
 cases i with
 | cons r t=>
  cases t;obtain⟨u,rfl,L⟩:=gQ E
  cases r with
  | @tup a vs ds h i=>
   cases v;cases L;exact SS C h (q _ f G ⟨a,vs,_,rfl,rfl,h,i⟩)
  | _=>cases v
theorem S_(d:X.mg "enumerate"=none)(e:JE X a fa)(f:Gl X "enumerate":=by rfl)(hn:cO a=true:=by rfl):
  KW X (.Tuple b g c) (.Call (.Name "enumerate" p) [a] [] pos) (nG fa):=DD (S9 d e.h f (cf hn)) (λ_ _ _ _ h=>S6 h) rfl
end
section
variable {X:Cx}
theorem pA{ks:List Key}{vs:List V}(a:ks.length=vs.length):(ks.zip vs:List (Key × V)).length=ks.length:=by
 rw[YS]
 lia
noncomputable def atK:List Key->List D->Key->Option D
 | k::ks,v::vs,j=>if k=j then some v else atK ks vs j
 | _,_,_=>none
theorem pB{K:aw}{H:Hp}:∀{ks:List Key}{vs:List V}{ds:List D},aC K H vs ds->∀(j:Key),ks.length=vs.length->(∀d,atK ks ds j=some d->∃v,hV (ks.zip vs:List (Key × V)) j=some v/\Rep K H v d)/\(atK ks ds j=none->hV (ks.zip vs:List (Key × V)) j=none)
 | [],vs,ds,_,j,_=>⟨λd h=>(by cases h),λ_=>rfl⟩
 | k::ks,[],_,_,j,b=>by simp at b
 | k::ks,v::vs,_,.cons (d:=c) (ds:=a) r t,j,b=>by
  have g:=pB (ks:=ks) t j (by simpa using b)
  show(∀d,(if k=j then some c else atK ks a j)=some d->∃f,hV ((k,v)::ks.zip vs:List (Key × V)) j=some f/\Rep K H f d)/\((if k=j then some c else atK ks a j)=none->hV ((k,v)::ks.zip vs:List (Key × V)) j=none)
  by_cases e:k=j
  ·rw[if_pos e,tI (by rw[e])]
   exact⟨λd h=>(by cases h;exact⟨v,rfl,r⟩),λh=>(by cases h)⟩
  ·rw[if_neg e,tJ (by intro z;exact e z)]
   exact g
end
section
variable {X:Cx}{a:Expr}{pos p:Pos}{fa:ae->Option D}
def En(a:Addr)(d:Obj)(b:List (Key × V)):It:=
 ⟨λi H=>H a=some (.dA d (.dK b))/\∃c,b[i]?=some c,λi H x H'=>H'=H/\∃c,b[i]?=some c/\x=kV c.1,λi H=>H a=some (.dA d (.dK b))/\b.length=i⟩
theorem rD{b:List (Addr × Obj)}{g:St}{H:Hp}{s:ao}(I:Inv X b g H s){a:Addr}{f:Obj}{c:List (Key × V)}(h:H a=some (.dA f (.dK c))):
  s.heap.get? a=some f/\(a==jA)=false/\∃vs e,KV c vs/\Heap.DictAt (gM X.prog X.w) s.heap a vs e:=by
 refine gA (I.aR a _ h) λi r j d=>b5 d λvs m n=>?_;clear d
 obtain⟨e,q⟩:=n.dictAt;exact⟨i,j,vs,e,m,q⟩
theorem Ta{K:aw}{H:Hp}{k:Key}(h:m_ k=true):Rep K H (kV k) (kD k):=by
 cases k with
 | inl i=>exact .int i
 | inr x=>exact .str x (of_decide_eq_true h)
theorem uB{K:aw}{H:Hp}{v:V}{d:D}{k:Key}(h:m8 d=some k)(r:Rep K H v d):v=kV k/\m_ k=true/\d=kD k:=by
 cases r with
 | int i=>cases h;exact⟨rfl,rfl,rfl⟩
 | str x b=>cases h;exact⟨rfl,decide_eq_true b,rfl⟩
 | _=>cases h
theorem Tb(h:(gM P w).is k u=true):L2.RelV (kV k) u:=by
 rcases kd h with⟨i,t,rfl,rfl⟩ | ⟨x,t,rfl,rfl⟩
 ·exact⟨t,rfl⟩
 ·exact⟨t,rfl⟩
theorem Tc{P:a6}{w:World}{K:aw}{tg:Expr}(a t:Addr)(ob:Obj)(f:List (Key × V))(M:Nat)(A:∃es,ob.data=.dict es M):
  Turn P w K tg (En a ob f) [t] t (λi h=>h.IsKeyIter t a i f.length M) where
 mem:=by simp
 obj:=λi h st b x=>by
  have e:b=t:=by simpa using x
  subst e
  refine aP st λo e c d=>?_;clear st
  exact⟨o,e,λv z=>by rw[d]at z;cases z⟩
 keep:=λi h h' st k=>by
  obtain⟨o,e,r⟩:=st;exact⟨o,k t (by simp) o e,r⟩
 item:=by
  intro X T hw U hc i m s σ H E I N st Y;subst T hw U;obtain⟨hq,kv,O⟩:=Y
  refine bK (rD I hq) λg1 g2 g=>cz g λvs y Q B=>?_;clear g
  have j:y=M:=by
   refine dq (id B) λo es n _ q2 _=>?_
   rw[g1]at n;cases n;obtain⟨Eo,C⟩:=A;rw[q2]at C;cases C
   rfl
  subst j
  have G:f.length=vs.length:=KV.length Q
  have lu:i<vs.length:=by rw[<-G];exact(cA.mp O).1
  obtain⟨⟨k,u⟩,hu⟩:∃q,vs[i]?=some q:=⟨_,c6 lu⟩
  have hk:k=kv.1:=by
   have q:=KV.keys Q
   have n:(f.map (·.1))[i]?=(vs.map (·.1))[i]?:=by rw[q]
   rw[bJ,bJ,O,hu]at n;exact(gr n).symm
  refine g9 (N t (by simp)) λf0 f1 f2 f3 f4 f5=>?_
  refine wpAny_pyNext_dict_item (by rw[<-G];exact st) B hu λkey h' J L sb=>?_
  have I1:Inv X m σ H { s with heap:=h' }:=I.turned (t':=s.toks) (λb o x e=>(sb.2 b x).trans e) f0 f1 f3 f4 f5
  refine aP (id L) λo e c d=>?_
  refine⟨key,rfl,qL (s:={ s with heap:=h' }) e c d (by decide) ⟨kV kv.1,H,I1,?_,⟨rfl,kv,O,rfl⟩,by rw[G];exact L,λb x=>(N b x).1⟩⟩;rw[<-hk];exact Tb J
 done:=by
  intro X T hw U hc i m s σ H E I N st Y;subst T hw U;obtain⟨hq,O⟩:=Y
  refine bK (rD I hq) λg1 g2 g=>cz g λvs y Q B=>?_;clear g
  have j:y=M:=by
   refine dq (id B) λo es n _ q2 _=>?_
   rw[g1]at n;cases n;obtain⟨Eo,C⟩:=A;rw[q2]at C;cases C
   rfl
  subst j
  have G:f.length=vs.length:=KV.length Q
  refine g9 (N t (by simp)) λf0 f1 f2 f3 f4 f5=>?_
  exact wpAny_pyNext_dict_end (I.ok.hd hc) (by rw[<-G];exact st) B (IC.mpr (by lia)) λh' eb=>⟨rfl,I.turned (t':=s.toks) (λb o x e=>eb b o x e) f0 f1 f3 f4 f5⟩
 self:=λ_ _ _ _ _ st h=>wpAny_pyIter_keyiter st h
def Td:D->Option (List D)
 | .aH ks _=>some (ks.map kD)
 | _=>none
def uC(f:ae->Option D):ae->Option (List D):=λb=>(f b).bind Td
def Er(K:aw)(H:Hp)(J:It)(ds:List D):Prop:=∃(a:Addr)(b:Obj)(ks:List Key)(vs:List V),J=En a b (ks.zip vs)/\ds=ks.map kD/\H a=some (.dA b (.dK (ks.zip vs)))/\ks.length=vs.length/\∀k∈ks,m_ k=true
theorem Te(B:DE X e f):PI X tg e (λw H R=>∃j ds,cb X.K H w j/\uC f j=some ds/\∀J H',av H H'->Er X.K H' J ds->R J H'):=by
 intro c s w H R I ⟨j,ds,C,m,q⟩
 refine bS m λd E m=>?_
 refine aK (B c s w H (λv g=>av H g/\Rep X.K g v d) I ⟨j,d,C,E,λv H' s r=>⟨s,r⟩⟩) λu n G=>?_
 obtain⟨v,g,t,L,M,N⟩:=G
 cases N with
 | @aH a y ks vs ds h r O hn=>
  cases m;cases L
  refine bK (rD t h) λQ T i=>cz i λws U Y z=>?_;clear i
  have x:=KV.length Y
  refine wpAny_pyIter_dict T z ?_;refine⟨n.heap.objs.size,[n.heap.objs.size],_,_,g,rfl,t.kept (t':=n.toks) λb o e=>bx _ e,Tc a _ y _ U ?_,⟨_,cL _ rfl,rfl,by rw[<-x];rfl⟩,λb hb=>?_,q _ g M ⟨a,y,ks,vs,rfl,rfl,h,O,hn.2⟩⟩
  ·refine dq (id z) λo es A _ q2 _=>?_
   rw[Q]at A;cases A;exact⟨es,q2⟩
  ·have e:b=n.heap.objs.size:=by simpa using hb
   subst e;exact t.m3 (a5 _) (t.aR.fresh (a5 _))
 | _=>cases m
end
theorem uD{k:Key}:∀{ks:List Key}{vs:List V}{i:Nat},ks.length=vs.length->ks[i]?=some k->∃v,(ks.zip vs:List (Key × V))[i]?=some (k,v)
 | [],_,_,_,h=>by simp at h
 | _::_,[],_,b,_=>by simp at b
 | a::ks,v::vs,0,_,h=>by
  have e:a=k:=by simpa using h
  exact⟨v,by rw[e];rfl⟩
 | a::ks,v::vs,i+1,b,h=>by
  obtain⟨u,c⟩:=uD (ks:=ks) (vs:=vs) (i:=i) (by simpa using b) (by simpa using h);exact⟨u,by simpa using c⟩
theorem Tf{K:aw}{H:Hp}{O:List Addr}{J:It}{ds:List D}(h:Er K (az H O) J ds):nA K J H O ds:=by
 intro H' m S u;obtain⟨a,n,ks,vs,rfl,rfl,h,b,p⟩:=h
 have c:H' a=some (.dA n (.dK (ks.zip vs))):=(S.trans (gR H' m)) _ _ h
 refine⟨λi d e=>?_,⟨c,by rw[pA b,aJ]⟩⟩;rw[bJ,bC]at e;obtain⟨k,f,rfl⟩:=e;obtain⟨v,g⟩:=uD b f;refine⟨⟨c,_,g⟩,λx q r=>?_⟩;obtain⟨s,w,j,t⟩:=r;rw[g]at j;cases j;subst s t;exact⟨SO.refl _ _,Ta (p _ (ee f))⟩
section
variable {X:Cx}{a b:Expr}{pos:Pos}{fa fb:ae->Option D}
def iP:D->D->Option D
 | .aH ks vs,d=>(m8 d).bind (atK ks vs)
 | _,_=>none
theorem Tg(m:X.A.units+1<cLine)(n:DE X a fa)(s:DE X b fb)(t:w8 b):DE X (.Subscript a b pos) (ab iP fa fb):=
 cD (Mz m n s t)<|by
  rintro L H Q ⟨g,d,R,e,q⟩
  refine bS e λx y e=>?_
  refine bS e λz B e=>?_
  refine⟨g,x,R,y,λv M i C=>⟨g,z,R.mono i,B,λu H2 j E=>?_⟩⟩
  have c:=C.mono j
  cases c with
  | @aH p G ks vs ds h r I hn=>
   refine bS e λk J e=>?_
   obtain⟨rfl,_⟩:=uB J E;obtain⟨w,hw,f⟩:=(pB r k I).1 d e;exact⟨p,w,rfl,.inl ⟨_,k,.inr ⟨G,h⟩,rfl,hw.symm⟩,q w H2 (i.trans j) f⟩
  | _=>cases e
theorem Th(c:X.A.units+1<cLine)(d:JE X a fa)(e:JE X b fb)(f:rk b=true:=by rfl):JE X (.Subscript a b pos) (ab iP fa fb):=⟨Tg c d.h e.h (ub f)⟩
def gE:D->D->Option D
 | d,.aH ks vs=>(m8 d).bind λk=>some (.bl (atK ks vs k).isSome)
 | _,_=>none
def lE:D->D->Option D
 | d,.aH ks vs=>(m8 d).bind λk=>some (.bl (!(atK ks vs k).isSome))
 | _,_=>none
theorem Es{ks:List Key}{vs:List V}(h:H p=some (.dA e (.dK (ks.zip vs))))(r:aC X.K H vs ds)(c:ks.length=vs.length)(k:Key):∃o,oX H p (kV k) o/\o.isSome=(atK ks ds k).isSome:=by
 refine⟨hV (ks.zip vs:List (Key × V)) k,.inl ⟨_,k,.inr ⟨e,h⟩,rfl,rfl⟩,?_⟩
 cases q:atK ks ds k with
 | none=>rw[(pB r k c).2 q];rfl
 | some d=>obtain⟨w,hw,_⟩:=(pB r k c).1 d q;rw[hw];rfl
theorem Ti(i:X.A.units+1<cLine):dJ X (bF .In) gE:=by
 intro c s C H x y v u Q I j m ⟨E,G,d,f,n,e,q⟩
 cases n with
 | @aH p J ks vs ds h r t hn=>
  refine bS e λk w e=>?_
  obtain⟨rfl,_⟩:=uB w f;cases e;cases m;obtain⟨o,g,z⟩:=Es (X:=X) h r t k
  refine L2.w5 i I g j λL B=>⟨.bl o.isSome,H,B,rfl,?_⟩
  rw[z];exact q _ H (av.refl H) (.bl _)
 | _=>first | cases e | (cases f<;>cases e)
theorem Tj(i:X.A.units+1<cLine):dJ X (bF .NotIn) lE:=by
 intro c s C H x y v u Q I j m ⟨E,G,d,f,n,e,q⟩
 cases n with
 | @aH p J ks vs ds h r t hn=>
  refine bS e λk w e=>?_
  obtain⟨rfl,_⟩:=uB w f;cases e;cases m;obtain⟨o,g,z⟩:=Es (X:=X) h r t k
  refine L2.Mt i I g j λL B=>⟨.bl (!o.isSome),H,B,rfl,?_⟩
  rw[z];exact q _ H (av.refl H) (.bl _)
 | _=>first | cases e | (cases f<;>cases e)
end
section
variable {X:Cx}{pins:List (Addr × Obj)}{σ:St}{H:Hp}{s:ao}{O:List Addr}
def Dl(u:HO):Prop:=∃a,u=.dK a\/∃o,u=.dA o (.dK a)
theorem Inv.swap(I:Inv X pins σ H s)(h:∀b,H2 b=H b\/∃u g,H b=some u/\H2 b=some g/\Dl u/\dB X.prog X.w H s.heap b g/\∀o v,X.je b≠some (.dA o v)):Inv X pins σ H2 s:=by
 have none_of:∀b,H b=none->H2 b=none:=λb e=>by
  rcases h b with q | ⟨u,_,q,_⟩
  ·rw[q];exact e
  ·rw[e]at q;cases q
 have d:∀b u,H b=some u->¬Dl u->H2 b=some u:=λb u e n=>by
  rcases h b with q | ⟨m,_,q,_,z,_⟩
  ·rw[q];exact e
  ·rw[e]at q;cases q;exact absurd z n
 refine⟨I.ok,I.os,I.bare,⟨I.base.keep,I.base.slot,λb o e n i=>none_of b (I.base.free b o e n i),I.base.there,λb xs e=>d b _ (I.base.k6 b xs e) (by rintro⟨_,z | ⟨_,z⟩⟩<;>cases z),λb o u e=>?_,λb ps e=>?_⟩,I.loc,I.cell,none_of _ I.free,λx c e=>none_of _ (I.g_ x c e),λp j=>by obtain⟨a,b,c⟩:=I.pin p j;exact⟨a,none_of _ b,c⟩,λb u e=>?_,I.len⟩
 ·rcases h b with q | ⟨_,_,_,_,_,_,z⟩
  ·rw[q];exact I.base.iT b o u e
  ·exact absurd e (z o u)
 ·obtain⟨f,q⟩:=I.base.kg b ps e
  exact⟨f,d b _ q (by rintro⟨_,z | ⟨_,z⟩⟩<;>cases z)⟩
 ·have ok:dB X.prog X.w H s.heap b u:=by
   rcases h b with q | ⟨_,_,_,q,_,z,_⟩
   ·rw[q]at e;exact I.aR b u e
   ·rw[q]at e;cases e;exact z
  exact ok.kf (λ_ _ _ q=>q) (λc q=>d c _ q (by rintro⟨_,z | ⟨_,z⟩⟩<;>cases z)) λc xs q=>d c _ q (by rintro⟨_,z | ⟨_,z⟩⟩<;>cases z)
noncomputable def nH:Option HO->Bool
 | some (.dK _)=>true
 | _=>false
noncomputable def ir(H:Hp)(h:Heap)(O:List Addr):Hp:=λb=>if b∈O then(match H b,h.get? b with
 | some (.dK a),some c=>some (.dA c (.dK a))
 | _,_=>none)else H b
theorem rE(a:b∉O):ir H h O b=H b:=if_neg a
theorem Tn(a:b∈O)(e:H b=some (.lst vs)):ir H h O b=none:=by unfold ir;rw[if_pos a,e]
theorem To{K:aw}(a:b∈O)(e:H b=some (dH K b ks vs)):ir H h O b=none:=by unfold ir;rw[if_pos a,e]
theorem yp{h:Heap}(c:b∈O)(e:H b=some (.dK a))(q:h.get? b=some d):ir H h O b=some (.dA d (.dK a)):=by unfold ir;rw[if_pos c,e,q]
theorem Et:av (az H O) (ir H h O):=λb o e=>by obtain⟨a,e⟩:=iZ e;rw[rE a];exact e
def my(H:Hp)(O:List Addr):List Addr:=O.filter λa=>!nH (H a)
def pC(H:Hp)(O:List Addr):List Addr:=O.filter λa=>nH (H a)
theorem jv:b∈my H O↔b∈O/\nH (H b)=false:=by unfold my;rw[d6];simp
theorem rF:b∈pC H O↔b∈O/\nH (H b)=true:=by unfold pC;rw[d6]
theorem Inv.Eu(I:Inv X pins σ H s)(i:jK H O):Inv X (pins++iG (my H O) s.heap) σ (ir H s.heap O) s:=by
 refine Inv.swap (Inv.hide (O:=my H O) I λa j=>i a (jv.mp j).1) λb=>?_
 by_cases f:b∈O
 ·obtain⟨u,d,m⟩:=i b f
  rcases m with⟨vs,rfl⟩ | ⟨g,rfl⟩ | ⟨K,ks,vs,rfl⟩
  ·left
   rw[Tn f d,eD (jv.mpr ⟨f,by rw[d];rfl⟩)]
  rotate_left
  ·left
   rw[To f d,eD (jv.mpr ⟨f,by rw[d];rfl⟩)]
  ·right
   refine aP (Inv.nu I d (.inr (.inl ⟨_,rfl⟩))) λo q _ n=>?_
   exact⟨.dK g,.dA o (.dK g),by rw[cv λz=>by have:=(jv.mp z).2;rw[d]at this;cases this];exact d,yp f d q,⟨g,.inl rfl⟩,⟨q,n _ _ q λc xs e=>by rw[cv λz=>by have z:=jv.mp z;obtain⟨u,h,d⟩:=i c z.1;rw[e]at h;cases h;rcases d with⟨_,z⟩ | ⟨_,z⟩ | ⟨_,_,_,z⟩<;>cases z];exact e⟩,λo v z=>by have:=I.base.iT b o v z;rw[d]at this;cases this⟩
 ·left
  rw[rE f,cv λz=>f (jv.mp z).1]
theorem Inv.Ew(I:Inv X pins σ H s)(m:jK H O)(S:av (ir H s.heap O) H')(J:Inv X (pins++iG (my H O) s.heap) g H' t):Inv X pins g (lay H O H') t/\∀b∈O,∀u,H' b=some u->Dl u:=by
 have fz:∀b∈O,∀c,H b=some (.dK c)->∃h,H' b=some (.dA h (.dK c)):=λb d c e=>by
  refine aP (Inv.nu I e (.inr (.inl ⟨_,rfl⟩))) λo q _ _=>?_
  exact⟨o,S _ _ (yp d e q)⟩
 have y:Inv X (pins++iG (my H O) s.heap) g (lay H (pC H O) H') t:=Inv.swap J λb=>by
  by_cases d:b∈pC H O
  ·right
   obtain⟨i,z⟩:=rF.mp d;obtain⟨u,f,n⟩:=m b i;rcases n with⟨vs,rfl⟩ | ⟨c,rfl⟩ | ⟨K,ks,vs,rfl⟩
   ·rw[f]at z;cases z
   rotate_left
   ·rw[f]at z;cases z
   ·obtain⟨h,q⟩:=fz b i c f
    exact⟨_,.dK c,q,by rw[gj d];exact f,⟨c,.inr ⟨h,rfl⟩⟩,(J.aR b _ q).2,λo v z=>by have:=I.base.iT b o v z;rw[f]at this;cases this⟩
  ·left
   exact d9 d
 obtain⟨A,hn⟩:=Inv.ue (O:=my H O) I (λa B=>m a (jv.mp B).1) y λb o j=>by
  obtain⟨d,j⟩:=iZ j
  by_cases p:b∈pC H O
  ·rw[gj p];exact j
  ·rw[d9 p]
   refine S _ _ ?_;rw[rE λz=>?_]
   ·exact j
   ·cases q:nH (H b)with
    | true=>exact p (rF.mpr ⟨z,q⟩)
    | false=>exact d (jv.mpr ⟨z,q⟩)
 refine⟨?_,λb d C r=>?_⟩
 ·have e:lay H (my H O) (lay H (pC H O) H')=lay H O H':=by
   funext b
   by_cases d:b∈O
   ·rw[gj d]
    by_cases z:nH (H b)=true
    ·rw[d9 (λw=>by have:=(jv.mp w).2;rw[z]at this;cases this),gj (rF.mpr ⟨d,z⟩)]
    ·rw[gj (jv.mpr ⟨d,by simpa using z⟩)]
   ·rw[d9 d,d9 λw=>d (jv.mp w).1,d9 λw=>d (rF.mp w).1]
  rw[<-e];exact A
 ·obtain⟨u,f,n⟩:=m b d
  have x:nH (H b)=false->Dl C:=λz=>by
   have:=hn b (jv.mpr ⟨d,z⟩)
   rw[d9 (λw=>by have:=(rF.mp w).2;rw[z]at this;cases this),r]at this;cases this
  rcases n with⟨vs,rfl⟩ | ⟨c,rfl⟩ | ⟨K,ks,vs,rfl⟩
  ·exact x (by rw[f];rfl)
  rotate_left
  ·exact x (by rw[f];rfl)
  ·obtain⟨h,q⟩:=fz b d c f
   rw[q]at r;cases r;exact⟨c,.inr ⟨h,rfl⟩⟩
end
mutual
noncomputable def eR:D->Bool
 | .aH _ _=>false
 | .tab .. =>false
 | .tup xs=>gT xs
 | .lst xs=>gT xs
 | _=>true
noncomputable def gT:List D->Bool
 | []=>true
 | x::xs=>eR x&&gT xs
end
def yq(H:Hp)(O:List Addr):Prop:=∀b∈O,∀u,H b=some u->Dl u
theorem yq.out(h:yq H O)(e:H b=some u)(n:¬Dl u):az H O b=some u:=by
 by_cases a:b∈O
 ·exact absurd (h b a u e) n
 ·rw[cv a];exact e
theorem Tp{d:D}{ds:List D}(n:gT (d::ds)=true):eR d=true/\gT ds=true:=by simpa [gT]using n
theorem Rep.Tq{K:aw}{H:Hp}{O:List Addr}(b:yq H O){v:V}{d:D}(r:Rep K H v d):eR d=true->Rep K (az H O) v d:=by
 have c:∀{a xs},Rd H a (.lst xs)->Rd (az H O) a (.lst xs):=λh=>h.imp (λh=>b.out h (by rintro⟨_,z | ⟨_,z⟩⟩<;>cases z))<|by rintro⟨o,h⟩;exact⟨o,b.out h (by rintro⟨_,z | ⟨_,z⟩⟩<;>cases z)⟩
 exact r.go (P:=λd=>eR d=true) (Q:=λds=>gT ds=true) (λ_ h=>h.imp_left λh=>b.out h (by rintro⟨_,z | ⟨_,z⟩⟩<;>cases z)) (λ_=>c) (λ_ h=>h.imp_left c) (λn=>by simp[eR]at n) (λn=>by simp[eR]at n) (λn=>by simpa [eR]using n) Tp
noncomputable def Tr:Option SD->Option D
 | some (.ai d)=>some d
 | some (.ow (some ks) ds)=>some (.aH ks ds)
 | _=>none
def dz(a:ar):ae:=a.map Tr
theorem RO.dz{X:Cx}{s:ao}(R:RO X.K H e f O)(I:Inv X g e H s):cb X.K (ir H s.heap O) e (dz f):=by
 refine⟨by rw[R.len];simp[DL.dz],λi d h=>?_⟩;unfold DL.dz at h;rw[bJ]at h
 cases q:f[i]? with
 | none=>rw[q]at h;cases h
 | some o=>
  rw[q]at h
  cases o with
  | none=>cases h
  | some x=>
   cases x with
   | ai d'=>
    cases h;obtain⟨v,b,c⟩:=R.ai i d q;exact⟨v,b,c.mono Et⟩
   | xt κ ds=>cases h
   | ow κ ds=>
    cases κ with
    | none=>cases h
    | some ks=>
     cases h
     refine iE (R.ow i _ ds q) λa vs b c j n m=>?_
     refine aP (Inv.nu I j (.inr (.inl ⟨_,rfl⟩))) λr p _ _=>?_
     exact⟨.ref a,b,.aH (yp c j p) (n.mono Et) (m ks rfl).1 (m ks rfl).2⟩
def vD(f:ae->Option D):ar->Option D:=λa=>(f (dz a)).bind λd=>if eR d=true then some d else none
theorem Ts(h:JE X e f):eE X e (vD f):=⟨by
 intro p s r H Q I ⟨t,O,d,R,i,q⟩
 refine bS i λd' w i=>?_
 split at i
 case isFalse=>cases i
 rename_i hn;cases i
 refine aK (h.h _ s r (ir H s.heap O) (λv g=>av (ir H s.heap O) g/\Rep X.K g v d) (Inv.Eu I R.ls) ⟨DL.dz t,d,R.dz I,w,λv g j m=>⟨j,m⟩⟩) λu B x=>?_
 obtain⟨v,g,J,y,j,m⟩:=x;obtain⟨z,hz⟩:=Inv.Ew I R.ls j J
 have e:az (lay H O g) O=az g O:=by
  funext b
  by_cases c:b∈O
  ·rw[eD c,eD c]
  ·rw[cv c,cv c,d9 c]
 refine⟨v,lay H O g,z,y,q v _ ⟨?_,λa A=>gj A⟩ (by rw[e];exact m.Tq hz hn)⟩;rw[e];intro b o n;obtain⟨c,n⟩:=iZ n;rw[cv c]
 exact j _ _ (by rw[rE c];exact n)⟩
noncomputable def gk{a:Type}:List Key->List a->Key->a->List a
 | k::ks,x::xs,j,v=>if k=j then v::xs else x::gk ks xs j v
 | _,_,_,v=>[v]
noncomputable def fT:List Key->Key->List Key
 | k::ks,j=>if k=j then k::ks else k::fT ks j
 | [],j=>[j]
theorem Ex{a:Type}{j:Key}{v:a}:∀{ks:List Key}{vs:List a},ks.length=vs.length->(fT ks j).length=(gk ks vs j v).length
 | [],[],_=>rfl
 | k::ks,x::vs,h=>by
  unfold fT gk
  split
  ·exact h
  ·rw[bR,bR,Ex (by simpa using h)]
theorem yr:∀{ks:List Key},i∈fT ks j↔i∈ks\/i=j
 | []=>by simp[fT]
 | k::ks=>by
  unfold fT
  split
  ·rename_i e
   subst e;simp only[a9];exact⟨.inl,λh=>h.elim id .inl⟩
  ·simp only[a9,yr (ks:=ks)]
   exact or_assoc.symm
theorem Ey:∀{ks:List Key},ks.Nodup->(fT ks j).Nodup
 | [],_=>by simp[fT]
 | k::ks,h=>by
  unfold fT
  split
  ·exact h
  ·rename_i e
   rw[g8]at h ⊢;exact⟨λz=>(yr.mp z).elim h.1 e,Ey h.2⟩
theorem aC.gk{K:aw}{H:Hp}{v:V}{d:D}{j:Key}(r:Rep K H v d):∀{ks:List Key}{vs:List V}{ds:List D},aC K H vs ds->aC K H (gk ks vs j v) (gk ks ds j d)
 | [],[],_,.nil=>.cons r .nil
 | [],_::_,_,.cons _ _=>.cons r .nil
 | _::_,[],_,.nil=>.cons r .nil
 | k::ks,x::vs,_,.cons q t=>by
  unfold DL.gk
  split
  ·exact .cons r t
  ·exact .cons q (aC.gk r t)
theorem Ez:∀{ks:List Key}{vs:List V},ks.length=vs.length->ks.Nodup->putK (ks.zip vs:List (Key × V)) j v=(fT ks j).zip (gk ks vs j v)
 | [],[],_,_=>rfl
 | k::ks,x::vs,d,hn=>by
  rw[g8]at hn
  have f:=Ez (j:=j) (v:=v) (ks:=ks) (vs:=vs) (by simpa using d) hn.2
  unfold fT DL.gk
  by_cases e:k=j
  ·subst e
   rw[if_pos rfl,if_pos rfl]
   show putK ((k,x)::ks.zip vs) k v=(k,v)::ks.zip vs
   unfold putK;rw[if_pos (by simp)];rw[a_,if_pos rfl]
   congr 1
   refine(sR λp g=>?_).trans (List.map_id _);rw[if_neg λz=>hn.1 ?_]
   ·rfl
   ·have h:p.1∈ks:=(vQ (a:=p.1) (b:=p.2) g).1
    rwa [z]at h
  ·rw[if_neg e,if_neg e]
   have c:=e
   show putK ((k,x)::ks.zip vs) j v=(k,x)::(fT ks j).zip (DL.gk ks vs j v)
   rw[<-f];unfold putK;rw[qu,decide_eq_false c,Iz]
   split
   ·rw[a_,if_neg c]
   ·rfl
noncomputable def pE(i:Nat)(a:ar):Option (List Key × List D):=match a[i]? with
 | some (some (.ow (some ks) ds))=>some (ks,ds)
 | _=>none
theorem EA{i:Nat}(h:pE i a=some (ks,ds)):a[i]?=some (some (.ow (some ks) ds)):=by
 unfold pE at h
 split at h
 ·cases h;assumption
 ·cases h
section
variable {X:Cx}{e ke c a b:Expr}{pos wN np:Pos}{x:Str}{fv fk fo:ar->Option D}{f fe fx:ae->Option D}{t:ae->Option Bool}{tt:ar->Option Bool}{la lb:ar->Option (List D)}{g u:ar->Option aL}
structure KT(X:Cx)(c:Expr)(tt:ar->Option Bool):Prop where
 h:PT X c (λσ H Q=>∃ρ O b,RO X.K H σ ρ O/\tt ρ=some b/\∀H',SO H H' O->Q b H')
def yt(t:ae->Option Bool):ar->Option Bool:=λd=>t (dz d)
theorem Tt(h:JT X c t):KT X c (yt t):=⟨by
 intro p s r H Q I ⟨w,O,d,R,y,q⟩
 refine aK (h.h _ s r (ir H s.heap O) (λv i=>av (ir H s.heap O) i/\v=d) (Inv.Eu I R.ls) ⟨DL.dz w,d,R.dz I,y,λi j=>⟨j,rfl⟩⟩) λu E z=>?_
 obtain⟨i,J,j,A⟩:=z;subst A;obtain⟨B,hz⟩:=Inv.Ew I R.ls j J;refine⟨lay H O i,B,q _ ⟨λb o m=>?_,λa C=>gj C⟩⟩;obtain⟨n,m⟩:=iZ m;rw[cv n,d9 n]
 exact j _ _ (by rw[rE n];exact m)⟩
noncomputable def uE(tt:ar->Option Bool)(g u:ar->Option aL):ar->Option aL:=λd=>(tt d).bind λc=>if c=true then g d else u d
theorem Tu{a b:List Stmt}(i:KT X c tt)(j:KB X a g)(m:KB X b u):KS X (.If c a b pos) (uE tt g u):=
 ⟨c7 (wB i.h j.h m.h)<|by
  rintro p r H ⟨d,O,o,R,e,q⟩
  refine bS e λk n e=>?_
  refine⟨d,O,k,R,n,λs S=>?_⟩
  cases k with
  | true=>rw[if_pos rfl]at e;exact⟨d,O,o,R.mono S,e,q.mono S.same⟩
  | false=>rw[if_neg bP]at e;exact⟨d,O,o,R.mono S,e,q.mono S.same⟩⟩
noncomputable def uF(fo:ar->Option D):ar->Option aL:=λh=>(fo h).bind λd=>some (.ret d)
theorem Tv(h:eE X e fo):KS X (.Return (some e) pos) (uF fo):=
 ⟨c7 (sZ h.h)<|by
  rintro m n H ⟨i,O,o,R,e,q⟩
  refine bS e λd j e=>?_
  cases e
  exact⟨i,O,d,R,j,λv H' S r=>q v H' (S.same.trans (gR _ _)) (r.mono (gR _ _))⟩⟩
def nI(i:Nat)(fk fv:ar->Option D):ar->Option aL:=λh=>(fv h).bind λd=>(fk h).bind λk=>(pE i h).bind λp=>(m8 k).bind λj=>if p.1.length<aB then some (.aF (h.set i (some (.ow (some (fT p.1 j)) (gk p.1 p.2 j d)))))else none
theorem Tw{h:St}{H:Hp}{m:ar}{O:List Addr}{i:Nat}{ks:List Key}{ds:List D}{v:V}{d:D}{j:Key}{p:Addr}(R:RO X.K H h m O)(s:m[i]?=some (some (.ow (some ks) ds)))(w:h[i]?=some (some (.ref p)))(r:Rep X.K (az H O) v d)(hz:ks.length<aB)(A:m_ j=true):
  ∃H',oY H p (kV j) v H'/\RO X.K H' h (m.set i (some (.ow (some (fT ks j)) (gk ks ds j d)))) O/\az H' O=az H O:=by
 refine iE (R.ow i _ ds s) λM vs y B C E G=>?_
 rw[w]at y;cases y;obtain⟨n,q⟩:=G ks rfl
 have:=oY.k (k:=j) (v:=v) C (by rw[pA n];exact hz)
 rw[Ez n q.1]at this;obtain⟨R2,I⟩:=R.Dy (κ':=some (fT ks j)) s w B (aC.gk (ks:=ks) (j:=j) r E) (λJ z=>by cases z;exact⟨Ex n,Ey q.1,λk L=>(yr.mp L).elim (q.2 k) λe=>e▸A⟩);exact⟨_,this,R2,I⟩
structure Tx(X:Cx)(st:Stmt)(g:ar->Option aL):Prop where
 h:PS X st (λDn σ H=>∃ρ O ρ',RO X.K H σ ρ O/\g ρ=some (.aF ρ')/\∀H' O',av (az H O) (az H' O')->RO X.K H' σ ρ' O'->Dn.nx σ H')
theorem Tz(i:Nat)(J:X.A.units+1<cLine)(L:eE X e fv)(M:eE X ke fk)(Q:X.N[i]?=some x)(r:eN X.env.scope x)(T:(x==("__debug__":Str))=false)(z:(x==("__classdict__":Str))=false)(B:gu e (some (.Subscript (.Name x np) ke s)) pos.line X.env=pure false):Tx X (.Assign [.Subscript (.Name x np) ke s] e pos) (nI i fk fv):=
 ⟨c7 (MA J (iU Q r T z) M.h L.h B)<|by
  rintro Dn σ H ⟨G,O,ρ',R,m,q⟩
  refine bS m λd U m=>?_
  refine bS m λk Y m=>?_
  obtain⟨⟨ks,ds⟩,h3,m⟩:=bind_some m
  have w:=EA h3
  refine bS m λj hj n=>?_
  split at n
  case isFalse=>cases n
  rename_i hz;cases n;refine⟨G,O,d,R,U,λv H1 C r1=>?_⟩
  refine cz (R.ow i _ ds w) λp vs I _=>?_
  refine⟨.ref p,I,G,O,k,R.mono C,Y,λy H2 E r2=>?_⟩;obtain⟨rfl,B,_⟩:=uB hj r2
  refine aP (Tw ((R.mono C).mono E) w I (r1.mono E.same) hz B) λH3 g R3 hh=>?_
  exact⟨p,H3,rfl,g,q _ O (by rw[hh];exact C.same.trans E.same) R3⟩⟩
theorem TB(i:Nat)(w:X.A.units+1<cLine)(y:eE X e fv)(z:eE X ke fk)(B:X.N[i]?=some x)(n:eN X.env.scope x)(C:(x==("__debug__":Str))=false)(s:(x==("__classdict__":Str))=false)(E:gu e (some (.Subscript (.Name x np) ke r)) pos.line X.env=pure false):KS X (.Assign [.Subscript (.Name x np) ke r] e pos) (nI i fk fv):=
 ⟨c7 (Tz i w y z B n C s E).h<|by
  rintro M G H ⟨I,O,o,R,v,q⟩
  refine bS v λd Q m=>?_
  refine bS m λk T m=>?_
  refine bS m λp U m=>?_
  refine bS m λj _ m=>?_
  have:∃ρ',o=.aF ρ':=by
   split at m
   ·cases m;exact⟨_,rfl⟩
   ·cases m
  obtain⟨ρ',rfl⟩:=this
  exact⟨I,O,ρ',R,v,λH' J S L=>q G H' J S L⟩⟩
end
section
variable {X:Cx}{e ke:Expr}{pos:Pos}{x y:Str}{fk fv:ae->Option D}{EB:List Stmt}{g:ar->Option aL}
structure KD(X:Cx)(e:Expr)(f:ar->Option (List Key × List D)):Prop where
 h:PE X e (λσ H Q=>∃ρ O z,RO X.K H σ ρ O/\f ρ=some z/\∀vs H' p,SO H H' O->H' p=none->aC X.K (az H' O) vs z.2->Q (.ref p) (upd H' p (.dK (z.1.zip vs))))
noncomputable def pF:ar->Option (List Key × List D):=λ_=>some ([],[])
theorem TC(d:True:=jZ):KD X (.Dict [] [] pos) (λa=>pF a):=
 ⟨x9 (fl:=λ_=>some (([],[]):List Key × List D)) (ds:=Prod.snd) (o:=λz _ vs=>.dK (z.1.zip vs)) (cD MD<|by
  rintro f H Q ⟨a,z,R,b,q⟩
  cases b
  exactλp c=>q [] H p (av.refl H) c .nil)⟩
def pG(i:Nat)(f:ar->Option (List Key × List D)):ar->Option aL:=λa=>(f a).bind λz=>if z.1.Nodup/\z.1.length=z.2.length/\z.1.all m_=true then some (.aF (a.set i (some (.ow (some z.1) z.2))))else none
theorem TF(i:Nat)(c:X.N.Nodup)(h:KD X e f)(d:X.N[i]?=some x)(j:Loc X.env.scope x)(m:gu e (some (.Name x a)) pos.line X.env=pure false)(n:X.fn x=true\/X.env.scope.names.lookup x=some .local):KS X (.Assign [.Name x a] e pos) (pG i f):=
 ⟨c7 (oP c d j h.h m n)<|by
  rintro w A H ⟨r,O,o,R,e,q⟩
  refine bS e λz s e=>?_
  split at e
  case isFalse=>cases e
  rename_i hz;cases e;refine⟨r,O,z,R,s,λvs B p S t b=>?_⟩
  obtain⟨u,v⟩:=(R.mono S).Dx (κ:=some z.1) i t b λks e=>by cases e;exact⟨by rw[hz.2.1,b.length],hz.1,ja.mp hz.2.2⟩
  exact q _ _ _ (S.same.trans v) u⟩
def uG(i:Nat)(g:ar->Option aL):ar->Option aL:=λa=>match pE i a with
 | some z=>g (a.set i (some (.ai (.aH z.1 z.2))))
 | none=>none
theorem TH(i:Nat)(h:KB X EB g):KB X EB (uG i g):=⟨by
 intro c s m H t I ⟨u,O,o,R,e,q⟩;unfold uG at e
 cases f:pE i u with
 | none=>rw[f]at e;cases e
 | some z=>
  rw[f]at e;obtain⟨ks,ds⟩:=z
  have d:=EA f
  refine iE (R.ow i _ ds d) λa vs w A j B n=>?_
  refine aP (Inv.nu I j (.inr (.inl ⟨_,rfl⟩))) λp r _ C=>?_
  have E:Inv X c m (upd H a (.dA p (ky (some ks) vs))) s:=Inv.swap I λb=>by
   by_cases z:b=a
   ·subst z
    exact .inr ⟨_,_,j,bG,⟨_,.inl rfl⟩,⟨r,C _ _ r λ_ _ e=>e⟩,λo v z=>by have:=I.base.iT b o v z;rw[j]at this;cases this⟩
   ·exact .inl (bz z)
  obtain⟨R2,S⟩:=R.Eh (H2:=upd H a (.dA p (ky (some ks) vs))) d w A (λb G=>bz G) λS=>Rep.aH (by rw[cv λz=>by simp at z];exact bG) (B.mono S) (n ks rfl).1 (n ks rfl).2
  exact h.h c s m _ t E ⟨_,_,o,R2,e,q.mono S⟩⟩
def rG(i j:Nat):ar->Option aL:=λa=>(el i a).bind λds=>(ds[ds.length-1]?).bind λd=>some (.aF ((a.set i (some (.own (ds.take (ds.length-1))))).set j (some (.ai d))))
theorem TJ{b c:Pos}(i j:Nat)(w:X.N.Nodup)(z:X.N[i]?=some x)(A:eN X.env.scope x)(B:X.N[j]?=some y)(C:Loc X.env.scope y)(E:(x==("__debug__":Str))=false)(r:(x==("__classdict__":Str))=false)(f:(b.endLine==c.line)=true)(G:gu (.Call (.Attribute (.Name x np) "pop" b) [] [] c) (some (.Name y h)) pos.line X.env=pure false)(I:X.fn y=true\/X.env.scope.names.lookup y=some .local):KS X (.Assign [.Name y h] (.Call (.Attribute (.Name x np) "pop" b) [] [] c) pos) (rG i j):=
 ⟨c7 (oP w B C (Mc ou PySem.F.slot_list_pop PySem.F.type_list_pop Mh (iU z A E r) rfl f) G I)<|by
  rintro U Y H ⟨ρ,O,o,R,m,q⟩
  refine bS m λds J m=>?_
  refine bS m λd L m=>?_
  cases m
  have n:=mr J
  refine dq (R.own i ds n) λa vs s M t p=>?_
  obtain⟨v,Q,T⟩:=p.get L;refine⟨.ref a,s,.inl ⟨rfl,vs,b8.of t⟩,a,vs,v,rfl,rfl,t,by rw[p.length];exact Q,?_⟩;obtain⟨R2,u⟩:=R.chg n s M (p.take (ds.length-1));rw[List.dropLast_eq_take,p.length]
  exact q _ _ O (by rw[u];exact av.refl _) (R2.set j (by rw[u];exact T))⟩
end
section
variable {prog:a6}{w:World}{A:a8}{E:Value->ao->Prop}{s:ao}
end
section
variable {X:Cx}{e a b tg:Expr}{pos p:Pos}{f fa fb:ae->Option D}{fl:ae->Option (List D)}
theorem TK{k:Nat}(c:bL k X.A):dj X (bF .In) gE:=⟨Ti (oV c)⟩
theorem TL{k:Nat}(c:bL k X.A):dj X (bF .NotIn) lE:=⟨Tj (oV c)⟩
end
noncomputable def cR:Nat->D->Bool
 | n+1,.tup xs=>xs.all (cR n)
 | _+1,.int _=>true
 | _+1,.str _=>true
 | _,_=>false
theorem TM{K:aw}{H:Hp}{vs:List V}:∀{ds:List D},aC K H vs ds->∀p∈vs.zip ds,Rep K H p.1 p.2:=by
 induction vs with
 | nil=>intro ds _ p h;simp at h
 | cons v vs a=>
  intro ds r p h
  cases r with
  | cons r t=>
   rw[ZN,a9]at h;rcases h with rfl | h
   ·exact r
   ·exact a t p h
theorem rH{K:aw}{H:Hp}:∀(n:Nat){v:V}{d:D},Rep K H v d->cR n d=true->dU K (iF H) n v d
 | 0,v,d,r,h=>by cases d<;>simp[cR]at h
 | n+1,v,d,r,h=>by
  cases r with
  | int i=>rfl
  | str x _=>rfl
  | tup q r=>
   refine⟨_,q.elim (λz=>.inl (mX.mpr z)) λz=>.inr (.inr z),r.length,λp a=>rH n (TM r p a) ?_⟩;exact ja.mp (show List.all _ _=true from h) _ (vQ a).2
  | _=>simp[cR]at h
section
variable {X:Cx}{pins:List (Addr × Obj)}{σ:L2.St}{H:Hp}{s:ao}{a b:Addr}{d:D}{A:a8}{E:Value->ao->Prop}
theorem TN(h:H a=some (.ext f))(u:World->(Addr->Option (List V))->Heap->Prop)(c:Addr)(ys:List V)(e:iF H c=some ys):iF (upd H a (.ext u)) c=some ys:=by
 rw[mX]at e ⊢;rw[bz (A5 e h (by intro z;cases z))];exact e
theorem yu(c:A.units+9<cLine):(qT X.prog X.w).room A.in1:=by show A.in1.units+8<cLine;rw[units_in1];omega
end
section
variable {X:Cx}{o e a:Expr}{pos apos ji p:Pos}{f fa:ae->Option D}
end
def jM(n:Nat)(a:List Key)(b:List D):List Key->List D->Option Bool
 | k::ks,v::vs=>match atK a b k with
  | none=>some false
  | some y=>(bM n v y).bind λe=>(jM n a b ks vs).map (e&& ·)
 | _,_=>some true
def rJ(n:Nat):D->D->Option D
 | .aH ks vs,.aH a b=>if ks.length=a.length then(jM n a b ks vs).map .bl else some (.bl false)
 | _,_=>none
section
variable {X:Cx}{pins:List (Addr × Obj)}{σ:L2.St}{H:Hp}{s:ao}{A:a8}
theorem EC(I:Inv X pins σ H s){n:Nat}(B:A.units+n<cLine){a:List Key}{f:List V}(m:aC X.K H f i)(h:a.length=f.length)(g':KV (a.zip f) p):
  ∀{ks:List Key}{vs:List V}{ds:List D}{ws:List (Key × Value)}{b:Bool},aC X.K H vs ds->ks.length=vs.length->KV (ks.zip vs) ws->jM n a i ks ds=some b->PySem.W.KeqHits A s p ws b
 | [],vs,ds,ws,b,r,j,g,e=>by
  cases vs with
  | nil=>cases r;cases g;cases e;exact .nil
  | cons _ _=>simp at j
 | k::ks,[],ds,ws,b,r,j,g,e=>by simp at j
 | k::ks,v::vs,_,ws,b,.cons (d:=d) (ds:=ds) r t,j,g,e=>by
  rw[ZN]at g
  cases g with
  | @cons _ y _ ws C E=>
   obtain⟨G,u⟩:=y;obtain⟨J,L⟩:=C;cases(show k=G from J)
   have ev:=KV.val g' k
   unfold jM at e
   cases q:atK a i k with
   | none=>
    rw[(pB m k h).2 q]at ev;rw[q]at e;cases e;exact .miss ev.none_of
   | some y=>
    rw[q]at e;obtain⟨w,hw,x⟩:=(pB m k h).1 y q;rw[hw]at ev;obtain⟨Q,z,M⟩:=gO.some_of ev
    refine bS e λc N e=>?_
    obtain⟨T,O,rfl⟩:=bC.mp e;exact .hit z (xi I n B L M r x N) (EC I B m h g' t (by simpa using j) E O)
theorem TQ{n:Nat}(hu:X.A.units+(n+1)<cLine):dJ X (bF .Eq) (rJ n):=by
 intro pins s σ H x y v u Q I M N ⟨dx,dy,d,O,j,e,q⟩
 cases O with
 | @aH a ob ks vs ds h r t hn=>
  cases j with
  | @aH a2 T f U p Y j g hn2=>
   cases M;cases N
   refine bK (rD I h) λ_ w c=>cz c λws ep B C=>?_;clear c
   refine bK (rD I Y) λ_ E c=>cz c λi ep2 G J=>?_;clear c
   have l1:=KV.length B
   have l2:=KV.length G
   rw[pA t]at l1;rw[pA g]at l2
   have m:(if ks.length=f.length then(jM n f p ks ds).map D.bl else some (.bl false))=some d:=e
   by_cases L:ks.length=f.length
   ·rw[if_pos L]at m
    obtain⟨b,hb,rfl⟩:=bC.mp m;refine ZO (r:=b) w E C.dictOf J.dictOf (by lia) (λ_=>EC I (n:=n) (by rw[units_in1];lia) j g G r t B hb) ⟨.bl b,H,I,?_,q _ H (av.refl H) (.bl b)⟩;rw[show(ws.length==i.length)=true by simp;lia,ot]
    rfl
   ·rw[if_neg L]at m
    cases m;refine ZO (r:=true) w E C.dictOf J.dictOf (by omega) (λz=>by lia) ⟨.bl false,H,I,?_,q _ H (av.refl H) (.bl false)⟩;rw[show(ws.length==i.length)=false by simp;omega]
    rfl
  | _=>cases e
 | _=>first | cases e | (cases j<;>cases e)
theorem TR{k:Nat}(a:bL k X.A):dj X (bF .Eq) (rJ 64):=⟨TQ (by have:=a.un;lia)⟩
theorem TU(h:JE X e f)(hn:iY e=true):JI X d e (uC f):=
 ⟨by rintro pins s σ H R I ⟨a,ds,b,c,q⟩;exact Te h.h pins s σ H R I ⟨a,ds,b,c,λJ H' S z=>q J H' S (SU (Tf (by rw[lB];exact z)))⟩,hn⟩
end
noncomputable def atT{a:Type}:List D->List a->D->Option a
 | k::ks,v::vs,d=>if k=d then some v else atT ks vs d
 | _,_,_=>none
noncomputable def lF:List D->D->List D
 | k::ks,d=>if k=d then k::ks else k::lF ks d
 | [],d=>[d]
noncomputable def nJ{a:Type}:List D->List a->D->a->List a
 | k::ks,x::xs,d,v=>if k=d then v::xs else x::nJ ks xs d v
 | _,_,_,v=>[v]
theorem yv:∀{xs:List (D × Addr × Value)}{vs:List V},Vals vs (xs.map (·.2.2))->gO (atT (xs.map (·.1)) vs d) ((atKey xs d).map (·.2))
 | [],_,r=>by cases r;exact trivial
 | x::xs,_,r=>by
  cases r with
  | @cons v u vs us r t=>
   have a:=yv (d:=d) t
   show gO (if x.1=d then some v else atT (xs.map (·.1)) vs d) _
   unfold atKey at a ⊢
   by_cases e:x.1=d
   ·rw[if_pos e,Jb (by simpa using e)]
    exact r
   ·rw[if_neg e,Jc (by simpa using e)]
    exact a
theorem yw:∀{xs:List (D × Addr × Value)},(xs.map (·.1)).Nodup->(oo xs d b u).map (·.1)=lF (xs.map (·.1)) d
 | [],_=>rfl
 | x::xs,hn=>by
  rw[a_,g8]at hn
  have a:=yw (d:=d) (b:=b) (u:=u) hn.2
  show _=if x.1=d then x.1::xs.map (·.1)else x.1::lF (xs.map (·.1)) d
  by_cases e:x.1=d
  ·rw[if_pos e,storedH_old (p:=x.2) (by unfold atKey;rw[Jb (by simpa using e)];rfl),keys_map_putAt]
   rfl
  ·rw[if_neg e]
   unfold oo at a ⊢
   have c:atKey (x::xs) d=atKey xs d:=by unfold atKey;rw[Jc (by simpa using e)]
   rw[c]
   split
   ·rename_i h
    rw[if_pos h]at a;rw[a_,a_,a,show putAt d u x=x from if_neg e]
   ·rename_i h
    rw[if_neg h]at a;rw[Jd,a_,a]
theorem ED(c:RelV v u):∀{xs:List (D × Addr × Value)}{vs:List V},(xs.map (·.1)).Nodup->Vals vs (xs.map (·.2.2))->Vals (nJ (xs.map (·.1)) vs d v) ((oo xs d b u).map (·.2.2))
 | [],_,_,r=>by cases r;exact .cons c .nil
 | x::xs,_,hn,r=>by
  rw[a_,g8]at hn
  cases r with
  | @cons f i vs us r t=>
   have a:=ED (d:=d) (b:=b) c hn.2 t
   show Vals (if x.1=d then v::vs else f::nJ (xs.map (·.1)) vs d v) _
   by_cases e:x.1=d
   ·rw[if_pos e,storedH_old (p:=x.2) (by unfold atKey;rw[Jb (by simpa using e)];rfl),a_,map_putAt_of_not_mem xs d u (by rw[<-e];exact hn.1),a_,show putAt d u x=(x.1,x.2.1,u) from if_pos e]
    exact .cons c t
   ·rw[if_neg e]
    unfold oo at a ⊢
    have g:atKey (x::xs) d=atKey xs d:=by unfold atKey;rw[Jc (by simpa using e)]
    rw[g]
    split
    ·rename_i h
     rw[if_pos h]at a;rw[a_,a_,show putAt d u x=x from if_neg e];exact .cons r a
    ·rename_i h
     rw[if_neg h]at a;exact .cons r a
section
variable {X:Cx}{pins:List (Addr × Obj)}{σ:L2.St}{H:Hp}{s:ao}{a b:Addr}{ks:List D}{vs:List V}{d:D}{v:V}{A:a8}{E:Value->ao->Prop}{e ke:Expr}{pos:Pos}{tk tv td ty:TE}{o i:Expr}{pos':Pos}{fa fb:ae->Option D}
theorem uH(I:Inv X pins σ H s)(h:H a=some (dH X.K a ks vs)):(a==jA)=false/\ks.length<=aB/\∃xs:List (D × Addr × Value),xs.map (·.1)=ks/\(∀x∈xs,dU X.K (iF H) 8 (.ref x.2.1) x.1)/\Vals vs (xs.map (·.2.2))/\s.heap.DictOfH (qT X.prog X.w) a xs:=by
 obtain⟨⟨f,g,xs,j,c,m,o,es,n,p,q,r,t,y⟩,_⟩:=I.aR a _ h;exact⟨f,g,xs,j,c,m,o,es,n,p,q,r,t,λx u=>dU.raw I 8 (.ref _) _ _ rfl (c x u),by simp_all⟩
theorem TV(j:A.units+9<cLine)(I:Inv X pins σ H s)(h:H a=some (dH X.K a ks vs))(k:dU X.K (iF H) 8 (.ref b) d)(q:∀g,Inv X pins σ H g->Q (.bool (!(atT ks vs d).isSome)) g):wpAny (model X.prog X.w) A (bF .NotIn (.ref b) (.ref a)) Q E s:=by
 refine bK (uH I h) λm r c=>eh c λxs f t n p=>?_;clear c;subst f
 refine YJ (yu j) (dU.raw I 8 (.ref _) _ _ rfl k) m p ?_
 have:=(yv (d:=d) n).oW
 rw[Ag]at this;rw[<-this];exact q _ (I.tok _)
theorem TX(j:A.units+9<cLine)(I:Inv X pins σ H s)(h:H a=some (dH X.K a ks vs))(k:dU X.K (iF H) 8 (.ref b) d)(m:atT ks vs d=some v)(q:∀u g,RelV v u->Inv X pins σ H g->Q u g):wpAny (model X.prog X.w) A (jY (.ref a) (.ref b)) Q E s:=by
 refine bK (uH I h) λz B c=>eh c λxs f C n t=>?_;clear c;subst f
 have r:=yv (d:=d) n
 rw[m]at r;obtain⟨u,e,x⟩:=gO.some_of r;obtain⟨p,y,rfl⟩:=bC.mp e;exact YI (yu j) (dU.raw I 8 (.ref _) _ _ rfl k) t y (q _ _ x (I.tok _))
theorem EE:∀{ks:List D},(lF ks d).length<=ks.length+1
 | []=>a5 _
 | k::ks=>by
  unfold lF
  split
  ·exact iS _
  ·exact An EE
theorem EF(I:Inv X pins σ H s)(h:H a=some (dH X.K a ks vs))(k:dU X.K (iF H) 8 (.ref b) d)(t:RelV v u)(B:ks.length<aB):∃xs:List (D × Addr × Value),s.heap.DictOfH (qT X.prog X.w) a xs/\xs.length<=aB/\∀h' tk,h'.DictOfH (qT X.prog X.w) a (oo xs d b u)->lV a s.heap h'->Inv X pins σ (upd H a (dH X.K a (lF ks d) (nJ ks vs d v))) { s with heap:=h',toks:=tk }:=by
 refine bK (uH I h) λC G c=>eh c λxs j p J m=>?_;clear c;subst j
 have f:(xs.map (·.1)).Nodup:=by refine ey m λ_ _ _ _ _ c=>gA c λ_ _ _ z=>?_;clear m c;exact z
 refine⟨xs,m,by rwa [aJ]at G,λh' tk g L=>?_⟩
 refine ey g λo es M q N c=>gA c λO Q T U=>?_;clear g c
 refine w6 I (by rw[h];trivial) L ⟨o,q⟩ (xa ⟨C,cj EE B,_,yw f,λx n=>?_,ED t f J,o,es,M,q,N,O,Q,by simp_all[yw]⟩);refine dU.mono (TN h _) 8 _ _ ?_;unfold oo at n
 split at n
 ·obtain⟨y,r,rfl⟩:=aO.mp n
  unfold putAt
  split
  ·exact p y r
  ·exact p y r
 grind
theorem TY(n:X.A.units+8<cLine)(u:PE X ke tk)(x:PE X e tv):PE X (.Dict [some ke] [e] pos) (λσ H Q=>∀p,H p=none->w9 [(tk,tv)] σ (upd H p (dH X.K p [] [])) λps H2=>∃b v d,ps=[(.ref b,v)]/\H2 p=some (dH X.K p [] [])/\dU X.K (iF H2) 8 (.ref b) d/\Q (.ref p) (upd H2 p (dH X.K p [d] [v]))):=by
 intro pins s σ H Q I h
 have y:=I.laid (a:=s.heap.objs.size) (o:=dH X.K s.heap.objs.size [] []) (h':=s.heap.push { cls:=.type "dict",data:=.dict #[] }) (t':=s.toks) (λ_ _ q=>bx _ q) (a5 _) (xa ⟨beq_eq_false_iff_ne.mpr (cn (bO I.big)),ef _,[],rfl,by simp,.nil,_,#[],0,cL _ rfl,⟨rfl,rfl,rfl⟩,rfl,rfl,ZP⟩)
 refine wpAny_Dict_any rfl rfl (by simp) (by simp) (aK (MF u x ME pins _ σ _ _ y (h _ (I.aR.fresh (a5 _)))) λws T z=>?_);obtain⟨ps,H2,g,c,b,v,d,B,C,j,G⟩:=z;subst B
 cases c with
 | @cons _ m _ _ r t=>
 cases t;obtain⟨m,U⟩:=m;obtain⟨J,L⟩:=r;cases J
 refine aP (EF g C j L (by decide)) λxs M hz N=>?_
 unfold storeAll;rw[List.forIn_cons];refine wpAny_bind (wpAny_bind (wpAny_dictSet_heap (hsz:=hz) (show(qT X.prog X.w).room X.A from n) (dU.raw g 8 (.ref _) _ _ rfl j) M λh' f O=>wpAny_pure ?_));simp only[List.forIn_nil];exact wpAny_pure ⟨.ref _,_,N h' _ f O,rfl,G⟩
theorem TZ(p:X.A.units+9<cLine)(q:PE X o td)(t:PE X i ty)(w:PE X e tv)(f:gu e (some (.Subscript o i pos')) pos.line X.env=pure false):
  PS X (.Assign [.Subscript o i pos'] e pos) (λD σ H=>tv σ H λv g=>td σ g λx H2=>ty σ H2 λy c=>∃a b ks vs d,x=.ref a/\y=.ref b/\c a=some (dH X.K a ks vs)/\ks.length<aB/\dU X.K (iF c) 8 (.ref b) d/\D.nx σ (upd c a (dH X.K a (lF ks d) (nJ ks vs d v)))):=by
 intro pins s σ H D I h;refine wpAny_Assign_Subscript (aK (w pins s σ H _ I h) λr z ⟨v,g,B,C,G⟩=>aK (q pins z σ g _ B G) λu J ⟨x,H2,L,M,N⟩=>aK (t pins J σ H2 _ L N) λO s3 Q=>?_) f;obtain⟨y,c,m,T,a,b,ks,vs,d,U,Y,h1,hl,n,q3⟩:=Q;subst U Y;obtain rfl:u=eY a:=M;obtain rfl:O=eY b:=T
 refine aP (EF m h1 n C hl) λxs D0 hz wr=>?_
 exact YK (hsz:=hz) (yu p) (dU.raw m 8 (.ref _) _ _ rfl n) D0 λh' j f=>⟨σ,_,wr h' _ j f,q3⟩
theorem EG{c:Type}{d:D}:∀{ks:List D}{vs:List c},ks.length=vs.length->((atT ks vs d).isSome=true↔d∈ks)
 | [],[],_=>by simp[atT]
 | k::ks,v::vs,h=>by
  have f:=EG (d:=d) (ks:=ks) (vs:=vs) (by simpa using h)
  unfold atT
  grind
def uI:D->D->Option D
 | .tup k,.tab ks vs=>if cR 8 (.tup k)=true/\ks.length=vs.length then some (.bl (!decide (.tup k∈ks)))else none
 | _,_=>none
theorem T1{k:Nat}(j:bL k X.A):dj X (bF .NotIn) uI:=⟨by
 intro pins s σ H x y v u Q I m n ⟨B,C,d,f,p,e,q⟩;unfold uI at e
 split at e
 case h_2=>cases e
 rename_i kk c t
 split at e
 case isFalse=>cases e
 rename_i g;cases e
 have w:=rH 8 f g.1
 cases f with
 | tup _ _=>
 cases p with
 | @tab a _ vs _ h r=>
 cases m;cases n
 refine TV (by have:=j.un;lia) I h w λG z=>⟨.bl _,H,z,rfl,?_⟩
 have e:(atT c vs (.tup kk)).isSome=decide (.tup kk∈c):=j6.mpr ((EG (g.2.trans r.length.symm)).trans decide_eq_true_iff.symm)
 rw[e]
 exact q _ H (av.refl H) (.bl _)⟩
def nK:D->D->Option D
 | .tab ks vs,.tup k=>if cR 8 (.tup k)=true/\ks.length=vs.length then atT ks vs (.tup k)else none
 | _,_=>none
theorem EH{K:aw}{H:Hp}{k d:D}:∀{ks:List D}{vs:List V}{ds:List D},aC K H vs ds->atT ks ds k=some d->∃v,atT ks vs k=some v/\Rep K H v d
 | [],_,_,_,e=>by simp[atT]at e
 | _::_,_,_,.nil,e=>by simp[atT]at e
 | j::ks,_,_,.cons r t,e=>by
  unfold atT at e ⊢
  split at e
  ·simp_all
  ·rename_i z;rw[if_neg z];exact EH t e
theorem T2{k:Nat}(t:bL k X.A)(w:JE X o fa)(z:JE X i fb)(B:rk i=true):JE X (.Subscript o i pos) (ab nK fa fb):=⟨by
 intro pins s σ H Q I ⟨m,d,R,e,q⟩
 refine bS e λdx C e=>?_
 refine bS e λdy G e=>?_
 unfold nK at e
 split at e
 case h_2=>cases e
 split at e
 case isFalse=>cases e
 rename_i J;refine B5 YL.lookup (ub B) (aK (w.h pins s σ H (λv c=>av H c/\Rep X.K c v _) I ⟨m,_,R,C,λv c a b=>⟨a,b⟩⟩) λu L ⟨x,c,M,N,f,j⟩=>aK (z.h pins L σ c (λv H2=>av c H2/\Rep X.K H2 v _) M ⟨m,_,R.mono f,G,λv c a b=>⟨a,b⟩⟩) λiv s2 O=>?_);obtain⟨y,H2,n,T,g,p⟩:=O
 have U:=rH 8 p J.1
 have j:=j.mono g
 cases j with
 | @tab a ks vs ds h r=>
 cases p with
 | tup _ _=>
 cases N;cases T;obtain⟨v,Y,e2⟩:=EH r e
 exact⟨(by obtain⟨_,_,_,_,_,_,D0⟩:=uH n h;exact D0.typeIs),TX (by have:=t.un;omega) n h U Y λu s' ru I'=>⟨v,H2,I',ru,q v H2 (f.trans g) e2⟩⟩⟩
end
section
variable {K:aw}{H H':Hp}{σ:St}{ρ:ar}{O A:List Addr}{p a:Addr}{κ κ':XD}{ds es:List D}
noncomputable def pH:Option SD->Bool
 | some (.xt _ _)=>false
 | _=>true
theorem RO.newX(R:RO K H σ ρ O)(i:Nat)(r:av H H')(E:∀b∈p::A,H b=none)(I:∀b∈p::A,∃u,H' b=some u/\mq b u)(s:p∉A)(J:∀G,av (az H O) G->OX K H' G κ p A ds)(hn:ρ.all pH=true):RO K H' (σ.set i (some (.ref p))) (ρ.set i (some (.xt κ ds))) (p::A++O)/\av (az H O) (az H' (p::A++O)):=by
 have y:∀(j:Nat)(κ:XD)(ds:List D),ρ[j]?=some (some (.xt κ ds))->False:=λj κ ds h=>by
  have:=ja.mp hn _ (ee h);cases this
 have out:∀b u,H b=some u->b∉p::A:=λb u e z=>by rw[E b z]at e;cases e
 have S:av (az H O) (az H' (p::A++O)):=λb o e=>by
  obtain⟨hb,B⟩:=iZ e;rw[cv λz=>(bW.mp z).elim (out b _ B) hb];exact r _ _ B
 have c:∀(j:Nat)(x:SD),(ρ.set i (some (.xt κ ds)))[j]?=some (some x)->(j=i/\i<ρ.length/\x=.xt κ ds)\/(j≠i/\ρ[j]?=some (some x)):=by grind
 refine⟨⟨by rw[iC,iC];exact R.len,λb hb=>?_,λj e h=>?_,λj κ' es h=>?_,λj k t L es fs a d g n q=>?_,λj t es h=>?_⟩,S⟩
 ·rcases bW.mp hb with hb | hb
  ·exact I b hb
  ·obtain⟨u,e,M⟩:=R.ls b hb
   exact⟨u,r _ _ e,M⟩
 ·rcases c j _ h with⟨_,_,f⟩ | ⟨m,h⟩
  ·cases f
  ·rw[dQ (cn m)]
   obtain⟨v,d,g⟩:=R.ai j e h;exact⟨v,d,g.mono S⟩
 ·rcases c j _ h with⟨_,_,f⟩ | ⟨m,h⟩
  ·cases f
  ·rw[dQ (cn m)]
   refine iE (R.ow j κ' es h) λa us d g n q N=>?_
   exact⟨a,us,d,dR _ g,r _ _ n,q.mono S,N⟩
 ·rcases c j _ d with⟨_,_,f⟩ | ⟨m,d⟩
  ·cases f
  ·rcases c k _ g with⟨_,_,f⟩ | ⟨w,g⟩
   ·cases f
   ·rw[dQ (cn m)]at n
    rw[dQ (cn w)]at q;exact R.inj j k _ _ es fs a d g n q
 ·rcases c j _ h with⟨rfl,Q,f⟩ | ⟨m,h⟩
  ·cases f
   refine⟨λT κ' es h'=>?_,p,A,i_ (by rw[R.len];exact Q),λb hb=>gK _ hb,s,J _ S,λk κ' es b d g hb=>?_⟩
   ·rcases c T _ h' with⟨e,_⟩ | ⟨_,h'⟩
    ·exact e
    ·exact(y _ _ _ h').elim
   ·rcases c k _ d with⟨_,_,f⟩ | ⟨w,d⟩
    ·cases f
    ·rw[dQ (cn w)]at g
     refine dq (R.ow k κ' es d) λa us C _ U _=>?_
     rw[g]at C;cases C;exact out _ _ U hb
  ·exact(y _ _ _ h).elim
theorem RO.yx(R:RO K H σ ρ O){i:Nat}(B:ρ[i]?=some (some (.xt κ ds)))(I:σ[i]?=some (some (.ref a)))(C:∀b∈a::A,b∈O)(t:a∉A)(E:Off σ ρ (a::A))(v:∀b,b∉a::A->H' b=H b)(J:∀b∈a::A,∃u,H' b=some u/\mq b u)(L:OX K H' (az H O) κ' a A es):RO K H' σ (ρ.set i (some (.xt κ' es))) O/\az H' O=az H O:=by
 have r:az H' O=az H O:=by
  funext b
  by_cases n:b∈O
  ·rw[eD n,eD n]
  ·rw[cv n,cv n,v b λz=>n (C b z)]
 have M:i<ρ.length:=(cA.mp B).1
 have c:∀(j:Nat)(x:SD),(ρ.set i (some (.xt κ' es)))[j]?=some (some x)->(j=i/\x=.xt κ' es)\/(j≠i/\ρ[j]?=some (some x)):=by grind
 have G:=(R.xt i κ ds B).1
 refine⟨⟨by rw[iC];exact R.len,λb n=>?_,λj e h=>?_,λj g fs h=>?_,λj k g N m fs b f q w y=>?_,λj g fs h=>?_⟩,r⟩
 ·by_cases z:b∈a::A
  ·exact J b z
  ·rw[v b z];exact R.ls b n
 ·rw[r]
  rcases c j _ h with⟨_,d⟩ | ⟨s,h⟩
  ·cases d
  ·exact R.ai j e h
 ·rw[r]
  rcases c j _ h with⟨_,d⟩ | ⟨s,h⟩
  ·cases d
  ·refine dq (R.ow j g fs h) λb ws f q w y=>?_
   exact⟨b,ws,f,q,by rw[v b (E j g fs b h f)];exact w,y⟩
 ·rcases c j _ f with⟨_,d⟩ | ⟨s,f⟩
  ·cases d
  ·rcases c k _ q with⟨_,d⟩ | ⟨Q,q⟩
   ·cases d
   ·exact R.inj j k _ _ m fs b f q w y
 ·rcases c j _ h with⟨rfl,d⟩ | ⟨s,h⟩
  ·cases d
   refine⟨λT κ' m h'=>?_,a,A,I,C,t,by rw[r];exact L,λk κ' m b f q=>?_⟩
   ·rcases c T _ h' with⟨e,_⟩ | ⟨_,h'⟩
    ·exact e
    ·exact G _ _ _ h'
   ·rcases c k _ f with⟨_,d⟩ | ⟨Q,f⟩
    ·cases d
    ·exact E k κ' m b f q
  ·exact absurd (G _ _ _ h) s
end
section
variable {X:Cx}{e ke ie:Expr}{pos pos' np:Pos}{x:Str}{fk fv f:ae->Option D}{fo fi:ar->Option D}
def uJ(fk fv:ae->Option D):ae->Option (List D × List D):=λa=>(fk a).bind λk=>(fv a).bind λd=>if cR 8 k=true/\cQ d=true then match k with
 | .tup kk=>some ([.tup kk],[d])
 | _=>none else none
theorem T3{k:Nat}(y:bL k X.A)(B:JE X ke fk)(C:JE X e fv):PE X (.Dict [some ke] [e] pos) (λr H Q=>∃g O z,RO X.K H r g O/\uJ fk fv (pv g)=some z/\∀vs H' p,SO H H' O->H' p=none->aC X.K (az H' O) vs z.2->Q (.ref p) (upd H' p (dH X.K p z.1 vs))):=
 x9 (fl:=uJ fk fv) (ds:=Prod.snd) (o:=λz p vs=>dH X.K p z.1 vs) (cD (TY (by have:=y.un;lia) B.h C.h)<|by
  rintro r H Q ⟨g,z,R,a,q⟩
  refine bS a λk E a=>?_
  refine bS a λd G a=>?_
  split at a
  case isFalse=>cases a
  rename_i hn
  split at a
  case h_2=>cases a
  rename_i T kk I;cases a;intro p s
  have j:=cE s (dH X.K p [] [])
  refine⟨g,_,R.mono j,E,λv U m t=>⟨g,d,R.mono (j.trans m),G,λw H2 n J=>?_⟩⟩
  have L:=rH 8 (t.mono n) hn.1
  have i:H2 p=some (dH X.K p [] []):=n _ _ (m _ _ bG)
  cases t with
  | @tup b _ _ _ _=>
  refine⟨b,w,_,rfl,i,L,?_⟩
  have M:upd H2 p (dH X.K p [.tup kk] [w])=upd (az H2 [p]) p (dH X.K p [.tup kk] [w]):=by
   funext c
   by_cases z:c=p
   ·simp_all[bG]
   ·rw[bz z,bz z,cv (by simpa using z)]
  rw[M];refine q [w] (az H2 [p]) p (λc o u=>?_) (eD (by simp)) (.cons (J.hide (O:=[p]) (λc N=>?_) hn.2) .nil)
  ·have Y:c≠p:=jF u s
   rw[cv (by grind)];exact n _ _ (m _ _ (j _ _ u))
  ·cases br.mp N
   exact⟨_,i,.inr (.inr ⟨_,_,_,rfl⟩)⟩)
def uK(i:Nat)(fk fv:ae->Option D):ar->Option aL:=λa=>(uJ fk fv (pv a)).bind λz=>if a.all pH=true then some (.aF (a.set i (some (.xt (.t z.1) z.2))))else none
theorem T4{k:Nat}(i:Nat)(n:bL k X.A)(r:X.N.Nodup)(s:JE X ke fk)(u:JE X e fv)(v:X.N[i]?=some x)(w:Loc X.env.scope x)(y:gu (.Dict [some ke] [e] np) (some (.Name x pos')) pos.line X.env=pure false)(B:X.fn x=true\/X.env.scope.names.lookup x=some .local):KS X (.Assign [.Name x pos'] (.Dict [some ke] [e] np) pos) (uK i fk fv):=
 ⟨c7 (oP r v w (T3 n s u) y B)<|by
  rintro L M H ⟨C,O,o,R,c,q⟩
  refine bS c λz a c=>?_
  split at c
  case isFalse=>cases c
  rename_i hn;cases c
  have h:z.1.length=1/\z.2.length=1:=by
   refine bS a λk _ a=>?_
   refine bS a λd _ a=>?_
   split at a
   case isFalse=>cases a
   split at a
   ·grind
   ·cases a
  refine⟨C,O,z,R,a,λvs Q p S j m=>?_⟩;obtain⟨E,I⟩:=(R.mono S).newX (A:=[]) (κ:=.t z.1) (ds:=z.2) i (cE j (dH X.K p z.1 vs)) (λb g=>by cases br.mp g;exact j) (λb g=>by cases br.mp g;exact⟨_,bG,.inr (.inr ⟨_,_,_,rfl⟩)⟩) (by simp) (λG J=>⟨rfl,vs,bG,m.mono J,by rw[m.length,h.1,h.2]⟩) hn
  exact q _ _ _ (S.same.trans I) E⟩
theorem EI:∀{ks:List D},d∉ks->lF ks d=ks++[d]
 | [],_=>rfl
 | k::ks,h=>by
  simp_all[a9,not_or,lF,if_neg,cn,EI,Jd]
theorem EJ{a:Type}{d:D}{v:a}:∀{ks:List D}{vs:List a},ks.length=vs.length->d∉ks->nJ ks vs d v=vs++[v]
 | [],[],_,_=>rfl
 | k::ks,w::vs,b,h=>by
  rw[a9,not_or]at h;unfold nJ;rw[if_neg (cn h.1),EJ (by simpa using b) h.2,Jd]
def uL(i:Nat)(fk fv:ar->Option D):ar->Option aL:=λa=>(fv a).bind λd=>(fk a).bind λk=>match a[i]?,k with
 | some (some (.xt (.t ks) ds)),.tup kk=>if cR 8 (.tup kk)=true/\ .tup kk∉ks/\ks.length<aB then some (.aF (a.set i (some (.xt (.t (ks++[.tup kk])) (ds++[d])))))else none
 | _,_=>none
theorem T5{k:Nat}(i:Nat)(C:bL k X.A)(E:eE X e fo)(G:eE X ke fi)(I:X.N[i]?=some x)(c:eN X.env.scope x)(J:(x==("__debug__":Str))=false)(j:(x==("__classdict__":Str))=false)(L:gu e (some (.Subscript (.Name x np) ke pos')) pos.line X.env=pure false):KS X (.Assign [.Subscript (.Name x np) ke pos'] e pos) (uL i fi fo):=
 ⟨c7 (TZ (by have:=C.un;lia) (iU I c J j) G.h E.h L)<|by
  rintro Dn σ H ⟨u,O,o,R,a,q⟩
  refine bS a λd M a=>?_
  refine bS a λk Q a=>?_
  split at a
  case h_2=>cases a
  rename_i ks ds kk m
  split at a
  case isFalse=>cases a
  rename_i hn;cases a
  refine bX (R.xt i _ ds m) λ_ g=>cz g λp A n _=>?_;clear g
  refine⟨u,O,d,R,M,λv H1 r T=>⟨.ref p,n,u,O,_,R.mono r,Q,λy H2 s w=>?_⟩⟩
  have R2:=(R.mono r).mono s
  obtain⟨_,p',A,z,U,Y,⟨rfl,vs,f4,f5,f6⟩,f7⟩:=R2.xt i _ ds m;rw[n]at z;cases z
  have kt:=rH 8 (w.mono (gR _ _)) hn.1
  cases w with
  | @tup b _ _ _ _=>
  refine⟨p,b,ks,vs,_,rfl,rfl,f4,hn.2.2,kt,?_⟩;rw[EI hn.2.1,EJ f6 hn.2.1];obtain⟨R3,hh⟩:=R2.yx (A:=[]) (κ':=.t (ks++[.tup kk])) (es:=ds++[d]) (H':=upd H2 p (dH X.K p (ks++[.tup kk]) (vs++[v]))) m n U Y f7 (λb B=>bz (by grind)) (λb B=>by cases br.mp B;exact⟨_,bG,.inr (.inr ⟨_,_,_,rfl⟩)⟩) ⟨rfl,_,bG,f5.append (.cons (T.mono s.same) .nil),by grind⟩
  exact q _ _ O (by rw[hh];exact r.same.trans s.same) R3⟩
def GN(c d:Hp)(vs:List V)(a:List D):Prop:=av c d/\∃A:List Addr,vs=A.map .ref/\A.Nodup/\a=A.map (λ_=>.lst [])/\∀b∈A,c b=none/\d b=some (.lst [])
theorem T6:GE X (.List [] pos) (cC (.lst [])) (GN g):=cD (wO iH)<|by
 rintro n H Q ⟨r,y,vs,h,R,i,⟨S,A,j,s,m,d⟩,q⟩
 cases i;refine⟨ef _,λp a=>?_⟩
 have c:=cE a (.lst [])
 refine q _ _ c ⟨S.trans c,A++[p],by rw[j,cU];rfl,?_,by rw[m,cU];rfl,λb hb=>?_⟩
 ·grind
 ·rcases bW.mp hb with hb | hb
  ·exact⟨(d b hb).1,c _ _ (d b hb).2⟩
  ·cases br.mp hb
   refine⟨?_,bG⟩
   cases z:g p with
   | none=>rfl
   | some u=>rw[S _ _ z]at a;cases a
def pI(i:Nat)(f:ae->Option (List D)):ar->Option aL:=λa=>(f (fz a)).bind λds=>if a.all pH=true then some (.aF (a.set i (some (.xt .n ds))))else none
theorem T7{fL:ae->Option (List D)}{t v:Pos}{a:Scope}(i:Nat)(hN:X.N.Nodup)(hi:JI X tg iter fL)(qZ:∀C c g U,JG (bT X a Y N' C c g U) tg gt/\JF (bT X a Y N' C c g U) I fc)(xy:X.N[i]?=some x)(hx:Loc X.env.scope x)(w:l3 a X.env=pure Y)(B:∀y∈a.names,y.2≠ .cell)(E:a.kind=.function)(m:∀y∈a.names,y.2=.local->a.names.lookup y.1=some .local)(iJ:h_ X.env.cells Y)(J:ia Y (jb a X.env).names)(L:eB X a N' cap)(hc:X.calm=true)(xG:gu (.ListComp (.List [] t) [⟨tg,iter,I,0⟩] a pos) (some (.Name x pos')) v.line X.env=pure true)(hf:X.fn x=true\/X.env.scope.names.lookup x=some .local):KS X (.Assign [.Name x pos'] (.ListComp (.List [] t) [⟨tg,iter,I,0⟩] a pos) v) (pI i (ek cap fL gt fc (cC (.lst [])))):=
 ⟨c7 (CO (G:=GN) (λ_ _ s=>⟨s,[],rfl,.nil,rfl,by simp⟩) (by rintro _ _ _ _ _ s ⟨s0,A,e1,e2,e3,M⟩;exact⟨s0.trans s,A,e1,e2,e3,λb r=>⟨(M b r).1,s _ _ (M b r).2⟩⟩) hN xy hx hc hi.h w B E m iJ J L (λC c g U=>by obtain⟨h1,h2⟩:=qZ C c g U;exact⟨h1.h,h2.h,λ_=>T6⟩) (nt hi.s) xG hf)<|by
  rintro Dn σ H ⟨ρ,O,o,R,e,q⟩
  refine bS e λds h1 e=>?_
  split at e
  case isFalse=>cases e
  rename_i hn;cases e;refine⟨fz ρ,ds,R.fz,h1,λvs H1 p s1 hp zZ=>?_⟩;obtain⟨_,A,e1,e2,e3,M⟩:=zZ;subst e1
  have Q:p∉A:=(by grind)
  have T:∀b∈A,upd H1 p (.lst (A.map .ref)) b=some (.lst []):=λb r=>by rw[bz (λz:b=p=>Q (z▸r))];exact(M b r).2
  have ya:H p=none:=by
   cases z:H p with
   | none=>rfl
   | some u=>rw[s1 _ _ z]at hp;cases hp
  obtain⟨R',S'⟩:=R.newX (A:=A) (κ:=.n) (ds:=ds) i (s1.trans (cE hp (.lst (A.map .ref)))) (λb r=>(a9.mp r).elim (λz=>z▸ya) λz=>(M b z).1) (λb r=>(a9.mp r).elim (λz=>z▸⟨_,bG,.inl ⟨_,rfl⟩⟩) λz=>⟨_,T b z,.inl ⟨_,rfl⟩⟩) Q (λG hG=>⟨bG,e2,by simp_all,λj b d q1 q2=>by
   rw[e3,bJ,q1]at q2;cases q2
   exact⟨[],[],rfl,T b (ee q1),.nil⟩⟩) hn
  exact q _ _ _ S' R'⟩
noncomputable def uM(i:Nat)(fi fv:ar->Option D):ar->Option aL:=λa=>(fi a).bind λk=>(fv a).bind λd=>match a[i]?,k with
 | some (some (.xt .n ds)),.int j=>if 0<=j then match ds[j.toNat]? with
  | some (.lst es)=>if es.length<aB then some (.aF (a.set i (some (.xt .n (ds.set j.toNat (.lst (es++[d])))))))else none
  | _=>none
  else none
 | _,_=>none
theorem T8{g r ip:Pos}(i:Nat)(J:eE X ie fi)(h:eE X e fo)(hs:rk ie=true)(hi:X.N[i]?=some x)(hv:eN X.env.scope x)(hn:cO e=true)(hd:(x==("__debug__":Str))=false)(L:(x==("__classdict__":Str))=false)(s:(g.endLine==r.line)=true):KS X (.Expr (.Call (.Attribute (.Subscript (.Name x np) ie ip) "append" g) [e] [] r) pos) (uM i fi fo):=
 ⟨c7 (oN (md ou Ax Ay tG (BN BR (iU hi hv hd L) J.h (ub hs)) (hE h.h iH (cf hn)) rfl (by rw[lA (show [e].all cO=true by rw[e_,hn];rfl)];rfl) s (cf hn) (ik rfl)) rfl)<|by
  rintro Dn σ H ⟨T,O,o,R,a,q⟩
  refine bS a λk h1 a=>?_
  refine bS a λd h2 a=>?_
  split at a
  case h_2=>cases a
  rename_i ds j U hk0
  split at a
  case isFalse=>cases a
  rename_i h0
  split at a
  case h_2=>cases a
  rename_i es Y
  split at a
  case isFalse=>cases a
  rename_i hz;cases a;obtain⟨_,p,A,e1,t,e3,⟨e4,e5,e6,e7⟩,e8⟩:=R.xt i _ ds U;refine⟨.ref p,e1,T,O,_,R,h1,λy H1 B r1=>?_⟩;cases r1
  have hA:j.toNat<A.length:=by rw[e6];exact(cA.mp Y).1
  have c:=c6 hA
  have G:=ee c
  refine cM (e7 _ _ _ c Y) λvs Eo e9 M C=>?_
  cases e9
  have o1:H1 p=some (.lst (A.map .ref)):=(B.own p (t p (by simp))).trans e4
  have o2:H1 A[j.toNat]=some (.lst vs):=(B.own _ (t _ (bV _ G))).trans M
  refine⟨p,_,j,.ref A[j.toNat],rfl,rfl,b8.of o1,?_,.inl ⟨rfl,vs,b8.of o2⟩,T,O,d,R.mono B,h2,λv H2 Q r2=>?_⟩
  ·have:=wX (xs:=A.map V.ref) (j:=j.toNat) (v:=.ref A[j.toNat]) (by rw[bJ,c];rfl)
   rwa [oG h0]at this
  ·have R2:=(R.mono B).mono Q
   have S:=B.trans Q
   have o3:H2 A[j.toNat]=some (.lst vs):=(Q.own _ (t _ (bV _ G))).trans o2
   have nd:∀b,b∉p::A->upd H2 A[j.toNat] (.lst (vs++[v])) b=H2 b:=λb c=>bz λz=>c (z▸bV _ G)
   have ne:p≠A[j.toNat]:=λz=>e3 (z▸G)
   refine⟨_,vs,v,rfl,rfl,o3,by rw[C.length];exact hz,?_⟩
   have hL:∀b∈p::A,∃u,upd H2 A[j.toNat] (.lst (vs++[v])) b=some u/\mq b u:=λb c=>by
    by_cases z:b=A[j.toNat]
    ·rw[z];exact⟨_,bG,.inl ⟨_,rfl⟩⟩
    ·rw[bz z];exact R2.ls b (t b c)
   have hX:OX X.K (upd H2 A[j.toNat] (.lst (vs++[v]))) (az H2 O) .n p A (ds.set j.toNat (.lst (es++[d]))):=by
    refine⟨by rw[bz ne];exact(S.own p (t p (by simp))).trans e4,e5,by rw[iC];exact e6,λm b x E I=>?_⟩
    by_cases w:j.toNat=m
    ·subst w
     rw[i_ (by lia)]at I;rw[c]at E;cases E;cases I;exact⟨_,_,rfl,bG,(C.mono S.same).append (.cons r2 .nil)⟩
    ·rw[dQ w]at I
     refine cM (e7 m b x E I) λus fs g1 g2 g3=>?_
     refine⟨us,fs,g1,?_,g3.mono S.same⟩;rw[bz]
     ·exact(S.own b (t b (bV _ (ee E)))).trans g2
     ·intro z
      exact w ((ZQ hA e5).mp (by rw[c,E,z]))
   obtain⟨R3,hh⟩:=R2.yx (κ':=.n) U e1 t e3 e8 nd hL hX
   exact q _ _ O (by rw[hh];exact S.same) R3⟩
def uN(i:Nat)(f:ae->Option D):ar->Option aL:=λa=>(el i a).bind λds=>(f (fz a)).bind λd=>match d with
 | .lst es=>if ds.length+es.length<=aB/\cF es=true then some (.aF (a.set i (some (.own (ds++es)))))else none
 | _=>none
def T9:V->List V->Hp->VK->Prop:=λx vs H Q=>∃l b xs a,x=.ref l/\vs=[.ref b]/\H l=some (.lst xs)/\Rd H b (.lst a)/\xs.length+a.length<=aB/\Q .ay (upd H l (.lst (xs++a)))
theorem T_:tE X "list.extend" T9:=by
 intro p s M H x vs v us Q I y A h
 refine dd h λl b xs c=>eh c λB j m t i=>bK i λC hz q=>?_;clear h c i;subst j;subst m
 cases y;obtain⟨u,rfl,E⟩:=A.one;cases E
 refine bX (I.qO t) λz c=>cM c λd n r N e=>?_;clear c
 refine dq (Inv.pb I C) λa n2 w G J _=>?_
 have L:B.length=a.length:=w.length
 have hsz:d.toArray.size+a.toArray.size<=aB:=by rw[cH,cH];lia
 have g:¬(!d.toArray.isEmpty&&Af (d.toArray.size+a.toArray.size))=true:=by
  rw[BV hsz,qr];exact bP
 refine vV Yz ⟨_,e,rfl⟩ YA (YB _ _)
  (YC l d.toArray n b a.toArray n2 g (by lia) (fo hsz)) ⟨e,J,?_⟩
 refine⟨.ay,_,I.tF (its':=d++a) t e (by simp) (r.append w) ?_,rfl,q⟩;rw[bQ];omega
theorem Ua{g j np:Pos}(i:Nat)(h:JE X e f)(z:X.N[i]?=some x)(A:eN X.env.scope x)(hn:cO e=true)
  (B:(x==("__debug__":Str))=false) (p:(x==("__classdict__":Str))=false) (m:(g.endLine==j.line)=true):KS X (.Expr (.Call (.Attribute (.Name x np) "extend" g) [e] [] j) pos) (uN i f):=
 ⟨c7 (oN (md ou Y8 Y9 T_ (iU z A B p) (hE h.h iH (cf hn)) rfl (by rw[lA (show [e].all cO=true by rw[e_,hn];rfl)];rfl) m (cf hn) (ik rfl)) rfl)<|by
  rintro Y σ H ⟨C,O,o,R,c,q⟩
  refine bS c λds E c=>?_
  refine bS c λd G c=>?_
  split at c
  case h_2=>cases c
  rename_i es
  split at c
  case isFalse=>cases c
  rename_i hz;cases c
  have n:=mr E
  refine dq (R.own i ds n) λa vs r I J e4=>?_
  refine⟨.ref a,r,.inl ⟨rfl,vs,b8.of J⟩,fz C,.lst es,R.fz,G,λv H1 L M=>?_⟩
  have S:=SO.of R.ls L
  have s:=R.mono S
  refine dq (s.own i ds n) λa' t u f2 Q w=>?_
  rw[r]at u;cases u
  cases M with
  | @lst b us _ T y=>
  refine⟨a,b,t,us,rfl,rfl,Q,T,by rw[w.length,y.length];exact hz.1,?_⟩;obtain⟨R2,U⟩:=s.chg n r I (w.append (y.hide s.ls hz.2))
  exact q _ _ O (by rw[U];exact S.same) R2⟩
end
end DL
namespace HT
open PySem PySem.Spec PyProof.Rows L2
section
variable {prog:a6}{w:World}{A:a8}{E:Value->ao->Prop}{s:ao}
theorem Ub:sC (.type "list_reverseiterator") "__len__"=pure none:=by rw[AI,AJ];kernel_rfl
theorem Uc:sC (.type "list_reverseiterator") "__length_hint__"=pure (some (.builtin "list_reverseiterator.__length_hint__")):=by rw[AI,AJ];kernel_rfl
noncomputable abbrev uO(items:Array Value):Nat->Value->Prop:=λi v=>items[items.size-1-i]?=some v
theorem Ud{c:Array Value}(B:A.in1.handled=none)(t:l≠I)(f:s.heap.IsRevIter I l ((c.size:Int)-1))(y:s.heap.IsList l c)(C:∀g h,Moved [I] (λa b=>b=a) s g->ItemsOf (uO c) h c.size->Q h.toList g)(hn:c.size<=aB):wpAny (model prog w) A (collect (.ref I)) Q E s:=by
 have W:=(Walks.listRev (prog:=prog) (w:=w) B I l t c).toS
 have u:(λi (s:ao)=>i<=c.size/\s.heap.IsRevIter I l ((c.size:Int)-1-(i:Int))/\s.heap.IsList l c) 0 s:=⟨ef _,by simpa using f,y⟩
 obtain⟨_,G,_⟩:=id f;obtain⟨_,H,_⟩:=id y
 have j:s.heap.objs.size∉[I,l]:=λq=>by
  simp only[a9,kb,or_false]at q;rcases q with z | z
  ·exact absurd (bh G) (by rw[<-z];exact lU _)
  ·exact absurd (bh H) (by rw[<-z];exact lU _)
 have v:s.heap.objs.size≠I:=λe=>j (by simp[e])
 unfold collect
 refine wpAny_bind (AH (mU F.entry_proto_collect ?_));rw[qy F.plain_proto_collect _]
 show wpAny _ A.in1 (newList []>>=λl=>again (.builtin "list.__iadd__" ⟨[l,.ref I],[]⟩)) _ _ s
 refine wpAny_bind (wpAny_newObj_type (wpAny_pure ⟨sO ZR _,mU F.entry_list_iadd ?_⟩));rw[qy ZR _]
 have d:=W.frame 0 s (s.heap.push { cls:=.type "list",data:=.seq ([]:List Value).toArray }) s.toks u (a5 _) λb _ o e=>bx _ e
 have r:wb { s with heap:=s.heap.push { cls:=.type "list",data:=.seq ([]:List Value).toArray } } (.ref I) "list_reverseiterator":=d.2.1.typeIs
 have J:AR (.ref s.heap.objs.size) (.ref I)=false:=by simp[AR,v]
 show wpAny _ A.in1 (AQ (.ref s.heap.objs.size) (.ref I) (.ref s.heap.objs.size)) _ _ _;unfold AQ
 refine wpAny_bind (qq r ?_);rw[if_neg (by rw[J];decide)]
 refine wpAny_bind (W.self 0 _ _ _ d (wpAny_bind (wpAny_holding ?_)));unfold IZ
 refine wpAny_bind (qw r Ub ?_)
 show wpAny _ A.in1 (specialOf (eY I) (mR "__length_hint__")>>=_) _ _ _
 refine wpAny_bind (qw r Uc ?_)
 generalize az:("list_reverseiterator.__length_hint__":String)=m;(fail_if_success (clear az m));wp_delta
 rw[show splitId m=some ("list_reverseiterator","__length_hint__") from by subst az;decide+kernel];subst az
 refine wpAny_bind (v3 (b:=true) r (by rw[v_];kernel_rfl) (wpAny_pure ?_));rw[if_neg (by decide)];refine wpAny_pure ⟨sO F.plain_extend_loop _,ZD W hn _ j _ c.size 0 _ _ _ rfl (ef _) d (cL _ rfl) (ZE _) λg n L q x p=>?_⟩
 show wpAny _ A (load s.heap.objs.size>>=_) _ _ g
 exact wpAny_bind (wpAny_load x (wpAny_pure (C g n (Moved.drop_new (o:={ cls:=.type "list",data:=.seq ([]:List Value).toArray }) (tk:=s.toks) q (a5 _)) p)))
theorem Ue(I l:Addr)(c:Array Value)(hsz:c.size<=aB):Meets (Builtin.«tuple.__new__» ⟨[.type "tuple",.ref I],[]⟩)
   (λA R s=>A.handled=none/\l≠I/\s.heap.IsRevIter I l ((c.size:Int)-1)/\s.heap.IsList l c/\∀(f:ao)(d:Array Value),Moved [I] (λa b=>b=a) s f->ItemsOf (uO c) d c.size->
    R (.ok (.ret (.ref f.heap.objs.size))) { f with heap:=f.heap.push { cls:=.type "tuple",data:=.seq d } }):=
 .of_wp<|by
  rintro prog w A R s ⟨p,i,g,q,h⟩
  have n:=sub_tuple_self;have j:=init_tuple_lookup;have r:=madeHere_tuple
  have t:s.TypeIs (.ref I) "list_reverseiterator":=g.typeIs
  have m:A.in1.in1.handled=none:=p
  wp_walk using qq t,Ud (hn:=hsz) m i g q
  intro f d u e
  show wpAny _ _ (sA d.toList.toArray>>=λv=>ret v) _ _ _;unfold sA
  refine wpAny_bind (wpAny_newObj_type (wpAny_pure ⟨_,rfl,?_⟩) (show d.toList.toArray.size<=aB by simp only[ZS];rw[e.1];exact hsz));rw[show d.toList.toArray=d by simp];exact h f d u e
theorem Ug{a:Array Value}(q:A.handled=none)(f:l≠I)(g:s.heap.IsRevIter I l ((a.size:Int)-1))(r:s.heap.IsList l a)(hsz:a.size<=aB)(h:∀(h':Heap)(tk:Nat)(c:Array Value),(∀b o,b≠I->s.heap.get? b=some o->h'.get? b=some o)->ItemsOf (uO a) c a.size->Q (.ref h'.objs.size) { s with heap:=h'.push { cls:=.type "tuple",data:=.seq c },toks:=tk }):wpAny (model prog w) A (call (.type "tuple") [.ref I]) Q E s:=by
 refine callType_new F.called_tuple (by decide) (F.typeCall_tuple_1 _) (F.newCall_tuple_1 _) (λi=>ZL i _) F.entry_tuple_new (Ue I l a hsz) ⟨q,f,g,r,λt c u d=>⟨⟨_,cL _ rfl,rfl⟩,?_⟩⟩;obtain⟨v,m,n,p,_⟩:=u;obtain⟨h',g',d',j,x⟩:=t;simp only at m n p;subst m n p;exact h h' j c (λb o y e=>v b o (by simpa using y) e) d
end
end HT
namespace DL
open PySem PySem.Spec PyProof.Rows L2
section
variable {X:Cx}{a:Expr}{fa:ae->Option D}{p1 p2 p3 p4:Pos}
theorem Uh{ys:List V}{b:List Value}{c:Array Value}(f:Vals ys b)(h:ItemsOf (HT.uO b.toArray) c b.toArray.size):Vals ys.reverse c.toList:=by
 have e:c.toList=b.reverse:=by
  refine vX λj=>?_
  have g:c.size=b.length:=by rw[h.1,cH]
  by_cases d:j<b.length
  ·have i:=h.2 j (c[j]'(by lia)) (l7 (by omega))
   rw[List.getElem?_reverse d,sD,l7 (by omega),<-i]
   show b.toArray[_]?=_
   rw[List.getElem?_toArray,cH]
  ·rw[qz (by simpa [g]using d),qz (by simpa using d)]
 rw[e]
 clear h e
 induction f with
 | nil=>exact .nil
 | cons r t m=>rw[AX,AX];exact m.append (.cons r .nil)
noncomputable def uP(fa:ae->Option D):ae->Option D:=λb=>(fa b).bind λd=>match d with
 | .lst ds=>some (.tup ds.reverse)
 | _=>none
theorem Ui:et "reversed"=some (.type "reversed"):=by decide+kernel
theorem EK{K:aw}{H:Hp}:∀{vs:List V}{ds:List D},aC K H vs ds->aC K H vs.reverse ds.reverse
 | _,_,.nil=>.nil
 | _,_,.cons r t=>by rw[AX,AX];exact(EK t).append (.cons r .nil)
theorem Uj(E:X.mg "tuple"=none)(p:X.mg "reversed"=none)(G:JE X a fa)(J:Gl X "tuple")(r:Gl X "reversed")(hn:cO a=true)(L:X.calm=true):
  JE X (.Call (.Name "tuple" p1) [.Call (.Name "reversed" p2) [a] [] p3] [] p4) (uP fa):=⟨by
 intro c s t H Q I ⟨M,d,R,n,q⟩
 refine bS n λdl N n=>?_
 refine wpAny_Call_Name_kw (jG I J E DL.xH (oa ?_ (cf rfl) (ik rfl)) (by decide) (by decide));rw[cf rfl];refine z9 (wpAny_Call_Name_kw (jG I r p Ui (oa (aK (hE G.h iH (cf hn) _ c s t H (λvs g=>∃v,vs=[v]/\av H g/\Rep X.K g v dl) I ⟨M,dl,R,N,λv g f w=>⟨v,rfl,f,w⟩⟩) λus f O=>?_) (cf hn) (ik rfl)) (by decide) (by decide)))
 obtain⟨vs,g,i,T,v,ev,U,w⟩:=O;subst ev;obtain⟨u,rfl,Y⟩:=gQ T
 cases w with
 | @lst l ys ds h rr=>
  cases n;cases Y;obtain⟨j,x,y⟩:=Inv.c3 i h
  have hz:j.toArray.size<=aB:=by
   refine dq (Inv.pb i h) λ_ _ _ _ _ z=>?_
   rw[cH,<-x.length];exact z
  refine call_reversed_list y ?_
  have lt:∀b o,f.heap.get? b=some o->b≠f.heap.objs.size:=λb o e=>bO (bh e)
  have I2:Inv X c t g { f with heap:=f.heap.push (revObj l ((j.toArray.size:Int)-1)) }:=i.kept (t':=f.toks) λb o e=>bx _ e
  refine z8 ?_
  refine HT.Ug (i.ok.hd L) (by obtain⟨_,e,_⟩:=y;exact lt l _ e) ⟨_,cL _ rfl,rfl,rfl⟩ (y.at λo e=>bx _ e) hz λh' tk A hk m=>?_
  have B:Inv X c t g { f with heap:=h',toks:=tk }:=i.kept λb o e=>hk b o (lt b o e) (bx _ e)
  have C:=B.aR.fresh (a5 _)
  refine⟨.ref h'.objs.size,_,B.laid (t':=tk) (o:=.tup ys.reverse) (λb ob q=>bx _ q) (a5 _) ⟨?_,A.toList,Uh x m,?_⟩,rfl,q _ _ (U.trans (cE C _)) (.tup (.of bG) ((EK rr).mono (cE C _)))⟩
  ·rw[List.length_reverse,x.length];simpa using hz
  ·rw[ZS];exact vS _ _
 | _=>cases n⟩
end
def pJ(x:D):D->Option D
 | .lst ys=>if(ys.all fR&&!cN x)=true then some (.bl (!(ys.any λy=>cu y x)))else none
 | _=>none
theorem Uk{X:Cx}{k:Nat}(n:bL k X.A):dj X (bF .NotIn) pJ:=⟨by
 intro j s E H x y v u Q I t z ⟨b,G,d,B,C,e,q⟩
 have g:X.A.in1.units<cLine:=oV n
 cases C with
 | @lst a xs ds h r=>
  cases z
  have i:(if(ds.all fR&&!cN b)=true then some (D.bl (!(ds.any λy=>cu y b)))else none)=some d:=e
  split at i
  case isFalse=>cases i
  rename_i f;cases i;rw[bB,mS]at f;obtain⟨c,m,p⟩:=Inv.c3 I h;refine ZT (h8 b) p (λw hw=>tQ I g t B f.2 m r f.1 w (by simpa using hw)) ⟨.bl _,H,I,rfl,?_⟩;rw[show c.toArray.any (h8 b)=c.any (h8 b) by simp,tP m r f.1];exact q _ H (av.refl H) (.bl _)
 | _=>cases e⟩
section
variable {X:Cx}{e tg:Expr}{f:ae->Option D}
end
def pK(K:aw)(F:List D->List D->Option (D × List D)):Sp:=λvs H Q _=>∃us a ws ds es d b,vs=us++[.ref a]/\H a=some (.lst ws)/\aC K (az H [a]) us ds/\aC K (az H [a]) ws es/\F ds es=some (d,b)/\∀v H' c,av (az H [a]) (az H' [a])->H' a=some (.lst c)->aC K (az H' [a]) c b->Rep K (az H' [a]) v d->Q v H'
noncomputable def lG(n:Nat)(ds:List D)(a:Addr)(es:List D):ar:=(ds.map λd=>some (.ai d))++some (.xt (.x a) es)::z_ (n-(ds.length+1)) none
theorem pL{n:Nat}{ds:List D}{j:Nat}(h:(lG n ds a es)[j]?=some (some x)):(∃d,ds[j]?=some d/\x=.ai d)\/j=ds.length/\x=.xt (.x a) es:=by
 unfold lG at h
 by_cases b:j<ds.length
 ·rw[jC (by simpa using b),bJ]at h
  cases q:ds[j]? with
  | none=>rw[q]at h;cases h
  | some d=>rw[q]at h;cases h;exact .inl ⟨d,rfl,rfl⟩
 ·rw[v7 (by simp;lia),aJ]at h
  cases q:j-ds.length with
  | zero=>rw[q]at h;cases h;exact .inr ⟨by lia,rfl⟩
  | succ m=>
   rw[q,oD,ID]at h
   split at h<;>cases h
theorem Ul{K:aw}{H:Hp}{N:List Str}{us ws:List V}{ds es:List D}{a:Addr}(A:ds.length+1<=N.length)(q:H a=some (.lst ws))(r:aC K (az H [a]) us ds)(g:aC K (az H [a]) ws es):RO K H (start N (us++[.ref a])) (lG N.length ds a es) [a]:=by
 have hlen:=r.length
 have s:∀j v,us[j]?=some v->(start N (us++[.ref a]))[j]?=some (some v):=λj v e=>by
  have m:=(cA.mp e).1
  unfold L2.start;rw[jC (by simp;lia),bJ,jC m,e]
  rfl
 have t:(start N (us++[.ref a]))[ds.length]?=some (some (.ref a)):=by
  unfold L2.start;rw[jC (by simp;lia),bJ,v7 (by lia),show ds.length-us.length=0 by lia]
  rfl
 refine⟨by simp[L2.start,lG];lia,λb n=>?_,λj d h=>?_,λj κ p h=>?_,λi j κ κ' B C b h _ _ _=>?_,λj κ p h=>?_⟩
 ·rw[br.mp n];exact⟨_,q,.inl ⟨_,rfl⟩⟩
 ·rcases pL h with⟨d',f,c⟩ | ⟨_,c⟩
  ·cases c
   obtain⟨v,u,w⟩:=r.get f;exact⟨v,s j v u,w⟩
  ·cases c
 ·rcases pL h with⟨d',f,c⟩ | ⟨_,c⟩<;>cases c
 ·rcases pL h with⟨d',f,c⟩ | ⟨_,c⟩<;>cases c
 ·rcases pL h with⟨d',f,c⟩ | ⟨m,c⟩
  ·cases c
  ·cases c
   refine⟨λx κ' y h'=>?_,a,[],by rw[m];exact t,λb n=>by simpa using n,by simp,⟨rfl,rfl,ws,q,g⟩,λx κ' y b h' _=>?_⟩
   ·rcases pL h' with⟨d',_,c⟩ | ⟨z,_⟩
    ·cases c
    ·lia
   ·rcases pL h' with⟨d',_,c⟩ | ⟨_,c⟩<;>cases c
structure nL(X:Cx)(st:List Stmt)(u:ar->Option (D × Addr × List D)):Prop where
 h:gd X st (λDn σ H=>∃ρ O r,RO X.K H σ ρ O/\u ρ=some r/\∀v H' O' ws,av (az H O) (az H' O')->r.2.1∈O'->H' r.2.1=some (.lst ws)->aC X.K (az H' O') ws r.2.2->Rep X.K (az H' O') v r.1->Dn.rt v H')
section
variable {X:Cx}{e:Expr}{st:Stmt}{rest:List Stmt}{pos:Pos}{fo:ar->Option D}{g:ar->Option aL}{u:ar->Option (D × Addr × List D)}
noncomputable def nM(g:ar->Option aL)(u:ar->Option (D × Addr × List D)):ar->Option (D × Addr × List D):=λa=>(g a).bind λo=>match o with
 | .aF ρ'=>u ρ'
 | _=>none
theorem Um(a:KS X st g)(b:nL X rest u):nL X (st::rest) (nM g u):=
 ⟨me (wz a.h b.h)<|by
  rintro n p H ⟨c,O,r,R,e,q⟩
  obtain⟨o,a,e⟩:=bind_some e;refine⟨c,O,o,R,a,?_⟩
  cases o with
  | aF ρ'=>exactλf H' i s j=>⟨ρ',i,r,j,e,λv H2 O2 ws m=>q v H2 O2 ws (s.trans m)⟩
  | ret d=>cases e
  | brk ρ'=>cases e
  | cnt ρ'=>cases e⟩
def yy(i:Nat)(u:ar->Option (D × Addr × List D)):ar->Option (D × Addr × List D):=λa=>u (kB i a)
theorem Uo(i:Nat)(h:nL X rest u):nL X rest (yy i u):=
 ⟨me h.h<|by rintro f j H ⟨a,O,r,R,e,q⟩;exact by obtain⟨b,c,S⟩:=R.drop i;exact⟨kB i a,b,r,c,e,λv H2 O2 ws d=>q v H2 O2 ws (S.trans d)⟩⟩
noncomputable def uQ(i:Nat)(b:ar):Option (Addr × List D):=match b[i]? with
 | some (some (.xt (.x a) es))=>some (a,es)
 | _=>none
theorem EL{i:Nat}(h:uQ i b=some (a,es)):b[i]?=some (some (.xt (.x a) es)):=by
 unfold uQ at h
 split at h
 ·rename_i q;cases h;exact q
 ·cases h
theorem RO.ext{K:aw}{H:Hp}{c:St}{b:ar}{O:List Addr}(R:RO K H c b O){i:Nat}{a:Addr}{es:List D}(h:b[i]?=some (some (.xt (.x a) es))):c[i]?=some (some (.ref a))/\a∈O/\(∃ws,H a=some (.lst ws)/\aC K (az H O) ws es)/\Off c b [a]/\∀j κ' es,b[j]?=some (some (.xt κ' es))->j=i:=by
 obtain⟨un,r,A,d,f,s,m,n⟩:=R.xt i _ es h;obtain⟨rfl,rfl,ws,p,q⟩:=m;exact⟨d,f _ bg,⟨ws,p,q⟩,n,un⟩
def EM(i:Nat)(fo:ar->Option D):ar->Option (D × Addr × List D):=λa=>(fo a).bind λd=>(uQ i a).map λx=>(d,x)
theorem Up(i:Nat)(h:eE X e fo):nL X [.Return (some e) pos] (EM i fo):=
 ⟨me (wA (sZ h.h))<|by
  rintro n p H ⟨c,O,r,R,e,q⟩
  obtain⟨d,f,e⟩:=bind_some e;obtain⟨⟨a,es⟩,j,rfl⟩:=bC.mp e;refine⟨c,O,d,R,f,λv H' S r=>?_⟩;obtain⟨_,m,⟨ws,hw,b⟩,_⟩:=(R.mono S).ext (EL j)
  exact q v H' O ws S.same m hw b r⟩
def EN(i:Nat)(f:ar->Option D):ar->Option aL:=λa=>(uQ i a).bind λx=>(f a).bind λd=>if x.2.length<aB then some (.aF (a.set i (some (.xt (.x x.1) (x.2++[d])))))else none
theorem Uq{x:Str}{np c f:Pos}(i:Nat)(h:eE X e fo)(z:X.N[i]?=some x)(B:eN X.env.scope x)(hn:cO e=true)(C:(x==("__debug__":Str))=false)(r:(x==("__classdict__":Str))=false)(j:(c.endLine==f.line)=true):KS X (.Expr (.Call (.Attribute (.Name x np) "append" c) [e] [] f) pos) (EN i fo):=
 ⟨c7 (oN (md ou Ax Ay tG (iU z B C r) (hE h.h iH (cf hn)) rfl (by rw[lA (show [e].all cO=true by rw[e_,hn];rfl)];rfl) j (cf hn) (ik rfl)) rfl)<|by
  rintro Dn σ H ⟨E,O,o,R,m,q⟩
  obtain⟨⟨a,ds⟩,G,m⟩:=bind_some m;obtain⟨d,I,m⟩:=bind_some m
  split at m
  case isFalse=>cases m
  rename_i hz;cases m
  have n:=EL G
  obtain⟨t,J,⟨vs,L,e4⟩,_⟩:=R.ext n;refine⟨.ref a,t,.inl ⟨rfl,vs,b8.of L⟩,E,O,d,R,I,λv M S Q=>?_⟩
  have w:=R.mono S
  obtain⟨_,_,⟨p,T,y⟩,U,_⟩:=w.ext n;refine⟨a,p,v,rfl,rfl,T,by rw[y.length];exact hz,?_⟩;obtain⟨R2,Y⟩:=w.yx n t (A:=[]) (by simpa using J) (by simp) U (H':=upd M a (.lst (p++[v]))) (λb s=>bz (by simpa using s)) (λb s=>⟨.lst (p++[v]),by rw[br.mp s];exact bG,.inl ⟨_,rfl⟩⟩) (κ':=.x a) ⟨rfl,rfl,_,bG,y.snoc Q⟩
  exact q _ _ O (by rw[Y];exact S.same) R2⟩
end
open Classical in
def runM(ns:Nat)(u:ar->Option (D × Addr × List D))(np:Nat)(ds es:List D):Option (D × List D):=if h:ds.length=np/\∃r:D × List D,∀a,u (lG ns ds a es)=some (r.1,a,r.2)then some (choose h.2)else none
theorem EO{ns np:Nat}{ds:List D}(h:runM ns u np ds es=some r):ds.length=np/\∀a,u (lG ns ds a es)=some (r.1,a,r.2):=by
 unfold runM at h
 split at h
 ·rename_i q;cases h;exact⟨q.1,ZU q.2⟩
 ·cases h
theorem Ur{ns np:Nat}{ds:List D}(b:ds.length=np)(h:∀a,u (lG ns ds a es)=some (r.1,a,r.2)):runM ns u np ds es=some r:=by
 unfold runM;rw[dif_pos ⟨b,r,h⟩]
 have:=ZU (p:=λr:D × List D=>∀a,u (lG ns ds a es)=some (r.1,a,r.2)) ⟨r,h⟩ 0
 rw[h 0]at this
 have e:=Je (gr this)
 exact congrArg some (Ip e.1.symm (Je e.2).2.symm)
theorem Us{P:a6}{w:World}{K:aw}{y:Str->Option Value}{base:Heap}{x g:Str}{st:Stmt}{f:Addr}{B:d7}{N ps:List Str}{k np ns:Nat}{u:ar->Option (D × Addr × List D)}(Fn:kl K x g st f B)(S:m5 N ps (dF st))(C:ps.length=np+1)(hn:N.length=ns)(G:np+1<=ns)
  (j:∀(i:Value)(A:a8)(c:List Env)(s:ao)(H:Hp)(E:XK),bL k (A.deeper (iR g (dF st) s.heap.objs.size f i))->nL (jh dG P w K y base N g (dF st) f i A c s H E).ki (iV st) u):
  dS P w K y base dG (k+1) f B ps (pK K (runM ns u np)):=by
 subst hn
 refine Fn.ok S (by
  rintro vs H Q E ⟨us,a,ws,ds,es,d,m,I,_,r,_,e,_⟩
  have:=(EO e).1
  rw[I,bQ,r.length,C,this];rfl) (λi A c s H vs Q E J h=>?_)
 obtain⟨us,a,ws,ds,es,d,m,rfl,L,r,n,e,q⟩:=h;obtain⟨hl,e⟩:=EO e;refine⟨_,(j i A c s H E J).h,lG N.length ds a es,[a],_,Ul (by lia) L r n,e a,λv H' M p O T U Y h3=>?_⟩
 have t:av (az H' M) (az H' [a]):=λb o e=>by
  obtain⟨hb,e'⟩:=iZ e;rw[cv λz=>hb (by rw[br.mp z];exact T)];exact e'
 exact q v H' p (O.trans t) U (Y.mono t) (h3.mono t)
structure ER(P:a6)(w:World)(K:aw)(mg:Str->Option Value)(base:Heap)(k:Nat)(x:Str)(F:List D->List D->Option (D × List D)):Prop where
 ex:∃(f:Addr)(fd:d7)(ps:List Str),mg x=some (.ref f)/\mP K (.ref f)=true/\jI K fd ps []/\dS P w K mg base dG k f fd ps (pK K F)
section
variable {X:Cx}{e:Expr}{es:List Expr}{st:Stmt}{rest:List Stmt}{p pos np:Pos}{f:ae->Option D}{fs:List (ae->Option D)}{x y:Str}{i:Nat}{F:List D->List D->Option (D × List D)}
structure nN(X:Cx)(es:List Expr)(fs:List (ae->Option D))(i:Nat):Prop where
 h:PA X es (λσ H Q=>∃ρ O ds a,RO X.K H σ ρ O/\σ[i]?=some (some (.ref a))/\ag fs (pv ρ)=some ds/\∀vs H',SO H H' O->aC X.K (az H' O) vs ds->Q (vs++[.ref a]) H')
 st:es.all cO=true
theorem Ut(i:Nat)(g:X.N[i]?=some x)(h:eN X.env.scope x)(j:(x==("__debug__":Str))=false)(c:(x==("__classdict__":Str))=false):nN X [.Name x p] [] i:=
 ⟨λpos b s m H Q I ⟨r,O,ds,a,R,n,d,q⟩=>(hE (iU g h j c) iH (cf rfl)) pos b s m H Q I ⟨.ref a,n,by
  cases d
  exact q [] H (SO.refl H O) .nil⟩,rfl⟩
theorem Uu(h:JE X e f)(r:nN X es fs i)(hn:cO e=true):nN X (e::es) (f::fs) i:=
 ⟨λpos c s t H Q I ⟨j,O,ds,a,R,u,b,q⟩=>(hE (DA h.h) r.h (cf hn)) pos c s t H Q I (by
  rw[rm]at b;obtain⟨d,w,b⟩:=bind_some b;obtain⟨g,z,b⟩:=bind_some b;cases b
  exact⟨j,O,d,R,w,λv C m A=>⟨j,O,g,a,R.mono m,u,z,λvs H2 n B=>q (v::vs) H2 (m.trans n) (.cons (A.mono n.same) B)⟩⟩),by rw[e_,hn,r.st];rfl⟩
def ES(K:aw)(i:Nat)(fs:List (ae->Option D))(F:List D->List D->Option (D × List D)):TE:=λg H Q=>∃h a es ws ds d b,RO K H g h [a]/\g[i]?=some (some (.ref a))/\H a=some (.lst ws)/\aC K (az H [a]) ws es/\ag fs (pv h)=some ds/\F ds es=some (d,b)/\∀v H' c,av (az H [a]) (az H' [a])->H' a=some (.lst c)->aC K (az H' [a]) c b->Rep K (az H' [a]) v d->Q v H'
theorem Uv{k:Nat}(C:ER X.prog X.w X.K X.mg X.base k x F)(u:bL k X.A)(z:Gl X x)(t:nN X (e::es) fs i)(c:(x==("__debug__":Str))=false):PE X (.Call (.Name x p) (e::es) [] pos) (ES X.K i fs F):=by
 have b:=t.st
 rw[e_,bB]at b;obtain⟨f,N,ps,B,E,G,I⟩:=C.ex
 refine cD (By I u z B E G .nil BX t.h c (cf b.1) (ik b.2)) λO H Q J=>?_
 obtain⟨L,a,es,ws,ds,d,g,R,j,hw,r,m,e,q⟩:=J;exact⟨L,[a],ds,a,R,j,m,λvs T S M=>⟨vs,a,ws,ds,es,d,g,by rw[gv],(S.own a bg).trans hw,M,r.mono S.same,e,λv H' n s=>q v H' n (S.same.trans s)⟩⟩
noncomputable def yz:Option SD->Option SD
 | some (.ai d)=>some (.ai d)
 | _=>none
def ET(K:aw)(i:Nat)(fs:List (ae->Option D))(F:List D->List D->Option (D × List D)):TE:=λc H Q=>∃b O es ds d a,RO K H c b O/\b[i]?=some (some (.own es))/\ag fs (pv b)=some ds/\F ds es=some (d,a)/\∀v H',av (az H O) (az H' O)->RO K H' c (b.set i (some (.own a))) O->Rep K (az H' O) v d->Q v H'
end
section
variable {X:Cx}{e:Expr}{es:List Expr}{st:Stmt}{rest:List Stmt}{p pos np:Pos}{f:ae->Option D}{fs:List (ae->Option D)}{x y:Str}{i:Nat}{F:List D->List D->Option (D × List D)}
theorem Uw(h:PE X e (ES X.K i fs F)):PE X e (ET X.K i fs F):=by
 intro pins s σ H Q I ⟨B,O,es,ds,d,C,R,T,xn,hF,q⟩;obtain⟨a,ws,h1,t,hw,G⟩:=R.own i es T
 have sub:∀b,b∈O.filter (λb=>decide (b≠a))↔b∈O/\b≠a:=λb=>by simp[d6]
 generalize hO2:O.filter (λb=>decide (b≠a))=O2 at sub
 have hL:jK H O2:=λb c=>R.ls b ((sub b).mp c).1
 have L:az (az H O2) [a]=az H O:=by
  funext b
  by_cases c:b=a
  ·subst c;rw[eD t,eD bg]
  ·rw[cv (by simpa using c)]
   by_cases w:b∈O
   ·rw[eD w,eD ((sub b).mpr ⟨w,c⟩)]
   ·rw[cv w,cv λz=>w ((sub b).mp z).1]
 have M:i<B.length:=(cA.mp T).1
 have A:az H O2 a=some (.lst ws):=by rw[cv λz=>((sub a).mp z).2 rfl];exact hw
 have g:∀(j:Nat)(z:SD),((B.map yz).set i (some (.own es)))[j]?=some (some z)->(j=i/\z=.own es)\/(j≠i/\∃d,z=.ai d/\B[j]?=some (some (.ai d))):=λj z hz=>by
  by_cases E:j=i
  ·subst E
   rw[i_ (by simpa using M)]at hz;cases hz;exact .inl ⟨rfl,rfl⟩
  ·rw[dQ (cn E),bJ]at hz
   cases qj:B[j]? with
   | none=>rw[qj]at hz;cases hz
   | some o=>
    rw[qj]at hz
    cases o with
    | none=>cases hz
    | some y=>
     cases y with
     | ai d=>cases hz;exact .inr ⟨E,d,rfl,rfl⟩
     | ow κ ds=>cases hz
     | xt κ ds=>cases hz
 have R1:RO X.K (az H O2) σ ((B.map yz).set i (some (.own es))) [a]:=by
  refine⟨by rw[iC,aJ];exact R.len,λb c=>?_,λj d' hz=>?_,λj κ Ux hz=>?_,λj k κ κ' e1 e2 b hz xV _ _=>?_,λj κ Ux hz=>?_⟩
  ·rw[br.mp c];exact⟨_,A,.inl ⟨_,rfl⟩⟩
  ·rcases g j _ hz with⟨_,z⟩ | ⟨_,U,z,N⟩
   ·cases z
   ·cases z;rw[L];exact R.ai j _ N
  ·rcases g j _ hz with⟨rfl,z⟩ | ⟨_,U,z,N⟩
   ·cases z;exact⟨a,ws,h1,bg,A,by rw[L];exact G,x5 _⟩
   ·cases z
  ·rcases g j _ hz with⟨rfl,z⟩ | ⟨_,U,z,N⟩
   ·rcases g k _ xV with⟨rfl,z⟩ | ⟨_,U,z,N⟩
    ·rfl
    ·cases z
   ·cases z
  ·rcases g j _ hz with⟨_,z⟩ | ⟨_,U,z,N⟩<;>cases z
 have ep:pv ((B.map yz).set i (some (.own es)))=pv B:=by
  refine vX λj=>?_
  unfold pv;rw[bJ,bJ]
  by_cases E:j=i
  ·subst E
   rw[i_ (by simpa using M),T]<;>rfl
  ·rw[dQ (cn E),bJ,ZV]
   cases B[j]? with
   | none=>rfl
   | some o=>
    cases o with
    | none=>rfl
    | some y=>cases y<;>rfl
 refine aK (h _ s σ (az H O2) (λv r=>∃n,av (az (az H O2) [a]) (az r [a])/\r a=some (.lst n)/\aC X.K (az r [a]) n C/\Rep X.K (az r [a]) v d) (Inv.hide I hL) ⟨_,a,es,ws,ds,d,C,R1,h1,A,by rw[L];exact G,by rw[ep];exact xn,hF,λv H' n a1 a2 a3 a4=>⟨n,a1,a2,a3,a4⟩⟩) λu s' zZ=>?_
 obtain⟨v,r,J,rv,n,s1,w1,r1,r2⟩:=zZ
 obtain⟨J',hn⟩:=Inv.Du I hL J λb xs e=>by
  have c:b≠a:=λz=>by rw[z,A]at e;cases e
  have:=s1 b _ (show az (az H O2) [a] b=some (.tup xs) by rw[cv (by simpa using c)];exact e)
  exact(iZ this).2
 have Y:az (lay H O2 r) O=az r [a]:=by
  funext b
  by_cases c:b=a
  ·subst c;rw[eD t,eD bg]
  ·rw[cv (O:=[a]) (by simpa using c)]
   by_cases w:b∈O
   ·rw[eD w,hn b ((sub b).mpr ⟨w,c⟩)]
   ·rw[cv w,d9 λz=>w ((sub b).mp z).1]
 have wl:lay H O2 r a=some (.lst n):=by rw[d9 λz=>((sub a).mp z).2 rfl];exact w1
 have S2:SO H (upd (lay H O2 r) a (.lst ws)) O:=⟨λb o e=>by
  obtain⟨c,e'⟩:=iZ e
  have m:b≠a:=λz=>c (by rw[z];exact t)
  rw[cv c,bz m]
  have:=s1 b o (by rw[L];exact e)
  rw[<-Y,cv c]at this
  exact this,λb c=>by
  by_cases m:b=a
  ·subst m;rw[bG,hw]
  ·rw[bz m,gj ((sub b).mpr ⟨c,m⟩)]⟩
 have eu:upd (upd (lay H O2 r) a (.lst ws)) a (.lst n)=lay H O2 r:=by
  funext b
  by_cases m:b=a
  ·subst m;rw[bG,wl]
  ·rw[bz m,bz m]
 have Uy:az (upd (lay H O2 r) a (.lst ws)) O=az r [a]:=by
  rw[<-Y]
  funext b
  by_cases c:b∈O
  ·rw[eD c,eD c]
  ·rw[cv c,cv c,bz λz=>c (by rw[z];exact t)]
 obtain⟨R3,_⟩:=(R.mono S2).chg T h1 t (us:=n) (es:=C) (by rw[Uy];exact r1);rw[eu]at R3;exact⟨v,_,J',rv,q v _ (by rw[Y,<-L];exact s1) R3 (by rw[Y];exact r2)⟩
def EU(j i:Nat)(F:List D->List D->Option (D × List D))(fs:List (ae->Option D)):ar->Option aL:=λa=>(el j a).bind λb=>(el i a).bind λes=>(ag fs (pv a)).bind λds=>(F ds es).bind λx=>if j≠i/\b.length<aB then some (.aF ((a.set i (some (.own x.2))).set j (some (.own (b++[x.1])))))else none
structure KM(X:Cx)(e:Expr)(i:Nat)(F:List D->List D->Option (D × List D))(fs:List (ae->Option D)):Prop where
 h:PE X e (ET X.K i fs F)
 s:cO e=true
theorem Uz{k:Nat}(C:ER X.prog X.w X.K X.mg X.base k x F)(b:bL k X.A)(c:nN X (e::es) fs i)(d:Gl X x)(a:(x==("__debug__":Str))=false):KM X (.Call (.Name x p) (e::es) [] pos) i F fs:=⟨Uw (Uv C b d c a),rfl⟩
theorem UA{c g:Pos}(j:Nat)(h:KM X e i F fs)(I:X.N[j]?=some x)(J:eN X.env.scope x)(L:(x==("__debug__":Str))=false)(t:(x==("__classdict__":Str))=false)(m:(c.endLine==g.line)=true):KS X (.Expr (.Call (.Attribute (.Name x np) "append" c) [e] [] g) pos) (EU j i F fs):=
 ⟨c7 (oN (md ou Ax Ay tG (iU I J L t) (hE h.h iH (cf h.s)) rfl (by rw[lA (show [e].all cO=true by rw[e_,h.s];rfl)];rfl) m (cf h.s) (ik rfl)) rfl)<|by
  rintro Dn σ H ⟨A,O,o,R,b,q⟩
  obtain⟨u,M,b⟩:=bind_some b;obtain⟨es,Q,b⟩:=bind_some b;obtain⟨ds,T,b⟩:=bind_some b;obtain⟨⟨d,n⟩,U,b⟩:=bind_some b
  split at b
  case isFalse=>cases b
  rename_i hz;cases b
  have r:=mr M
  obtain⟨a,vs,w,Y,e3,e4⟩:=R.own j u r;refine⟨.ref a,w,.inl ⟨rfl,vs,b8.of e3⟩,A,O,es,ds,d,n,R,mr Q,T,U,λv H1 s1 B r1=>?_⟩
  have C:(A.set i (some (.own n)))[j]?=some (some (.own u)):=by rw[dQ (cn hz.1)];exact r
  obtain⟨a',z,E,f2,f3,G⟩:=B.own j u C;rw[w]at E;cases E;refine⟨a,z,v,rfl,rfl,f3,by rw[G.length];exact hz.2,?_⟩;obtain⟨R2,hh⟩:=B.chg C w Y (G.snoc r1)
  exact q _ _ O (by rw[hh];exact s1) R2⟩
end
def tupI:D->Option (List Int)
 | .tup xs=>i0 xs
 | _=>none
def kC:List D->Option (List (List Int))
 | []=>some []
 | d::ds=>(tupI d).bind λa=>(kC ds).map (a:: ·)
theorem EV{K:aw}{H:Hp}:∀(ns:List Int){vs:List V},aC K H vs (ns.map D.int)->vs=ns.map V.int
 | [],_,r=>by cases r;rfl
 | n::ns,_,r=>by
  cases r with
  | cons r t=>cases r;rw[EV ns t];rfl
theorem yA{K:aw}{H:Hp}{v:V}{d:D}{ns:List Int}(r:Rep K H v d)(h:tupI d=some ns):d=.tup (ns.map .int)/\∃a,v=.ref a/\cx K H a (ns.map V.int):=by
 cases r with
 | @tup a vs ds q b=>
  have e:=yn (show i0 ds=some ns from h)
  subst e;exact⟨rfl,a,rfl,by rw[<-EV ns b];exact q⟩
 | _=>cases h
noncomputable def jN(K:aw)(H:Hp)(b:List Int):Value->Bool
 | .ref a=>@decide (cx K H a (b.map V.int)) (sF _)
 | _=>false
theorem EW:∀{ns a:List Int},ns.map V.int=a.map V.int->ns=a
 | [],[],_=>rfl
 | [],_::_,h=>by cases h
 | _::_,[],h=>by cases h
 | n::ns,m::a,h=>by
  rw[a_,a_]at h;obtain⟨b,c⟩:=ZW h;cases b;rw[EW c]
theorem EX(k:Nat):∀ns a:List Int,∃c,cy k (ns.map .int) (a.map .int)=some c/\(c&&(ns.map D.int).length==(a.map D.int).length)=decide (ns=a)
 | [],[]=>⟨true,by simp[cy],rfl⟩
 | [],m::a=>⟨true,by simp[cy],by simp⟩
 | n::ns,[]=>⟨true,by simp[cy],by simp⟩
 | n::ns,m::a=>by
  obtain⟨c,b,d⟩:=EX k ns a
  have e:bM k (.int n) (.int m)=some (n==m):=by rw[xf k _ _ rfl];rfl
  refine⟨n==m&&c,by simp[cy,e,b],?_⟩;rw[a_,a_,bR,bR,Jf,show((ns.map D.int).length+1==(a.map D.int).length+1)=((ns.map D.int).length==(a.map D.int).length) by simp,d,j6]
  simp
section
variable {X:Cx}{pins:List (Addr × Obj)}{σ:St}{H:Hp}{s:ao}
theorem EY(I:Inv X pins σ H s){A:a8}(i:A.units+1<cLine){x:V}{w:Value}{f:List Int}(n:RelV x w)(p:Rep X.K H x (.tup (f.map .int))):∀{xs:List V}{d:List Value}{ds:List D}{g:List (List Int)},Vals xs d->aC X.K H xs ds->kC ds=some g->d.map (jN X.K H f)=g.map (λns=>decide (ns=f))/\∀u∈d,sG A s u w (jN X.K H f u):=by
 intro xs
 induction xs with
 | nil=>intro d ds g r q h;cases r;cases q;cases h;exact⟨rfl,λu i=>by cases i⟩
 | cons y xs v=>
  intro d ds g r q h
  cases r with
  | @cons _ Q _ B r t=>
   cases q with
   | @cons _ T _ C q E=>
    obtain⟨ns,G,h⟩:=bind_some h;obtain⟨j,J,rfl⟩:=bC.mp h;obtain⟨L,M⟩:=v t E J;obtain⟨rfl,a,rfl,m⟩:=yA q G;cases r
    have e:jN X.K H f (.ref a)=decide (ns=f):=by
     unfold jN;rw[j6,@decide_eq_true_iff _ (sF _),decide_eq_true_iff];exact⟨λz=>EW (I.sY m z),λz=>by rw[<-z];exact m⟩
    refine⟨by rw[a_,a_,e,L],λu lp=>?_⟩;rcases a9.mp lp with rfl | lp
    ·obtain⟨c,N,O⟩:=EX 0 ns f
     rw[e];refine xi I 1 i (show RelV (.ref a) (.ref a) from rfl) n q p ?_
     show(cy 0 (ns.map D.int) (f.map D.int)).map (λb=>b&&(ns.map D.int).length==(f.map D.int).length)=_
     rw[N,<-O]
     rfl
    ·exact M u lp
end
def yB(x:D):D->Option D
 | .lst ys=>(tupI x).bind λm=>(kC ys).map λbs=>.bl (!decide (m∈bs))
 | _=>none
theorem UB:∀a:List (List Int),(a.map λns=>decide (ns=c)).any id=decide (c∈a):=λa=>by
 rw[j6,Jg,decide_eq_true_iff]
 constructor
 ·rintro⟨b,d,e⟩
  obtain⟨ns,hn,rfl⟩:=aO.mp d
  have:ns=c:=by simpa using e
  rw[<-this];exact hn
 ·intro h
  exact⟨_,aO.mpr ⟨c,h,rfl⟩,by simp⟩
theorem UC{X:Cx}{k:Nat}(i:bL k X.A):dj X (bF .NotIn) yB:=⟨by
 intro f s L H x y v u Q I j n ⟨t,M,d,g,z,e,q⟩
 have b:X.A.in1.units+1<cLine:=by have:=i.un;show X.A.units+1+1<cLine;lia
 cases z with
 | @lst a xs ds h r=>
  cases n;obtain⟨m,B,e⟩:=bind_some (show(tupI t).bind (λm=>(kC ds).map λbs=>D.bl (!decide (m∈bs)))=some d from e);obtain⟨bs,C,rfl⟩:=bC.mp e;obtain⟨rfl,_⟩:=yA g B;obtain⟨c,E,p⟩:=Inv.c3 I h;obtain⟨G,J⟩:=EY I b j g E r C;refine ZT (jN X.K H m) p (λw hw=>J w (by simpa using hw)) ⟨.bl _,H,I,rfl,?_⟩
  rw[show c.toArray.any (jN X.K H m)=decide (m∈bs) by rw[<-UB bs,<-G];simp];exact q _ H (av.refl H) (.bl _)
 | _=>cases e⟩
theorem EZ:∀{bs:List (List Int)}{j:Nat}(_:j<bs.idxOf m){h:j<bs.length},bs[j]=m->False
 | b::bs,j,a,h,e=>by
  rw[List.idxOf_cons]at a
  by_cases q:b=m
  ·rw[show(b==m)=true by simpa using q]at a;simp at a
  ·rw[show(b==m)=false by simpa using q]at a
   cases j with
   | zero=>exact q e
   | succ j=>exact EZ (bs:=bs) (j:=j) (by simpa using a) (h:=by simpa using h) (by simpa using e)
def yC:D->D->Option D
 | .lst xs,y=>(tupI y).bind λm=>(kC xs).bind λbs=>if m∈bs then some (.int (bs.idxOf m:Nat))else none
 | _,_=>none
section
variable {X:Cx}
theorem UD(hu:X.A.units+65<cLine):tr X "list.index" (λx xs H Q=>∃y p i d,xs=[y]/\Rep X.K H x p/\Rep X.K H y i/\yC p i=some d/\∀v H',av H H'->Rep X.K H' v d->Q v H'):=by
 intro E s σ H x xs v us Q I N O h;obtain⟨y,p,i,d,rfl,T,G,e,q⟩:=h;obtain⟨u,rfl,U⟩:=gQ O
 cases T with
 | @lst a vs ds h Y=>
  cases N;obtain⟨m,h1,e⟩:=bind_some (show(tupI i).bind (λm=>(kC ds).bind λbs=>if m∈bs then some (D.int (bs.idxOf m:Nat))else none)=some d from e);obtain⟨bs,h2,e⟩:=bind_some e
  split at e
  case isFalse=>cases e
  rename_i J;cases e;obtain⟨rfl,_⟩:=yA G h1;obtain⟨b,n,rv,hl,L,z⟩:=Inv.pb I h;obtain⟨M,g2⟩:=EY (A:=X.A.in1) I (by show X.A.units+1+1<cLine;lia) U G rv Y h2
  have UE:b.length=bs.length:=by have:=congrArg og M;simpa using this
  have r:=ZX.mpr J
  have hb:aB<2 ^ 62:=by decide
  have c:∀(j:Nat)(f:j<b.length),jN X.K H m b[j]=decide (bs[j]'(by lia)=m):=λj f=>by
   have:=congrArg (λl=>l[j]?) M
   simp only[bJ]at this;rw[c6 f,c6 (show j<bs.length by omega)]at this;exact gr this
  have t:jN X.K H m b[bs.idxOf m]=true:=by rw[c _ (by omega)];simpa using List.getElem_idxOf r
  have w:∀(j:Nat)(f:j<b.toArray.size),j<bs.idxOf m->jN X.K H m b.toArray[j]=false:=λj f B=>by
   have C:j<b.length:=by simpa using f
   have g:jN X.K H m b[j]=false:=by rw[c j C,decide_eq_false_iff_not];intro z;have:=ZX.mpr J;exact EZ B z
   simpa using g
  refine vV ZY ⟨_,L,rfl⟩ PySem.F.entry_list_index (PySem.F.args_list_index_2 _ _) (SeqAt.list_indexAt a b.toArray n none #[] u (jN X.K H m) (bs.idxOf m) (by simp;omega) (by lia) (by simpa using t) w) ⟨L,λy hy=>g2 y (by simpa using hy),?_⟩;exact⟨.int _,H,I.tok _,⟨_,rfl⟩,q _ H (av.refl H) (.int _)⟩
 | _=>cases e
end
section
variable {X:Cx}{b:Expr}{fa fb:ae->Option D}{x:Str}{p3:Pos}
def uR(fa fb:ae->Option D):ae->Option D:=λa=>(fa a).bind λx=>if t4 "list" x=true then(fb a).bind λy=>yC x y else none
theorem UG{k:Nat}{a c:Pos}(s:bL k X.A)(t:JE X (.Name x p3) fa)(w:JE X b fb)(hn:cO b=true)(f:(a.endLine==c.line)=true)(g:Ae (.Name x p3) "index" X.env (eval (.Name x p3) X.env)=eval (.Name x p3) X.env):JE X (.Call (.Attribute (.Name x p3) "index" a) [b] [] c) (uR fa fb):=
 ⟨cD (md ou ZY PySem.F.type_list_index (UD (by have:=s.un;lia)) t.h (hE w.h iH (cf hn)) g (by rw[lA (show [b].all cO=true by rw[e_,hn];rfl)];rfl) f (cf hn) rfl)<|by
  rintro J H Q ⟨i,d,R,e,q⟩
  refine bS e λj y e=>?_
  split at e
  case isFalse=>cases e
  rename_i B
  refine bS e λm C e=>?_
  exact⟨i,j,R,y,λv L n p=>⟨C0 p B,i,m,R.mono n,C,λu H2 r E=>⟨u,j,m,d,rfl,p.mono r,E,e,λz H' G I=>q z H' (n.trans (r.trans G)) I⟩⟩⟩⟩
end
noncomputable def insI(x:Int):List Int->List Int
 | []=>[x]
 | y::r=>if y<x then y::insI x r else x::y::r
def jO:List Int->List Int
 | []=>[]
 | x::r=>insI x (jO r)
theorem yD(x:Int):∀l:List Int,(insI x l).Perm (x::l)
 | []=>.refl _
 | y::r=>by
  unfold insI
  split
  ·exact((yD x r).cons y).trans (.swap x y r)
  ·exact .refl _
theorem uS:∀l:List Int,(jO l).Perm l
 | []=>.refl _
 | x::r=>(yD x (jO r)).trans ((uS r).cons x)
theorem E1(x:Int):∀{l:List Int},l.Pairwise (· <= ·)->(insI x l).Pairwise (· <= ·)
 | [],_=>Ar _ _
 | y::r,h=>by
  have h':=gw.mp h
  unfold insI
  split
  ·refine gw.mpr ⟨λz hz=>?_,E1 x h'.2⟩
   rcases a9.mp ((yD x r).mem_iff.mp hz)with rfl | hz
   ·lia
   ·exact h'.1 z hz
  ·refine gw.mpr ⟨λz hz=>?_,h⟩
   rcases a9.mp hz with rfl | hz
   ·lia
   ·have:=h'.1 z hz;lia
theorem yE:∀l:List Int,(jO l).Pairwise (· <= ·)
 | []=>Iy
 | x::r=>E1 x (yE r)
theorem yF:∀{l m:List Int},l.Pairwise (· <= ·)->m.Pairwise (· <= ·)->l.Perm m->l=m
 | [],m,_,_,p=>(List.nil_perm.mp p).symm
 | x::l,[],_,_,p=>absurd p.length_eq (by simp)
 | x::l,y::m,c,d,p=>by
  have a:=gw.mp c
  have b:=gw.mp d
  have e:x=y:=by
   have q1:x∈y::m:=p.mem_iff.mp bg
   have q2:y∈x::l:=p.mem_iff.mpr bg
   rcases a9.mp q1 with rfl | q1
   ·rfl
   ·rcases a9.mp q2 with rfl | q2
    ·rfl
    ·have:=a.1 y q2;have:=b.1 x q1;lia
  subst e;rw[yF a.2 b.2 (List.Perm.cons_inv p)]
theorem yG{K:aw}{H:Hp}:∀{ns:List Int}{us:List Value},qs us ns->Vals (ns.map V.int) us/\aC K H (ns.map V.int) (ns.map D.int)
 | [],_,.nil=>⟨.nil,.nil⟩
 | n::ns,_,.cons _ t r=>by
  obtain⟨a,b⟩:=yG (K:=K) (H:=H) r;exact⟨.cons ⟨t,rfl⟩ a,.cons (.int n) b⟩
def yH:List D->Option D
 | [.lst xs]=>if xs.length<64 then(i0 xs).map λns=>.lst ((jO ns).map .int)else none
 | _=>none
theorem UH{X:Cx}:JC X (.builtin "sorted") yH:=⟨by
 intro m s G H xs us Q I x h;obtain⟨ds,d,r,e,q⟩:=h
 cases r with
 | nil=>cases e
 | cons r t=>
  cases t with
  | cons _ _=>cases r<;>cases e
  | nil=>
   obtain⟨u,rfl,y⟩:=gQ x
   cases r with
   | @lst a vs ds h f=>
    cases y
    have g:(if ds.length<64 then(i0 ds).map (λns=>D.lst ((jO ns).map .int))else none)=some d:=e
    split at g
    case isFalse=>cases g
    rename_i c;obtain⟨ns,n,rfl⟩:=bC.mp g
    have z:=f.length
    rw[yn n]at f;obtain⟨i,v,p⟩:=Inv.c3 I h
    refine sorted_ints p (DL.tH ns f v) (by rw[<-v.length,z];exact c) λout j w A B=>?_
    obtain⟨C,J⟩:=IJ s.heap i out
    have eq:j=jO ns:=yF B (yE ns) (A.trans (uS ns).symm)
    subst eq;obtain⟨E,_⟩:=yG (K:=X.K) (H:=H) w
    have hn:H (s.heap.objs.size+1)=none:=I.aR.fresh (iS _)
    have hz:((jO ns).map V.int).length<=aB:=by
     rw[aJ,(uS ns).length_eq]
     have:ns.length=ds.length:=by rw[yn n,aJ]
     rw[this];exact f9 (oq c (by decide))
    refine⟨.ref (s.heap.objs.size+1),_,I.laid (t':=s.toks) (o:=.lst ((jO ns).map V.int)) (λb L q=>IK q) (iS _) ?_,rfl,?_⟩
    ·exact⟨hz,out.toList,C,E,by omega⟩
    ·exact q _ _ (cE hn _) (.lst (.inl bG) (yG w).2)
   | _=>cases e⟩
def rK(n:Nat):D->D->Option D
 | .lst xs,.lst ys=>if xs.length=ys.length then(cy n xs ys).map λc=>.bl (!c)else some (.bl true)
 | _,_=>none
theorem UI{X:Cx}{k:Nat}(E:bL k X.A):dj X (bF .NotEq) (rK 64):=⟨by
 intro i s O H x y v u Q I G J ⟨T,U,d,g,h,e,q⟩
 have Y:X.A.units+65<cLine:=by have:=E.un;lia
 unfold rK at e
 split at e
 case h_2=>cases e
 rename_i xs ys
 cases g with
 | @lst a vs _ L g=>
 cases h with
 | @lst a2 M _ N h=>
 cases G;cases J;obtain⟨f,j,m⟩:=Inv.c3 I L;obtain⟨b,n,p⟩:=Inv.c3 I N
 have r:f.toArray.size=xs.length:=by rw[cH,<-j.length];exact g.length
 have t:b.toArray.size=ys.length:=by rw[cH,<-n.length];exact h.length
 split at e
 ·rename_i z
  obtain⟨c,B,rfl⟩:=bC.mp e
  have C:=qY B
  rw[<-r,<-t,show min f.toArray.size b.toArray.size=f.toArray.size by lia]at C;refine ZsG m p (by lia) (by lia) (xj I (by omega) g h j n B) X.prog X.w X.xe _ ?_;rw[C];exact⟨.bl _,H,I,rfl,q _ H (av.refl H) (.bl _)⟩
 ·rename_i z
  cases e;refine ZsH m p (by rw[r,t];simpa using z) (by lia) X.prog X.w X.xe _ ?_
  exact⟨.bl _,H,I,rfl,q _ H (av.refl H) (.bl _)⟩⟩
def nO(x:D):D->Option D
 | .tup ys=>if(ys.all fR&&!cN x)=true then some (.bl (!(ys.any λy=>cu y x)))else none
 | _=>none
theorem UJ{X:Cx}{k:Nat}(n:bL k X.A):dj X (bF .NotIn) nO:=⟨by
 intro j s E H x y v u Q I t z ⟨b,G,d,B,C,e,q⟩
 have g:X.A.in1.units<cLine:=oV n
 cases C with
 | @tup a xs ds h r=>
  cases z
  have i:(if(ds.all fR&&!cN b)=true then some (D.bl (!(ds.any λy=>cu y b)))else none)=some d:=e
  split at i
  case isFalse=>cases i
  rename_i f;cases i;rw[bB,mS]at f;obtain⟨c,m,p⟩:=Inv.df I h;refine SeqAt.notIn_tupleAt (h8 b) p (λw hw=>tQ I g t B f.2 m r f.1 w (by simpa using hw)) ⟨.bl _,H,I,rfl,?_⟩;rw[show c.toArray.any (h8 b)=c.any (h8 b) by simp,tP m r f.1];exact q _ H (av.refl H) (.bl _)
 | _=>cases e⟩
noncomputable def encM(F:List D->List D->Option (D × List D)):List D->Option D:=λds=>match ds.reverse with
 | .lst es::r=>(F r.reverse es).map λx=>.tup [x.1,.lst x.2]
 | _=>none
noncomputable def kE(G:List D->Option D):List D->List D->Option (D × List D):=λds es=>match G (ds++[.lst es])with
 | some (.tup [d,.lst a])=>some (d,a)
 | _=>none
theorem E2(F:List D->List D->Option (D × List D)):kE (encM F)=F:=by
 funext ds es
 unfold kE encM;rw[List.reverse_append]
 show(match (F ds.reverse.reverse es).map λx:D × List D=>D.tup [x.1,.lst x.2]with | some (.tup [d,.lst a])=>some (d,a) | _=>none)=_
 rw[List.reverse_reverse]
 cases F ds es<;>rfl
theorem UK{P:a6}{w:World}{K:aw}{c:Str->Option Value}{base:Heap}{f:Addr}{d:d7}{ps:List Str}:dS P w K c base dG 0 f d ps (pK K (kE λ_=>none)):=by
 have b:∀vs H Q E,¬pK K (kE λ_=>none) vs H Q E:=by rintro vs H Q E ⟨_,_,_,_,_,_,_,_,_,_,_,h,_⟩;cases h
 exact⟨λvs H Q E h=>absurd h (b vs H Q E),λA a s H args us vs Q E _ _ _ _ h=>absurd h (b vs H Q E)⟩
end DL
namespace PT
open PySem L2 DL
inductive Fn where
 | fa | fb | fc | fd | fe | ff | fg | fh | fi | fj | fk | fl | fm | fo | fp | fq | fr | ft | fu | fv | fw | fx | fy | fA | fB | fC | fD | fE | fF | fG | fH | fI | fJ | fK | fL | fM | fN | fO | fP
noncomputable def Fn.nm:Fn->Str
 | .fa=>"first_value"
 | .fb=>"choices_at"
 | .fc=>"is_turn"
 | .fd=>"role_at"
 | .fe=>"kinds_at"
 | .ff=>"are_even"
 | .fg=>"ahead_of_turns"
 | .fh=>"reason"
 | .fi=>"fault_of"
 | .fj=>"steps_from"
 | .fk=>"common_steps"
 | .fl=>"way_back"
 | .fm=>"_law_cell"
 | .fo=>"_law_mix"
 | .fp=>"_law_word"
 | .fq=>"_law_kind"
 | .fr=>"_law_said"
 | .ft=>"_law_is_late"
 | .fu=>"_law_size"
 | .fv=>"_law_told_late"
 | .fw=>"_law_told_on"
 | .fx=>"_law_apart_two"
 | .fy=>"_law_grammar"
 | .fA=>"_law_made"
 | .fB=>"_law_fits"
 | .fC=>"_law_spoilt"
 | .fD=>"_law_sly"
 | .fE=>"_law_side"
 | .fF=>"_law_apart"
 | .fG=>"_law_near"
 | .fH=>"_law_unlike"
 | .fI=>"_law_is_even"
 | .fJ=>"_law_state"
 | .fK=>"_law_part"
 | .fL=>"_law_step"
 | .fM=>"_law_at"
 | .fN=>"_law_done"
 | .fO=>"_law_reason_right"
 | .fP=>"law"
noncomputable def lI:D:=.tup [(.str "end")]
def yI(a:Fn->List D->Option D):ae->Option Out:=
 aQ (cc 1 (ab ak (aa 0) (cC (.int 0))))
  (aQ (bf (cB (ab (a7 64) (aa 1) (cC (.str "none")))) (aY (cC .ay)) (bD))
  (aQ (bf (cB (ab (a7 64) (aa 1) (cC (.str "number")))) (aY (ab ak (aa 0) (cC (.int 1)))) (bD))
  (aQ (bf (cB (ab (a7 64) (aa 1) (cC (.str "name")))) (aY (ab ak (ab ak (aa 0) (cC (.int 1))) (cC (.int 0)))) (bD))
  (aQ (bf (cB (ab (a7 64) (aa 1) (cC (.str "pair")))) (aY (aD (ag [au (a .fa) (ag [ab ak (aa 0) (cC (.int 1))]),au (a .fa) (ag [ab ak (aa 0) (cC (.int 2))])]))) (bD))
  (aY (aD (ag [])))))))
def yJ(a:Fn->List D->Option D):ae->Option Out:=
 aQ (bf (cB (ab (a7 64) (aa 0) (cC lI))) (aY (aD (ag []))) (bD))
  (aY (ab ak (aa 0) (cC (.int 3))))
def E3(a:Fn->List D->Option D):ae->Option Out:=
 aY (iI (ab (dt 64) (aa 0) (cC lI)) (qV (ab (a7 64) (ab ak (aa 0) (cC (.int 1))) (aa 1)) (ab (a7 64) (ab ak (aa 0) (cC (.int 2))) (aa 1))))
def E4(a:Fn->List D->Option D):ae->Option Out:=
 aQ (bf (cB (ab (a7 64) (ab ak (aa 0) (cC (.int 1))) (aa 1))) (aY (aD (ag [cC (.str "says"),ab ak (aa 0) (cC (.int 2))]))) (bD))
  (aY (aD (ag [cC (.str "hears"),ab ak (aa 0) (cC (.int 1))])))
def yK(a:Fn->List D->Option D):ar->Option aL:=
 aG (pG 1 pF)
  (aG (eG (bo (ab ak (aa 0) (cC (.int 3)))) (iM 3 (dg (goN 2) (dg (goN 3) (dg (goN 4) (iL))))) (nI 1 (vH (aa 2)) (vH (aa 3))))
  (uG 1 (dW (aa 1))))
def uT(a:Fn->List D->Option D):ae->Option Out:=
 aQ (bf (cB (ab (dt 64) (au (a .fd) (ag [aa 0,aa 2])) (au (a .fd) (ag [aa 1,aa 2])))) (aY (cC (.bl false))) (bD))
  (aQ (cc 3 (au (a .fe) (ag [aa 0])))
  (aQ (cc 4 (au (a .fe) (ag [aa 1])))
  (aQ (bf (cB (ab (a7 64) (ab ak (aa 0) (cC (.int 1))) (aa 2))) (aY (ab (rJ 64) (aa 3) (aa 4))) (bD))
  (aY (au nk (ag [bY [none,some 3,some 4] (uC (aa 3)) (gN 0) (cB (ab gE (aa 0) (aa 2))) (ab (a7 64) (ab iP (aa 1) (aa 0)) (ab iP (aa 2) (aa 0)))]))))))
def yL(a:Fn->List D->Option D):ar->Option aL:=
 aG (pI 2 (ek [none] (bo (aa 0)) (gN 0) (λ_=>some true) (cC (.lst []))))
  (aG (eG (nG (aa 0)) (iM 2 (dg (goN 3) (dg (goN 4) (iL)))) (eG (bo (au (a .fb) (ag [aa 4]))) (goN 5) (uM 2 (vH (ab ak (aa 5) (cC (.int 2)))) (vH (aa 3)))))
  (aG (pG 6 pF)
  (aG (cX 7 (lZ (ek [none,some 1,some 0] (dD (ag [au cV (ag [aa 0])])) (gN 0) (cB (au (a .fc) (ag [ab ak (aa 2) (aa 0),aa 1]))) (aa 0))))
  (aG (eQ (cB (ab ll (au cV (ag [aa 7])) (cC (.int 0)))) (aG (rG 7 3)
  (uE (yt (cB (ab lE (aa 3) (aa 6)))) (aG (nI 6 (vH (aa 3)) (vH (cC (.bl true))))
  (uN 7 (ab ak (aa 2) (aa 3)))) (c4))) 99999)
  (uG 6 (dW (aa 6)))))))
def yM(a:Fn->List D->Option D):ar->Option aL:=
 aG (bp 2 (vH (ab ak (aa 0) (cC (.int 1)))))
  (aG (bp 3 (vH (au (a .fg) (ag [aa 2,aa 1]))))
  (aG (uK 4 (aD (ag [cC (.int 0),cC (.int 0)])) (cC .ay))
  (aG (cX 5 (lH (ag [aD (ag [cC (.int 0),cC (.int 0)])])))
  (aG (bp 6 (vH (cC (.int 0))))
  (aG (eQ (cB (ab jk (aa 6) (au cV (ag [aa 5])))) (aG (bp 7 (vZ (ab ak (aa 5) (aa 6))))
  (aG (bp 8 (vH (au (a .fi) (ag [aa 2,aa 1,aa 3,aa 7]))))
  (aG (cW (cB (ab hZ (aa 8) (cC .ay))) (dW (aD (ag [aa 8,au (a .fl) (ag [aa 4,aa 7,cC (.int 0)]),au (a .fl) (ag [aa 4,aa 7,cC (.int 1)])]))) (c4))
  (aG (eG (bo (au (a .fj) (ag [aa 2,aa 1,aa 3,aa 7]))) (iM 2 (dg (goN 9) (dg (goN 10) (iL)))) (cW (cB (ab uI (aa 9) (aa 4))) (aG (uL 4 (vH (aa 9)) (vH (aD (ag [aa 7,aa 10]))))
  (c9 5 (vH (aa 9)))) (c4)))
  (uA 6 (vH (cC (.int 1)))))))) 99999)
  (dW (cC .ay)))))))
def uU(a:Fn->List D->Option D):ae->Option Out:=
 aQ (cc 4 (ab ak (aa 0) (ab ak (aa 3) (cC (.int 0)))))
  (aQ (cc 5 (ab ak (aa 0) (ab ak (aa 3) (cC (.int 1)))))
  (aQ (bf (gg (cB (au (a .fc) (ag [aa 5,aa 1])))) (aY (cC .ay)) (bD))
  (aQ (bf (cB (ab lE (ab ak (aa 3) (cC (.int 0))) (aa 2))) (aY (cC (.str "never"))) (bD))
  (aQ (bf (dZ (cB (au (a .fc) (ag [aa 4,aa 1]))) (gg (cB (au (a .ff) (ag [aa 4,aa 5,aa 1]))))) (aY (cC (.str "unlike"))) (bD))
  (aY (cC .ay))))))
def uV(a:Fn->List D->Option D):ae->Option Out:=
 aQ (cc 4 (ab ak (aa 0) (ab ak (aa 3) (cC (.int 0)))))
  (aQ (cc 5 (ab ak (aa 0) (ab ak (aa 3) (cC (.int 1)))))
  (aQ (bf (cB (ab lE (ab ak (aa 3) (cC (.int 1))) (aa 2))) (aY (ei (ag []))) (bD))
  (aQ (bf (dZ (cB (ab gE (ab ak (aa 3) (cC (.int 0))) (aa 2))) (gg (cB (au (a .fc) (ag [aa 4,aa 1]))))) (aY (bY [none,none,none,some 3] (bo (ab ak (aa 4) (cC (.int 3)))) (ij 3 (b9 (gN 0) (b9 (gN 1) (b9 (gN 2) (ig))))) (λ_=>some true) (aD (ag [aD (ag [aa 2,ab ak (aa 3) (cC (.int 1))]),aD (ag [aD (ag [aa 0,aa 1]),cC .ay])])))) (bD))
  (aQ (bf (gg (cB (au (a .fc) (ag [aa 5,aa 1])))) (aY (bY [none,none,none,some 3] (bo (ab ak (aa 5) (cC (.int 3)))) (ij 3 (b9 (gN 0) (b9 (gN 1) (b9 (gN 2) (ig))))) (λ_=>some true) (aD (ag [aD (ag [ab ak (aa 3) (cC (.int 0)),aa 2]),aD (ag [cC .ay,aD (ag [aa 0,aa 1])])])))) (bD))
  (aY (au (a .fk) (ag [aa 4,aa 5])))))))
def yN(a:Fn->List D->Option D):ar->Option aL:=
 aG (pG 2 pF)
  (aG (eG (bo (ab ak (aa 1) (cC (.int 3)))) (iM 3 (dg (goN 3) (dg (goN 4) (dg (goN 5) (iL))))) (nI 2 (vH (aa 3)) (vH (aa 5))))
  (uF (vD (bY [none,none,none,some 2] (bo (ab ak (aa 0) (cC (.int 3)))) (ij 3 (b9 (gN 0) (b9 (gN 1) (b9 (gN 2) (ig))))) (cB (ab gE (aa 0) (aa 3))) (aD (ag [aD (ag [aa 2,ab iP (aa 3) (aa 0)]),aD (ag [aD (ag [aa 0,aa 1]),aD (ag [aa 0,aa 1])])]))))))
def yO(a:Fn->List D->Option D):ar->Option aL:=
 aG (cX 3 (lH (ag [])))
  (aG (eQ (cB (ab hZ (ab nK (aa 0) (aa 1)) (cC .ay))) (aG (bp 4 (vH (ab ak (ab ak (ab nK (aa 0) (aa 1)) (cC (.int 1))) (aa 2))))
  (aG (cW (cB (ab hZ (aa 4) (cC .ay))) (c9 3 (vH (aD (ag [ab ak (aa 4) (cC (.int 0)),au (a .fa) (ag [ab ak (aa 4) (cC (.int 1))])])))) (c4))
  (bp 1 (vH (ab ak (ab nK (aa 0) (aa 1)) (cC (.int 0))))))) 99999)
  (dW (uP (aa 3))))
def yP(a:Fn->List D->Option D):ae->Option Out:=
 aQ (bf (cB (ab jk (aa 1) (au cV (ag [aa 0])))) (aY (ab ak (aa 0) (aa 1))) (bD))
  (aY (cC (.int 0)))
def E5(a:Fn->List D->Option D):ae->Option Out:=
 aY (ab ej (ab ej (ab jj (aa 0) (cC (.int 48271))) (aa 1)) (aa 2))
def yQ(a:Fn->List D->Option D):ae->Option Out:=
 aQ (cc 2 (cC (.str "abcdefghijklmnopqrstuvwxyz")))
  (aQ (cc 3 (ab ak (aa 2) (ab ej (ab aM (au (a .fo) (ag [aa 0,cC (.int 9923),cC (.int 26)])) (ab jj (cC (.int 9)) (aa 1))) (cC (.int 26)))))
  (aQ (cc 4 (t5 (cC (.str "")) (bY [none,some 2,some 0] (dD (ag [au (a .fo) (ag [aa 0,cC (.int 9887),cC (.int 3)])])) (gN 0) (λ_=>some true) (ab ak (aa 1) (au (a .fo) (ag [ab aM (aa 2) (ab jj (cC (.int 3)) (aa 0)),cC (.int 9941),cC (.int 26)]))))))
  (aQ (cc 5 (au (a .fo) (ag [aa 0,cC (.int 9883),ab aM (au cV (ag [aa 4])) (cC (.int 1))])))
  (aY (ab aM (ab aM (eO (aa 4) d8 (c8 (aa 5))) (aa 3)) (eO (aa 4) (c8 (aa 5)) d8))))))
def nP(a:Fn->List D->Option D):ae->Option Out:=
 aQ (cc 2 (au (a .fo) (ag [aa 0,cC (.int 9973),cC (.int 8)])))
  (aQ (bf (hY (cB (ab jk (aa 2) (cC (.int 2)))) (dZ (cB (ab (a7 64) (aa 1) (cC (.int 0)))) (cB (ab ll (aa 2) (cC (.int 5)))))) (aY (aD (ag [cC (.str "none")]))) (bD))
  (aQ (bf (cB (ab jk (aa 2) (cC (.int 4)))) (aQ (cc 3 (ab gB (au (a .fo) (ag [aa 0,cC (.int 9967),cC (.int 21)])) (cC (.int 10))))
  (aY (aD (ag [cC (.str "number"),aa 3,ab aM (aa 3) (au (a .fo) (ag [aa 0,cC (.int 9949),cC (.int 12)]))])))) (bD))
  (aQ (bf (cB (ab jk (aa 2) (cC (.int 6)))) (aY (aD (ag [cC (.str "name"),au ic (ag [au t2 (ag [bY [none,some 0] (dD (ag [ab aM (cC (.int 1)) (au (a .fo) (ag [aa 0,cC (.int 9931),cC (.int 3)]))])) (gN 0) (λ_=>some true) (au (a .fp) (ag [aa 1,aa 0]))])])]))) (bD))
  (aQ (cc 4 (au (a .fq) (ag [ab aM (ab jj (aa 0) (cC (.int 3))) (cC (.int 1)),ab gB (aa 1) (cC (.int 1))])))
  (aQ (bf (cB (ab (a7 64) (aa 2) (cC (.int 6)))) (aY (aD (ag [cC (.str "pair"),aa 4,au (a .fq) (ag [ab aM (ab jj (aa 0) (cC (.int 5))) (cC (.int 2)),ab gB (aa 1) (cC (.int 1))])]))) (bD))
  (aY (aD (ag [cC (.str "row"),aa 4,au (a .fo) (ag [aa 0,cC (.int 9929),cC (.int 5)])]))))))))
def E6(a:Fn->List D->Option D):ae->Option Out:=
 aY (aD (ag [au (a .fp) (ag [aa 0,aa 1]),au (a .fq) (ag [ab aM (ab jj (aa 0) (cC (.int 11))) (aa 1),cC (.int 2)])]))
def E7(a:Fn->List D->Option D):ae->Option Out:=
 aY (iI (ab (a7 64) (ab ej (aa 0) (cC (.int 4))) (cC (.int 2))) (ab ll (aa 1) (cC (.int 2))))
def E8(a:Fn->List D->Option D):ae->Option Out:=
 aQ (cc 2 (ab aM (ab gB (aa 1) (cC (.int 2))) (au mv (ag [au (a .ft) (ag [aa 0,aa 1])]))))
  (aY (ab aM (ab aM (cC (.int 1)) (ab nE (ab aM (cC (.int 1)) (au (a .fo) (ag [aa 0,cC (.int 9949),cC (.int 3)]))) (aa 2))) (au mv (ag [ab ll (au (a .fo) (ag [aa 0,cC (.int 9931),cC (.int 3)])) (cC (.int 0))]))))
def yR(a:Fn->List D->Option D):ar->Option aL:=
 aG (cX 5 (lH (ag [])))
  (aG (cX 6 (lH (ag [])))
  (aG (bp 7 (vH (au cV (ag [aa 3]))))
  (aG (eG (rj (aa 4)) (iM 2 (dg (goN 8) (dg (goN 9) (iL)))) (aG (bp 10 (vH (ab aM (ab aM (aa 0) (cC (.int 1))) (ab nE (aa 8) (aa 7)))))
  (aG (c9 6 (vH (ab aM (aa 9) (aD (ag [aa 10])))))
  (aG (c9 5 (vH (aD (ag [cC (.str "say"),aa 2,ab ak (aa 3) (cC (.int 1)),aD (ag [ab aM (ab ak (aa 4) (cC (.int 0))) (aD (ag [ab aM (aa 10) (cC (.int 1))]))])]))))
  (eG (dD (ag [cC (.int 1),aa 7])) (goN 11) (aG (bp 12 (vH (ab ak (ei (ag [ab aM (ab aM (aa 10) (aa 11)) (cC (.int 1)),ab ak (aa 1) (aa 8)])) (au mv (ag [ab (a7 64) (aa 11) (ab gB (aa 7) (cC (.int 1)))])))))
  (c9 5 (vH (aD (ag [cC (.str "say"),ab ak (aa 3) (cC (.int 0)),ab ak (aa 3) (aa 11),aD (ag [ab aM (aa 9) (aD (ag [aa 12]))])]))))))))))
  (dW (ab aM (ei (ag [aD (ag [cC (.str "say"),aa 2,ab ak (aa 3) (cC (.int 0)),au ic (ag [aa 6])])])) (aa 5))))))
def yS(a:Fn->List D->Option D):ar->Option aL:=
 aG (bp 4 (vH (au (a .fo) (ag [aa 0,cC (.int 9929),aa 2]))))
  (aG (cX 5 (lZ (ek [none,some 2,some 4,some 0] (dD (ag [ab gB (aa 2) (cC (.int 1))])) (gN 0) (λ_=>some true) (ab ej (ab aM (ab aM (aa 2) (cC (.int 1))) (ab ej (ab aM (aa 0) (au (a .fo) (ag [aa 3,cC (.int 9901),ab gB (aa 1) (cC (.int 1))]))) (ab gB (aa 1) (cC (.int 1))))) (aa 1)))))
  (aG (bp 6 (vH (au ju (ag [bY [none,some 0] (dD (ag [ab aM (cC (.int 1)) (au (a .fo) (ag [aa 0,cC (.int 9949),cC (.int 3)]))])) (gN 0) (λ_=>some true) (au (a .fr) (ag [aa 1,aa 0]))]))))
  (aG (cW (cB (au (a .ft) (ag [aa 0,aa 2]))) (dW (au (a .fv) (ag [aa 1,aa 3,aa 4,aa 5,aa 6]))) (c4))
  (aG (cX 7 (lH (ag [])))
  (aG (cX 8 (lH (ag [])))
  (aG (eG (rj (aa 6)) (iM 2 (dg (goN 9) (dg (goN 10) (iL)))) (aG (bp 11 (vH (ab aM (bY [none,some 1,some 9,some 2] (dD (ag [ab gB (aa 2) (cC (.int 2))])) (gN 0) (λ_=>some true) (ab aM (ab aM (ab aM (aa 1) (cC (.int 1))) (ab nE (aa 2) (ab gB (aa 3) (cC (.int 2))))) (aa 0))) (ei (ag [ab ak (aa 3) (aa 9)])))))
  (aG (c9 8 (vH (ab aM (aa 10) (aD (ag [ab ak (aa 11) (cC (.int 0))])))))
  (eG (dD (ag [ab gB (aa 2) (cC (.int 2))])) (goN 12) (c9 7 (vZ (aD (ag [cC (.str "say"),aa 4,ab ak (aa 5) (ab aM (aa 12) (cC (.int 1))),aD (ag [ab aM (aa 10) (aD (ag [ab ak (aa 11) (ab aM (aa 12) (cC (.int 1)))]))])]))))))))
  (dW (ab aM (ei (ag [aD (ag [cC (.str "say"),aa 4,ab ak (aa 5) (cC (.int 0)),au ic (ag [aa 8])])])) (aa 7)))))))))
def uW(a:Fn->List D->Option D):ae->Option Out:=
 aQ (cc 4 (au (a .fo) (ag [aa 0,cC (.int 9871),aa 2])))
  (aQ (cc 5 (ab ej (ab aM (ab aM (aa 4) (cC (.int 1))) (au (a .fo) (ag [aa 0,cC (.int 9859),ab gB (aa 2) (cC (.int 1))]))) (aa 2)))
  (aQ (cc 6 (au ju (ag [ei (ag [au (a .fr) (ag [ab aM (aa 0) (cC (.int 1)),cC (.int 0)]),au (a .fr) (ag [ab aM (aa 0) (cC (.int 1)),cC (.int 1)])])])))
  (aQ (bf (cB (ab (a7 64) (au (a .fo) (ag [aa 0,cC (.int 9931),cC (.int 3)])) (cC (.int 1)))) (aY (aD (ag [cC (.str "say"),aa 4,aa 5,aD (ag [ab aM (ab ak (aa 6) (cC (.int 0))) (aD (ag [aa 3]))])]))) (bD))
  (aY (aD (ag [cC (.str "say"),aa 4,aa 5,aD (ag [ab aM (ab ak (aa 6) (cC (.int 0))) (aD (ag [ab ak (ei (ag [aa 1,aa 3])) (ab ej (aa 0) (cC (.int 2)))])),ab aM (ab ak (aa 6) (cC (.int 1))) (aD (ag [ab ak (ei (ag [aa 3,aa 1])) (ab ej (aa 0) (cC (.int 2)))]))])]))))))
def uX(a:Fn->List D->Option D):ae->Option Out:=
 aQ (cc 2 (ab aM (cC (.int 2)) (au (a .fo) (ag [au (a .fm) (ag [aa 0,cC (.int 0)]),cC (.int 9973),cC (.int 3)]))))
  (aY (au (a .fA) (ag [aa 2,bY [none,some 0] (dD (ag [ab aM (cC (.int 1)) (au (a .fo) (ag [au (a .fm) (ag [aa 0,cC (.int 0)]),cC (.int 9967),aa 1]))])) (gN 0) (λ_=>some true) (au (a .fm) (ag [aa 1,ab aM (cC (.int 1)) (aa 0)]))])))
def yT(a:Fn->List D->Option D):ar->Option aL:=
 aG (cX 2 (lH (ag [cC (.int 0)])))
  (aG (eG (bo (aa 1)) (goN 3) (c9 2 (vZ (ab aM (ab ak (aa 2) (kx (cC (.int 1)))) (au (a .fu) (ag [aa 3,aa 0]))))))
  (aG (cX 4 (lH (ag [])))
  (aG (eG (rj (aa 1)) (iM 2 (dg (goN 5) (dg (goN 3) (iL)))) (aG (cX 6 (lZ (ek [none,some 2,some 3] (dD (ag [cC (.int 3)])) (gN 0) (λ_=>some true) (ab ak (aa 1) (au (a .fo) (ag [ab aM (aa 2) (ab jj (cC (.int 7)) (aa 0)),cC (.int 9907),au cV (ag [aa 1])]))))))
  (aG (bp 7 (vZ (ab ak (aa 6) (cC (.int 0)))))
  (aG (cW (cB (ab ll (au (a .fo) (ag [aa 3,cC (.int 9931),cC (.int 3)])) (cC (.int 0)))) (rn 6 (vH (cC (.int 0))) (vZ (ab gB (ab ak (aa 2) (ab aM (aa 5) (cC (.int 1)))) (cC (.int 1))))) (c4))
  (aG (cX 4 (lZ (lC (aa 4) (au (a .fw) (ag [aa 3,ab ak (aa 2) (aa 5),aa 0,aa 6])))))
  (cW (cB (ab ll (au (a .fo) (ag [aa 3,cC (.int 9931),cC (.int 3)])) (cC (.int 0)))) (c9 4 (vZ (au (a .fx) (ag [aa 3,ab gB (ab ak (aa 2) (ab aM (aa 5) (cC (.int 1)))) (cC (.int 1)),aa 0,aa 7])))) (c4)))))))
  (dW (aD (ag [aa 0,au ic (ag [ab il (aa 4) (ei (ag [aD (ag [cC (.str "end")])]))])]))))))
def jP(a:Fn->List D->Option D):ae->Option Out:=
 aQ (bf (cB (ab (a7 64) (ab ak (aa 0) (cC (.int 0))) (cC (.str "none")))) (aY (ab jo (aa 1) (cC .ay))) (bD))
  (aQ (bf (cB (ab (a7 64) (ab ak (aa 0) (cC (.int 0))) (cC (.str "number")))) (aY (iI (ly .int (aa 1)) (iI (tM (ly .bool (aa 1))) (tN ni ni (ab ak (aa 0) (cC (.int 1))) (aa 1) (ab ak (aa 0) (cC (.int 2))))))) (bD))
  (aQ (bf (cB (ab (a7 64) (ab ak (aa 0) (cC (.int 0))) (cC (.str "name")))) (aY (iI (ly .str (aa 1)) (ab nj (aa 1) (ab ak (aa 0) (cC (.int 1)))))) (bD))
  (aQ (bf (gg (cB (ly .tuple (aa 1)))) (aY (cC (.bl false))) (bD))
  (aQ (bf (cB (ab (a7 64) (ab ak (aa 0) (cC (.int 0))) (cC (.str "pair")))) (aY (iI (ab (a7 64) (au cV (ag [aa 1])) (cC (.int 2))) (iI (au (a .fB) (ag [ab ak (aa 0) (cC (.int 1)),ab ak (aa 1) (cC (.int 0))])) (au (a .fB) (ag [ab ak (aa 0) (cC (.int 2)),ab ak (aa 1) (cC (.int 1))]))))) (bD))
  (aY (iI (ab ni (au cV (ag [aa 1])) (ab ak (aa 0) (cC (.int 2)))) (au nk (ag [bY [none,some 0] (bo (aa 1)) (gN 0) (λ_=>some true) (au (a .fB) (ag [ab ak (aa 1) (cC (.int 1)),aa 0]))]))))))))
def yU(a:Fn->List D->Option D):ar->Option aL:=
 aG (rq (vH (aa 0)) (iM 2 (dg (goN 2) (dg (goN 3) (iL)))))
  (aG (bp 4 (vH (au (a .fo) (ag [aa 1,cC (.int 9857),au cV (ag [aa 3])]))))
  (aG (bp 5 (vH (ab ak (aa 3) (aa 4))))
  (aG (cW (cB (ab (a7 64) (aa 5) (aD (ag [cC (.str "end")])))) (aG (bp 6 (vH (au (a .fo) (ag [aa 1,cC (.int 9851),au cV (ag [aa 3])]))))
  (bp 5 (vH (aD (ag [cC (.str "say"),ab ej (aa 1) (aa 2),ab ej (ab aM (aa 1) (cC (.int 1))) (aa 2),aD (ag [aD (ag [cC (.str "z"),aD (ag [cC (.str "none")]),aa 6])])]))))) (c4))
  (aG (bp 7 (vH (au (a .fo) (ag [aa 1,cC (.int 9839),cC (.int 6)]))))
  (aG (rq (vH (ab ak (ab ak (aa 5) (cC (.int 3))) (kx (cC (.int 1))))) (iM 3 (dg (goN 8) (dg (goN 9) (dg (goN 6) (iL))))))
  (aG (cW (cB (ab (a7 64) (aa 7) (cC (.int 0)))) (aG (bp 10 (vH (au (a .fo) (ag [aa 1,cC (.int 9833),au cV (ag [aa 3])]))))
  (bp 5 (vH (ab aM (eO (aa 5) d8 (c8 (cC (.int 3)))) (aD (ag [ab il (iX (ab ak (aa 5) (cC (.int 3))) d8 (c8 (kx (cC (.int 1))))) (aD (ag [aD (ag [aa 8,aa 9,aa 10])]))])))))) (c4))
  (aG (cW (cB (ab (a7 64) (aa 7) (cC (.int 1)))) (bp 5 (vH (aD (ag [cC (.str "say"),ab ak (aa 5) (cC (.int 2)),ab ak (aa 5) (cC (.int 1)),ab ak (aa 5) (cC (.int 3))])))) (c4))
  (aG (cW (cB (ab (a7 64) (aa 7) (cC (.int 2)))) (bp 5 (vH (ab aM (eO (aa 5) d8 (c8 (cC (.int 3)))) (aD (ag [ab il (iX (ab ak (aa 5) (cC (.int 3))) d8 (c8 (kx (cC (.int 1))))) (aD (ag [aD (ag [ab aM (eO (aa 8) d8 (c8 (cC (.int 2)))) (cC (.str "z")),aa 9,aa 6])]))]))))) (c4))
  (aG (cW (cB (ab (a7 64) (aa 7) (cC (.int 3)))) (bp 5 (vH (ab aM (eO (aa 5) d8 (c8 (cC (.int 3)))) (aD (ag [iX (ab ak (aa 5) (cC (.int 3))) (c8 (kx (cC (.int 1)))) d8]))))) (c4))
  (aG (cW (cB (ab (a7 64) (aa 7) (cC (.int 4)))) (bp 5 (vH (aD (ag [cC (.str "end")])))) (c4))
  (aG (cW (cB (ab (a7 64) (aa 7) (cC (.int 5)))) (bp 5 (vH (ab aM (eO (aa 5) d8 (c8 (cC (.int 3)))) (aD (ag [ab il (iX (ab ak (aa 5) (cC (.int 3))) d8 (c8 (kx (cC (.int 1))))) (aD (ag [aD (ag [aa 8,aD (ag [cC (.str "number"),cC (.int 0),ab ej (aa 1) (cC (.int 9))]),aa 6])]))]))))) (c4))
  (dW (aD (ag [aa 2,ab aM (ab il (iX (aa 3) d8 (c8 (aa 4))) (aD (ag [aa 5]))) (iX (aa 3) (c8 (ab aM (aa 4) (cC (.int 1)))) d8)]))))))))))))))
def yV(a:Fn->List D->Option D):ar->Option aL:=
 aG (bp 1 (vH (au ju (ag [ei (ag [au (a .fr) (ag [aa 0,cC (.int 0)]),au (a .fr) (ag [aa 0,cC (.int 1)])])]))))
  (aG (cX 2 (lH (ag [aD (ag [cC (.str "say"),cC (.int 0),cC (.int 1),aD (ag [ab aM (ab ak (aa 1) (cC (.int 0))) (aD (ag [cC (.int 1)])),ab aM (ab ak (aa 1) (cC (.int 1))) (aD (ag [cC (.int 2)]))])])])))
  (aG (bp 3 (vH (ab ak (ei (ag [ab ak (aa 1) (cC (.int 0)),ab ak (aa 1) (ab ej (ab lj (aa 0) (cC (.int 4))) (cC (.int 2))),aD (ag [ab ak (ab ak (aa 1) (cC (.int 0))) (cC (.int 0)),aD (ag [cC (.str "number"),cC (.int 0),cC (.int 1)])])])) (ab ej (ab lj (aa 0) (cC (.int 8))) (cC (.int 3))))))
  (aG (c9 2 (vH (aD (ag [cC (.str "say"),cC (.int 2),cC (.int 0),aD (ag [ab aM (ab ak (aa 1) (cC (.int 0))) (aD (ag [cC (.int 3)]))])]))))
  (aG (c9 2 (vH (aD (ag [cC (.str "say"),cC (.int 2),ab ej (ab lj (aa 0) (cC (.int 2))) (cC (.int 2)),aD (ag [ab aM (aa 3) (aD (ag [cC (.int 3)]))])]))))
  (aG (cW (cB (ab (a7 64) (ab ej (ab lj (aa 0) (cC (.int 192))) (cC (.int 4))) (cC (.int 0)))) (rn 2 (vH (cC (.int 2))) (vH (ab ak (ei (ag [aD (ag [cC (.str "end")]),aD (ag [cC (.str "say"),cC (.int 0),cC (.int 1),aD (ag [ab aM (ab ak (aa 1) (cC (.int 0))) (aD (ag [cC (.int 2)]))])])])) (ab ej (ab lj (aa 0) (cC (.int 64))) (cC (.int 2)))))) (c4))
  (dW (aD (ag [cC (.int 3),au ic (ag [ab il (aa 2) (ei (ag [aD (ag [cC (.str "end")])]))])]))))))))
def UL(a:Fn->List D->Option D):ae->Option Out:=
 aQ (cc 3 (ab ak (ab ak (aa 0) (cC (.int 1))) (aa 2)))
  (aQ (bf (hY (cB (ab (a7 64) (ab ak (aa 3) (cC (.int 0))) (cC (.str "end")))) (cB (ab nO (aa 1) (eO (aa 3) (c8 (cC (.int 1))) (c8 (cC (.int 3))))))) (aY (cC .ay)) (bD))
  (aQ (bf (cB (ab (a7 64) (ab ak (aa 3) (cC (.int 1))) (aa 1))) (aY (aD (ag [cC (.str "says"),ab ak (aa 3) (cC (.int 2))]))) (bD))
  (aY (aD (ag [cC (.str "hears"),ab ak (aa 3) (cC (.int 1))])))))
def yW(a:Fn->List D->Option D):ar->Option aL:=
 aG (cX 3 (lH (ag [])))
  (aG (cX 4 (lH (uh (aa 2))))
  (aG (eQ (kA (aa 4)) (aG (rG 4 5)
  (cW (cB (ab pJ (aa 5) (aa 3))) (aG (c9 3 (vH (aa 5)))
  (cW (dZ (cB (ab (a7 64) (ab ak (ab ak (ab ak (aa 0) (cC (.int 1))) (aa 5)) (cC (.int 0))) (cC (.str "say")))) (cB (ab jo (au (a .fE) (ag [aa 0,aa 1,aa 5])) (cC .ay)))) (cX 4 (lZ (lC (aa 4) (bY [none] (bo (ab ak (ab ak (ab ak (aa 0) (cC (.int 1))) (aa 5)) (cC (.int 3)))) (gN 0) (λ_=>some true) (ab ak (aa 0) (cC (.int 2))))))) (c4))) (c4))) 99999)
  (dW (au ic (ag [au yH (ag [aa 3])])))))
def yX(a:Fn->List D->Option D):ar->Option aL:=
 aG (cX 2 (lH (ek [none,some 0,some 1] (dD (ag [au cV (ag [ab ak (aa 0) (cC (.int 1))])])) (gN 0) (cB (ab hZ (au (a .fE) (ag [aa 1,aa 2,aa 0])) (cC .ay))) (aa 0))))
  (aG (bp 3 (vH (kx (cC (.int 1)))))
  (aG (eQ (cB (ab jk (aa 3) (au cV (ag [aa 2])))) (aG (bp 3 (vZ (au cV (ag [aa 2]))))
  (eG (nG (ab ak (aa 0) (cC (.int 1)))) (iM 2 (dg (goN 4) (dg (goN 5) (iL)))) (cW (dZ (cB (ab (a7 64) (ab ak (aa 5) (cC (.int 0))) (cC (.str "say")))) (dZ (cB (ab pJ (aa 4) (aa 2))) (kA (bY [none,some 2] (bo (ab ak (aa 5) (cC (.int 3)))) (gN 0) (cB (ab nj (ab ak (aa 0) (cC (.int 2))) (aa 1))) (aa 0))))) (c9 2 (vH (aa 4))) (c4)))) 99)
  (dW (aa 2))))
def UM(a:Fn->List D->Option D):ae->Option Out:=
 aQ (cc 4 (ab ak (ab ak (ab ak (aa 0) (cC (.int 1))) (aa 2)) (cC (.int 3))))
  (aQ (cc 5 (ab ak (ab ak (ab ak (aa 0) (cC (.int 1))) (aa 3)) (cC (.int 3))))
  (aQ (bf (cB (ab (dt 64) (au (a .fE) (ag [aa 0,aa 1,aa 2])) (au (a .fE) (ag [aa 0,aa 1,aa 3])))) (aY (cC (.bl true))) (bD))
  (aQ (bf (dZ (cB (ab (a7 64) (ab ak (au (a .fE) (ag [aa 0,aa 1,aa 2])) (cC (.int 0))) (cC (.str "says")))) (cB (ab (rK 64) (bY [none] (bo (aa 4)) (gN 0) (λ_=>some true) (eO (aa 0) d8 (c8 (cC (.int 2))))) (bY [none] (bo (aa 5)) (gN 0) (λ_=>some true) (eO (aa 0) d8 (c8 (cC (.int 2)))))))) (aY (cC (.bl true))) (bD))
  (aQ (eC (bo (aa 4)) (ij 3 (b9 (gN 6) (b9 (gN 7) (b9 (gN 8) (ig))))) (bf (kA (bY [none,some 6,some 7] (bo (aa 5)) (gN 0) (dZ (cB (ab (a7 64) (ab ak (aa 0) (cC (.int 0))) (aa 1))) (cB (ab (dt 64) (ab ak (aa 0) (cC (.int 1))) (aa 2)))) (aa 0))) (aY (cC (.bl true))) (bD)))
  (aY (cC (.bl false)))))))
def UN(a:Fn->List D->Option D):ae->Option Out:=
 aQ (eC (bo (aa 3)) (gN 5) (eC (bo (aa 3)) (gN 6) (bf (cB (au (a .fH) (ag [aa 0,aa 1,aa 5,aa 6]))) (aY (cC (.bl false))) (bD))))
  (aY (qV (rB (aa 3)) (rB (bY [none,some 4] (bo (aa 2)) (gN 0) (cB (ab pJ (aa 0) (aa 1))) (aa 0)))))
def yY(a:Fn->List D->Option D):ar->Option (D × Addr × List D):=
 nM (cX 5 (lH (ag [])))
  (nM (eG (bo (aa 3)) (goN 6) (ui 5 (lH (uh (ab ak (ab ak (ab ak (aa 0) (cC (.int 1))) (aa 6)) (cC (.int 3)))))))
  (yy 5 (nM (cX 7 (lH (ag [])))
  (nM (eG (bo (ym (bY [none] (bo (aa 5)) (gN 0) (λ_=>some true) (ab ak (aa 0) (cC (.int 0)))))) (goN 8) (aG (cX 9 (lZ (ek [none,some 8] (bo (aa 5)) (gN 0) (cB (ab (a7 64) (ab ak (aa 0) (cC (.int 0))) (aa 1))) (aa 0))))
  (uv 9 (aG (bp 10 (vH (au (a .fF) (ag [aa 0,aa 1,bY [none] (bo (aa 9)) (gN 0) (λ_=>some true) (ab ak (aa 0) (cC (.int 2)))]))))
  (aG (cW (cB (ab yB (aa 10) (aa 4))) (EN 4 (vH (aa 10))) (c4))
  (c9 7 (vZ (aD (ag [aa 8,ab ak (ab ak (aa 9) (cC (.int 0))) (cC (.int 1)),uR (aa 4) (aa 10)])))))))))
  (EM 4 (vZ (ab aM (au (a .fE) (ag [aa 0,aa 1,ab ak (aa 3) (cC (.int 0))])) (aD (ag [au ic (ag [aa 7])])))))))))
def yZ(a:Fn->List D->Option D):ar->Option aL:=
 aG (bp 2 (vH (au (a .fG) (ag [aa 0,aa 1]))))
  (aG (cX 3 (lH (ag [au (a .fF) (ag [aa 0,aa 1,ei (ag [cC (.int 0)])])])))
  (aG (cX 4 (lH (ag [])))
  (aG (eQ (cB (ab jk (au cV (ag [aa 4])) (au cV (ag [aa 3])))) (aG (bp 5 (vZ (ab ak (aa 3) (au cV (ag [aa 4])))))
  (aG (cX 6 (lZ (ek [none,some 0,some 1] (bo (aa 5)) (gN 0) (cB (ab hZ (au (a .fE) (ag [aa 1,aa 2,aa 0])) (cC .ay))) (aa 0))))
  (uv 6 (aG (cW (gg (cB (au (a .fI) (ag [aa 0,aa 1,aa 5,aa 6,aa 2])))) (dW (cC .ay)) (c4))
  (cW (kA (aa 6)) (EU 4 3 (kE (a .fJ)) [aa 0,aa 1,aa 5,aa 6]) (c9 4 (vH (aD (ag [cC (.str "end")]))))))))) 16777216)
  (dW (au ic (ag [aa 4]))))))
def pM(a:Fn->List D->Option D):ae->Option Out:=
 aQ (bf (hY (cB (ab jo (aa 1) (cC .ay))) (cB (ab (a7 64) (ab ak (ab ak (ab ak (aa 0) (cC (.int 1))) (aa 1)) (cC (.int 0))) (cC (.str "end"))))) (aY (cC .ay)) (bD))
  (aQ (eC (bo (ab ak (ab ak (ab ak (aa 0) (cC (.int 1))) (aa 1)) (cC (.int 3)))) (ij 3 (b9 (gN 4) (b9 (gN 5) (b9 (gN 6) (ig))))) (bf (dZ (cB (ab (a7 64) (aa 4) (aa 2))) (cB (au (a .fB) (ag [aa 5,aa 3])))) (aY (aa 6)) (bD)))
  (aY (cC .ay)))
def uY(a:Fn->List D->Option D):ae->Option Out:=
 aQ (cc 2 (cC (.int 0)))
  (aQ (eC (bo (aa 1)) (gN 3) (cc 2 (au (a .fL) (ag [aa 0,aa 2,ab ak (aa 3) (cC (.int 0)),ab ak (aa 3) (cC (.int 1))]))))
  (aY (aa 2)))
def uZ(a:Fn->List D->Option D):ar->Option aL:=
 aG (cX 3 (lH (ag [])))
  (aG (bp 4 (vH (cC (.int 0))))
  (aG (eG (bo (aa 2)) (iM 2 (dg (goN 5) (dg (goN 6) (iL)))) (aG (bp 7 (vH (ab ak (ab ak (aa 0) (cC (.int 1))) (aa 4))))
  (aG (cW (cB (ab (a7 64) (ab ak (aa 7) (cC (.int 1))) (aa 1))) (c9 3 (vH (aD (ag [cC (.str "says"),ab ak (aa 7) (cC (.int 2)),aa 5,aa 6])))) (c4))
  (aG (cW (cB (ab (a7 64) (ab ak (aa 7) (cC (.int 2))) (aa 1))) (c9 3 (vH (aD (ag [cC (.str "hears"),ab ak (aa 7) (cC (.int 1)),aa 5,aa 6])))) (c4))
  (bp 4 (vH (au (a .fL) (ag [aa 0,aa 4,aa 5,aa 6]))))))))
  (dW (au ic (ag [aa 3])))))
def UO(a:Fn->List D->Option D):ae->Option Out:=
 aQ (bf (hY (gg (cB (ly .tuple (aa 2)))) (hY (cB (ab (dt 64) (au cV (ag [aa 2])) (cC (.int 3)))) (cB (ab nO (ab ak (aa 2) (cC (.int 0))) (aD (ag [cC (.str "unlike"),cC (.str "never")])))))) (aY (cC (.bl false))) (bD))
  (aQ (cc 3 (au (a .fM) (ag [aa 0,ab ak (aa 2) (cC (.int 1))])))
  (aQ (cc 4 (au (a .fM) (ag [aa 0,ab ak (aa 2) (cC (.int 2))])))
  (aQ (bf (hY (cB (ab jo (aa 3) (cC .ay))) (cB (ab jo (aa 4) (cC .ay)))) (aY (cC (.bl false))) (bD))
  (aQ (bf (cB (ab (dt 64) (au (a .fN) (ag [aa 0,aa 1,ab ak (aa 2) (cC (.int 1))])) (au (a .fN) (ag [aa 0,aa 1,ab ak (aa 2) (cC (.int 2))])))) (aY (cC (.bl false))) (bD))
  (aQ (bf (cB (ab jo (au (a .fE) (ag [aa 0,aa 1,aa 4])) (cC .ay))) (aY (cC (.bl false))) (bD))
  (aQ (bf (cB (ab (a7 64) (ab ak (aa 2) (cC (.int 0))) (cC (.str "never")))) (aY (ab pJ (aa 3) (au (a .fG) (ag [aa 0,aa 1])))) (bD))
  (aY (iI (ab hZ (au (a .fE) (ag [aa 0,aa 1,aa 3])) (cC .ay)) (au (a .fH) (ag [aa 0,aa 1,aa 3,aa 4]))))))))))
def UP(a:Fn->List D->Option D):ae->Option Out:=
 aQ (cc 1 (au (a .fy) (ag [aa 0,cC (.int 3)])))
  (aQ (cc 2 (bY [none,some 1] (bo (eO (aa 0) (c8 (cC (.int 4))) (c8 (cC (.int 8))))) (gN 0) (λ_=>some true) (au (a .fC) (ag [aa 1,aa 0]))))
  (aQ (eC (bo (ab aM (ab aM (ei (ag [aa 1])) (aa 2)) (ei (ag [au (a .fD) (ag [au (a .fm) (ag [aa 0,cC (.int 8)])]),au (a .fD) (ag [au (a .fm) (ag [aa 0,cC (.int 9)])])])))) (gN 3) (eC (dD (ag [ab ak (aa 3) (cC (.int 0))])) (gN 4) (aQ (cc 5 (au (a .fh) (ag [aa 3,aa 4])))
  (aQ (bf (cB (ab (dt 64) (ab jo (aa 5) (cC .ay)) (ab hZ (au (a .fK) (ag [aa 3,aa 4])) (cC .ay)))) (aY (cC (.bl false))) (bD))
  (bf (dZ (cB (ab hZ (aa 5) (cC .ay))) (gg (cB (au (a .fO) (ag [aa 3,aa 4,aa 5]))))) (aY (cC (.bl false))) (bD))))))
  (aY (cC (.bl true)))))
def body(a:Fn->List D->Option D):Fn->List D->Option D
 | .fa=>cI 1 2 (yI a)
 | .fb=>cI 1 1 (yJ a)
 | .fc=>cI 2 2 (E3 a)
 | .fd=>cI 2 2 (E4 a)
 | .fe=>eH 1 5 (yK a)
 | .ff=>cI 3 5 (uT a)
 | .fg=>eH 2 8 (yL a)
 | .fh=>eH 2 11 (yM a)
 | .fi=>cI 4 6 (uU a)
 | .fj=>cI 4 6 (uV a)
 | .fk=>eH 2 6 (yN a)
 | .fl=>eH 3 5 (yO a)
 | .fm=>cI 2 2 (yP a)
 | .fo=>cI 3 3 (E5 a)
 | .fp=>cI 2 6 (yQ a)
 | .fq=>cI 2 5 (nP a)
 | .fr=>cI 2 2 (E6 a)
 | .ft=>cI 2 2 (E7 a)
 | .fu=>cI 2 3 (E8 a)
 | .fv=>eH 5 13 (yR a)
 | .fw=>eH 4 13 (yS a)
 | .fx=>cI 4 7 (uW a)
 | .fy=>cI 2 3 (uX a)
 | .fA=>eH 2 8 (yT a)
 | .fB=>cI 2 2 (jP a)
 | .fC=>eH 2 11 (yU a)
 | .fD=>eH 1 4 (yV a)
 | .fE=>cI 3 4 (UL a)
 | .fF=>eH 3 6 (yW a)
 | .fG=>eH 2 6 (yX a)
 | .fH=>cI 4 9 (UM a)
 | .fI=>cI 5 7 (UN a)
 | .fJ=>encM (runM 11 (yY a) 4)
 | .fK=>eH 2 7 (yZ a)
 | .fL=>cI 4 7 (pM a)
 | .fM=>cI 2 4 (uY a)
 | .fN=>eH 3 8 (uZ a)
 | .fO=>cI 3 5 (UO a)
 | .fP=>cI 1 6 (UP a)
def Tab:Nat->Fn->List D->Option D
 | 0=>λ_ _=>none
 | k+1=>body (Tab k)
end PT
namespace PM
section
variable {nx:Int->List Int}
theorem u0:∀(n:Nat){l:List Int},l.Nodup->(∀x∈l,0<=x/\x<n)->l.length<=n
 | 0,[],_,_=>a5 _
 | 0,x::l,_,h=>by have:=h x bg;lia
 | n+1,l,hn,h=>by
  have d:=u0 n (l:=l.erase (n:Int)) (hn.erase _) λx b=>by
   have c:=(hn.mem_erase_iff).mp b
   have:=h x c.2
   lia
  have:=List.length_erase (a:=(n:Int)) (l:=l)
  split at this<;>lia
end
end PM
namespace PM
open PySem L2 DL PT
theorem tab{k:Nat}:Tab (k+1) f ds=body (Tab k) f ds:=rfl
theorem bI{n c:Nat}(h:c+1<=n):∃m,n=m+1/\c<=m:=⟨n-1,by lia,by lia⟩
theorem cG{b:Type}{a:b}{l:List b}:bA (a::l) 0=some a:=by simp[bA,hH]
theorem c5{c:Type}{a b:c}{l:List c}:bA (a::b::l) 1=some b:=by
 simp[bA,hH]
 rw[if_pos (by lia)]
 rfl
theorem at2{d:Type}{a b c:d}{l:List d}:bA (a::b::c::l) 2=some c:=by
 simp[bA,hH]
 rw[if_pos (by lia)]
 rfl
theorem pO{a:Type}{xs:List a}{i:Nat}(h:i<xs.length):bA xs (i:Int)=some xs[i]:=wX (c6 h)
theorem UQ{i j:Int}:ni (.int i) (.int j)=some (.bl (decide (i<=j))):=rfl
theorem UR:ni (.str x) (.str y)=some (.bl (!bc y x)):=rfl
theorem E9{i j:Int}:jk (.int i) (.int j)=some (.bl (decide (i<j))):=rfl
theorem US:jk (.str x) (.str y)=some (.bl (bc x y)):=rfl
theorem E_{i j:Int}:ll (.int i) (.int j)=some (.bl (decide (j<i))):=rfl
theorem UT{i j:Int}:Nr (.int i) (.int j)=some (.bl (decide (j<=i))):=rfl
theorem UU{i j:Int}:aM (.int i) (.int j)=some (.int (i+j)):=rfl
theorem UW{i j:Int}:gB (.int i) (.int j)=some (.int (i-j)):=rfl
theorem mz{i j:Int}(h:kj i j):jj (.int i) (.int j)=some (.int (i*j)):=by
 show(if kj i j then some (D.int (i*j))else none)=_
 rw[if_pos h]
theorem gF{i j:Int}(h:0<j):ej (.int i) (.int j)=some (.int (i%j)):=by
 show(if 0<j then some (D.int (i%j))else none)=_
 rw[if_pos h]
theorem UX{i j:Int}(h:oT i j):lj (.int i) (.int j)=some (.int (i / j)):=by
 show(if oT i j then some (D.int (i / j))else none)=_
 rw[if_pos h]
theorem UY{i:Int}:ak (.tup xs) (.int i)=bA xs i:=rfl
theorem UZ{i:Int}:ak (.lst xs) (.int i)=bA xs i:=rfl
theorem U0{i:Int}:ak (.aW ns) (.int i)=(bA ns i).map .int:=rfl
theorem Fb{x:Str}{i:Int}:ak (.str x) (.int i)=(bA x.cps.toList i).map λc=>.str ⟨#[c]⟩:=rfl
theorem U1{xs:List D}:cV [.tup xs]=some (.int xs.length):=rfl
theorem Fc{xs:List D}:cV [.lst xs]=some (.int xs.length):=rfl
theorem U2{xs:List Int}:cV [.aW xs]=some (.int xs.length):=rfl
theorem U3{x:Str}:cV [.str x]=some (.int x.length):=rfl
theorem pP:jo d .ay=some (.bl (eA d .ay)):=rfl
theorem pQ:(2:Int) ^ 62=4611686018427387904:=by decide
theorem u3{j:Int}(a: -1000000<=j)(h:j<=1000000):t9 (some [.int j])=some (b7 0 j.toNat):=by
 show(if-(2 ^ 62)<=j/\j<2 ^ 62 then some (b7 0 j.toNat)else none)=_
 rw[if_pos ⟨by rw[pQ];lia,by rw[pQ];lia⟩]
theorem U4{i j:Int}(a: -1000000<=i)(h:i<=1000000)(b: -1000000<=j)(c:j<=1000000):t9 (some [.int i,.int j])=some (b7 i (j-i).toNat):=by
 show(if-(2 ^ 62)<=i/\i<2 ^ 62/\ -(2 ^ 62)<=j/\j<2 ^ 62 then some (b7 i (j-i).toNat)else none)=_
 rw[if_pos ⟨by rw[pQ];lia,by rw[pQ];lia,by rw[pQ];lia,by rw[pQ];lia⟩]
theorem small{n:Nat}(h:n<=1000):n<aB:=Mp h
theorem fU{ds:List D}(b:fi a=some ds)(c:ds.length<aB)(d:b6 e f g (mf cap a) ds=some out):bY cap fi e f g a=some (.lst out):=by
 unfold bY;rw[b,bj,if_pos c,d]
 rfl
theorem eq_str:a7 64 (.str a) (.str b)=some (.bl (a==b)):=rfl
theorem eq_int{a b:Int}:a7 64 (.int a) (.int b)=some (.bl (a==b)):=rfl
end PM
set_option bootstrap.genMatcherCode true in
set_option hygiene false in
local macro_rules
 | `(tactic| simp! $[only%$o]? [$xs,*] $[$l]?) => `(tactic| simp $[only%$o]? [PT.body, DL.cI, DL.iW, DL.aQ, DL.bf, DL.aY, DL.cc, DL.bD, DL.aa, DL.cC, DL.ab, DL.Dk, DL.rm, DL.dD, DL.aD, DL.ei, DL.au, DL.cB, DL.dZ, DL.hY, DL.gg, DL.iI, DL.qV, DL.tM, DL.M8, DL.tN, DL.ly, DL.ra, DL.kx, DL.eO, DL.c8, DL.d8, PM.UQ, PM.UR, PM.E9, PM.US, PM.E_, PM.UT, PM.UU, PM.UW, PM.UY, PM.UZ, PM.U0, PM.Fb, PM.U1, PM.Fc, PM.U2, PM.U3, PM.pP, PM.cG, PM.c5, PM.at2, $xs,*] $[$l]?)
 | `(tactic| dsimp! [$xs,*]) => `(tactic| first | rfl | simp! [$xs,*])
namespace PM
open PySem L2 DL PT
noncomputable def inR(lo a:Int):D->Bool
 | .int i=>decide (lo<=i)&&decide (i<=a)
 | _=>false
theorem u4:∀{ds:List D}(o:Option D),(∀d∈ds,b (some d::tl)=some (h d))->b6 (gN 0) (λ_=>some true) b (o::tl) ds=some (ds.map h)
 | [],_,_=>rfl
 | d::ds,o,a=>by
  have c:=u4 (ds:=ds) (some d) λx e=>a x (bV _ e)
  simp only[b6,gN,qB,bj,if_true,a d bg,c,wg,a_]
theorem Fd{a:Type}(p:a->Bool):∀xs:List a,mj (xs.map λx=>D.bl (p x))=some (xs.map p)
 | []=>rfl
 | x::xs=>by simp[mj,CS,Fd p xs]
theorem all_map{a:Type}(p:a->Bool)(xs:List a):nk [.lst (xs.map λx=>D.bl (p x))]=some (.bl (xs.all p)):=by
 simp[nk,Fd]
noncomputable def mB(c:Nat):Bool:=decide (97<=c)&&decide (c<=122)
def gU:D->Bool
 | .str x=>decide (1<=x.length)&&decide (x.length<=3)&&x.cps.toList.all mB
 | _=>false
def d3:List Str->Bool
 | x::y::r=>bc x y&&d3 (y::r)
 | _=>true
def nQ:D->Bool
 | .tup xs=>decide (1<=xs.length)&&decide (xs.length<=6)&&xs.all gU&&(match ib xs with | some a=>d3 a | none=>false)
 | _=>false
noncomputable def rL(h:D)(s:Str):Bool:=match h with
 | .str x=>x==s
 | _=>false
noncomputable def u5:D->Bool
 | .aW _=>false
 | .aH _ _=>false
 | .tab .. =>false
 | _=>true
theorem U5(a:u5 h=true):a7 64 h (.str s)=some (.bl (rL h s)):=by
 cases h<;>first | rfl | cases a
mutual
noncomputable def cY:D->Bool
 | .aW _=>false
 | .aH _ _=>false
 | .tab .. =>false
 | .tup xs=>eI xs
 | .lst xs=>eI xs
 | _=>true
noncomputable def eI:List D->Bool
 | []=>true
 | x::xs=>cY x&&eI xs
end
theorem Fe(h:cY d=true):u5 d=true:=by cases d<;>first | rfl | (unfold cY at h;cases h)
inductive Kd where
 | none | num (lo hi:Int) | name (ns:List Str) | pair (a b:Kd) | row (a:Kd) (m:Int)
noncomputable def Kd.toD:Kd->D
 | .none=>.tup [.str "none"]
 | .num lo c=>.tup [.str "number",.int lo,.int c]
 | .name ns=>.tup [.str "name",.tup (ns.map .str)]
 | .pair a b=>.tup [.str "pair",a.toD,b.toD]
 | .row a m=>.tup [.str "row",a.toD,.int m]
noncomputable def Kd.dp:Kd->Nat
 | .pair a b=>max a.dp b.dp+1
 | .row a _=>a.dp+1
 | _=>0
def Kd.WF:Kd->Prop
 | .none=>True
 | .num lo c=>lo<=c/\ -1000000<=lo/\c<=1000000
 | .name ns=>nQ (.tup (ns.map .str))=true
 | .pair a b=>a.WF/\b.WF
 | .row a m=>0<=m/\m<=9/\a.WF
noncomputable def Kd.Ne:Kd->Prop
 | .none=>True
 | .num lo c=>lo<=c
 | .name ns=>ns≠[]
 | .pair a b=>a.Ne/\b.Ne
 | .row a m=>0<=m/\m<=9/\a.Ne
theorem Ff:∀ns:List Str,eI (ns.map D.str)=true
 | []=>rfl
 | n::ns=>by simp[eI,cY,Ff ns]
theorem u6:∀K:Kd,cY K.toD=true
 | .none=>by simp[Kd.toD,cY,eI]
 | .num _ _=>by simp[Kd.toD,cY,eI]
 | .name ns=>by simp[Kd.toD,cY,eI,Ff]
 | .pair a b=>by simp[Kd.toD,cY,eI,u6 a,u6 b]
 | .row a m=>by simp[Kd.toD,cY,eI,u6 a]
mutual
noncomputable def fits:Kd->D->Bool
 | .none,d=>eA d .ay
 | .num lo c,d=>inR lo c d
 | .name ns,.str x=>ns.any λy=>y==x
 | .name _,_=>false
 | .pair a b,.tup [x,y]=>fits a x&&fits b y
 | .pair _ _,_=>false
 | .row a m,.tup xs=>decide ((xs.length:Int)<=m)&&rM a xs
 | .row _ _,_=>false
noncomputable def rM:Kd->List D->Bool
 | _,[]=>true
 | a,x::xs=>fits a x&&rM a xs
end
theorem U6:∀ns:List Str,(ns.map D.str).all fR=true
 | []=>rfl
 | n::ns=>by simp[fR]
theorem Fg(d:D):∀ns:List Str,(ns.map D.str).any (λy=>cu y d)=(match d with | .str x=>ns.any λy=>y==x | _=>false)
 | []=>by grind
 | n::ns=>by
  rw[a_,qu,Fg d ns]
  cases d<;>simp[cu]
theorem U7{ns:List Str}(h:u5 d=true):nj d (.tup (ns.map .str))=some (.bl (fits (.name ns) d)):=by
 have a:cN d=false:=by cases d<;>first | rfl | cases h
 show(if((ns.map D.str).all fR&&!cN d)=true then some (D.bl ((ns.map D.str).any λy=>cu y d))else none)=_
 rw[U6,a,Fg]
 grind[fits]
theorem h_nn:(("none":Str)=="none")=true:=by decide
theorem h_un:(("number":Str)=="none")=false:=by decide
theorem h_uu:(("number":Str)=="number")=true:=by decide
theorem h_an:(("name":Str)=="none")=false:=by decide
theorem h_au:(("name":Str)=="number")=false:=by decide
theorem h_aa:(("name":Str)=="name")=true:=by decide
theorem h_pn:(("pair":Str)=="none")=false:=by decide
theorem h_pu:(("pair":Str)=="number")=false:=by decide
theorem h_pa:(("pair":Str)=="name")=false:=by decide
theorem h_pp:(("pair":Str)=="pair")=true:=by decide
theorem h_rn:(("row":Str)=="none")=false:=by decide
theorem h_ru:(("row":Str)=="number")=false:=by decide
theorem h_ra:(("row":Str)=="name")=false:=by decide
theorem h_rp:(("row":Str)=="pair")=false:=by decide
theorem Fh:∀{xs:List D},eI xs=true->∀x∈xs,cY x=true
 | [],_,x,hx=>by cases hx
 | y::ys,h,x,hx=>by
  simp only[eI,bB]at h;rcases a9.mp hx with rfl | hx
  ·exact h.1
  ·exact Fh h.2 x hx
theorem y0(a:Kd):∀xs:List D,rM a xs=xs.all (fits a)
 | []=>by rfl
 | x::xs=>by simp[rM,y0 a xs]
theorem U8:∀(K:Kd){n:Nat},K.Ne->K.dp+1<=n->∀d:D,cY d=true->Tab n .fB [K.toD,d]=some (.bl (fits K d)):=by
 intro K
 induction K with
 | none=>
  intro n hw hn d e;obtain⟨k,rfl,j⟩:=bI (c:=0) (by simpa [Kd.dp]using hn);rw[tab]
  dsimp! [jP,Kd.toD,eq_str,h_nn,fits]
 | num lo B=>
  intro n hw hn d e;obtain⟨k,rfl,j⟩:=bI (c:=0) (by simpa [Kd.dp]using hn);rw[tab]
  cases d with
  | int i=>by_cases h:lo<=i<;>dsimp! [jP,Kd.toD,eq_str,h_un,h_uu,fits,inR,h]
  | _=>dsimp! [jP,Kd.toD,eq_str,h_un,h_uu,fits,inR]
 | name ns=>
  intro n hw hn d e;obtain⟨k,rfl,j⟩:=bI (c:=0) (by simpa [Kd.dp]using hn);rw[tab]
  cases d with
  | str x=>dsimp! [jP,Kd.toD,eq_str,h_an,h_au,h_aa,U7 (Fe e)]
  | _=>dsimp! [jP,Kd.toD,eq_str,h_an,h_au,h_aa,fits]
 | pair a b f p=>
  intro n hw hn d e
  have q:max a.dp b.dp+2<=n:=by simp only[Kd.dp]at hn;omega
  obtain⟨k,rfl,j⟩:=bI (c:=max a.dp b.dp+1) (by omega);rw[tab]
  cases d with
  | tup xs=>
   match xs,e with
   | [],_=>rfl
   | [x],_=>rfl
   | [x,y],e=>
    have g:cY x=true/\cY y=true:=by simpa [cY,eI,bB]using e
    have t:=f (n:=k) hw.1 (by lia) x g.1
    have u:=p (n:=k) hw.2 (by lia) y g.2
    cases v:fits a x<;>dsimp! [jP,Kd.toD,eq_str,eq_int,h_pn,h_pu,h_pa,h_pp,fits,t,u,v]
   | x::y::z::r,_=>
    rfl
  | _=>dsimp! [jP,Kd.toD,eq_str,h_pn,h_pu,h_pa,h_pp,fits]
 | row a m f=>
  intro n hw hn d e
  have q:a.dp+2<=n:=by simp only[Kd.dp]at hn;omega
  obtain⟨k,rfl,j⟩:=bI (c:=a.dp+1) (by omega);rw[tab]
  cases d with
  | tup xs=>
   by_cases s:(xs.length:Int)<=m
   ·have w:m<=9:=hw.2.1
    have A:bY [none,some 0] (bo (aa 1)) (gN 0) (λ_=>some true) (au (Tab k .fB) (ag [ab ak (aa 1) (cC (.int 1)),aa 0])) [some (.tup [.str "row",a.toD,.int m]),some (.tup xs)]=some (.lst (xs.map λd=>.bl (fits a d))):=by
     refine fU (ds:=xs) rfl (small (by lia)) ?_
     refine u4 none λd g=>?_
     show au (Tab k .fB) (ag [ab ak (aa 1) (cC (.int 1)),aa 0]) [some d,some (.tup [.str "row",a.toD,.int m])]=_
     dsimp! [f (n:=k) hw.2.2 (by omega) d (by grind[Fh,cY])]
    dsimp! [jP,Kd.toD,eq_str,h_rn,h_ru,h_ra,h_rp,fits,s,A,all_map,y0,-ja]
   ·dsimp! [jP,Kd.toD,eq_str,h_rn,h_ru,h_ra,h_rp,fits,s]
  | _=>dsimp! [jP,Kd.toD,eq_str,h_rn,h_ru,h_ra,h_rp,fits]
noncomputable def Kd.first:Kd->D
 | .none=>.ay
 | .num lo _=>.int lo
 | .name ns=>.str (ns.headD "")
 | .pair a b=>.tup [a.first,b.first]
 | .row _ _=>.tup []
theorem U9(h:(Kd.name ns).WF):∃x r,ns=x::r:=by
 cases ns with
 | nil=>simp[Kd.WF,nQ]at h
 | cons x r=>simp
theorem pR:∀{K:Kd},K.WF->K.Ne
 | .none,_=>trivial
 | .num _ _,h=>h.1
 | .name ns,h=>by obtain⟨x,r,rfl⟩:=U9 h;exact AY _ _
 | .pair a b,h=>⟨pR h.1,pR h.2⟩
 | .row a m,h=>⟨h.1,h.2.1,pR h.2.2⟩
theorem U_:∀(K:Kd){n:Nat},K.Ne->K.dp+1<=n->Tab n .fa [K.toD]=some K.first:=by
 intro K
 induction K with
 | none=>
  intro n hw hn;obtain⟨k,rfl,e⟩:=bI (c:=0) (by simpa [Kd.dp]using hn)
  rfl
 | num lo h=>
  intro n hw hn;obtain⟨k,rfl,e⟩:=bI (c:=0) (by simpa [Kd.dp]using hn)
  rfl
 | name ns=>
  intro n hw hn;obtain⟨x,r,rfl⟩:=ZZ hw;obtain⟨k,rfl,e⟩:=bI (c:=0) (by simpa [Kd.dp]using hn);rw[tab]
  dsimp! [yI,Kd.toD,eq_str,h_an,h_au,h_aa,Kd.first]
 | pair a b d f=>
  intro n hw hn
  have g:max a.dp b.dp+2<=n:=by simp only[Kd.dp]at hn;omega
  obtain⟨k,rfl,e⟩:=bI (c:=max a.dp b.dp+1) (by omega);rw[tab]
  dsimp! [yI,Kd.toD,eq_str,h_pn,h_pu,h_pa,h_pp,Kd.first,d (n:=k) hw.1 (by omega),f (n:=k) hw.2 (by omega)]
 | row a m d=>
  intro n hw hn;obtain⟨k,rfl,e⟩:=bI (n:=n) (c:=a.dp) (by simp only[Kd.dp]at hn;lia)
  rfl
theorem pS:∀K:Kd,cY K.first=true
 | .none=>rfl
 | .num _ _=>rfl
 | .name _=>rfl
 | .pair a b=>by simp[Kd.first,cY,eI,pS a,pS b]
 | .row _ _=>by simp[Kd.first,cY,eI]
theorem y4:∀{K:Kd},K.Ne->fits K K.first=true
 | .none,_=>rfl
 | .num lo c,h=>by
  have h':lo<=c:=h
  simp[fits,Kd.first,inR,h']
 | .name ns,h=>by
  cases ns with
  | nil=>exact absurd rfl h
  | cons x r=>simp[fits,Kd.first]
 | .pair a b,h=>by simp[fits,Kd.first,y4 h.1,y4 h.2]
 | .row a m,h=>by simp[fits,rM,Kd.first,h.1]
noncomputable def mix(c p m:Int):Int:=c*48271%p%m
theorem eJ{c p m:Int}(a:0<m):0<=mix c p m:=wh _ (by lia)
theorem eL{c p m:Int}(a:0<m):mix c p m<m:=wj _ a
theorem rN{i j:Int}(h: -1000000<=j)(a:j<=1000000):kj i j:=.inr ⟨by lia,by lia⟩
theorem y6{i j:Int}(h: -1000000<=i)(a:i<=1000000):kj i j:=.inl ⟨by omega,by omega⟩
theorem d_{n:Nat}(hn:1<=n){c p m:Int}(a:0<p)(b:0<m):Tab n .fo [.int c,.int p,.int m]=some (.int (mix c p m)):=by
 obtain⟨k,rfl,_⟩:=bI hn;rw[tab]
 dsimp! [E5,mz (rN (i:=c) (j:=48271) (by decide) (by decide)),gF a,gF b,mix]
theorem u7{n:Nat}(hn:1<=n){i:Int}(a:0<=i):∃c,Tab n .fm [.aW ns,.int i]=some (.int c):=by
 obtain⟨k,rfl,_⟩:=bI hn;rw[tab]
 by_cases h:i<(ns.length:Int)
 ·have b:bA ns i=some ns[i.toNat]:=by
   have:=pO (xs:=ns) (i:=i.toNat) (by omega)
   rwa [oG a]at this
  exact⟨ns[i.toNat],by dsimp! [yP,h,b]⟩
 ·exact⟨0,by dsimp! [yP,h]⟩
noncomputable def pT:Str:="abcdefghijklmnopqrstuvwxyz"
theorem Va:pT.cps.toList=(dY 26).map (97+ ·):=by decide
theorem Fi{i:Int}(a:0<=i)(h:i<26):bA pT.cps.toList i=some (97+i.toNat):=by
 grind[pO,Va,oG,Z0,List.getElem_range]
def cZ(c:Int):List Nat:=(dY (mix c 9887 3).toNat).map λ(k:Nat)=>97+(mix (c+3*(k:Int)) 9941 26).toNat
def atC(c:Int):Int:=mix c 9883 ((cZ c).length+1)
def mC(c j:Int):Nat:=97+((mix c 9923 26+9*j)%26).toNat
def jw(c j:Int):List Nat:=(cZ c).take (atC c).toNat++mC c j::(cZ c).drop (atC c).toNat
def dk(c j:Int):Str:=⟨(jw c j).toArray⟩
theorem Fj(c:Int):(cZ c).length<=2:=by
 have a:=eJ (c:=c) (p:=9887) (m:=3) (by decide)
 have b:=eL (c:=c) (p:=9887) (m:=3) (by decide)
 simp[cZ]
 lia
theorem Fl(c:Int):0<=atC c/\(atC c).toNat<=(cZ c).length:=by
 have a:=eJ (c:=c) (p:=9883) (m:=(cZ c).length+1) (by lia)
 have b:=eL (c:=c) (p:=9883) (m:=(cZ c).length+1) (by omega)
 unfold atC
 lia
theorem Fm{i:Int}(a:0<=i)(h:i<26):mB (97+i.toNat)=true:=by
 simp[mB]
 lia
theorem Fo(c:Int):∀x∈cZ c,mB x=true:=by
 intro x a;obtain⟨k,_,rfl⟩:=aO.mp a
 simp[Fm,eJ,eL]
theorem Vb(c j:Int):mB (mC c j)=true:=Fm (wh _ (by decide)) (wj _ (by decide))
theorem Vc(c j:Int):(jw c j).length=(cZ c).length+1:=by
 grind[Fl,jw]
theorem Vd(c j:Int):(jw c j).all mB=true:=by
 rw[ja];intro x a;unfold jw at a;rcases bW.mp a with h | h
 ·exact Fo c x (Z1 h)
 ·rcases a9.mp h with rfl | h
  ·exact Vb c j
  grind[Fo,Z2]
theorem Fp(c j:Int):gU (.str (dk c j))=true:=by
 have a:=Vc c j
 have b:=Fj c
 have d:=Vd c j
 have e:(dk c j).length=(jw c j).length:=by show(jw c j).toArray.size=_;simp
 simp_all[gU,dk,jw]
theorem y7{c i j:Int}(a:0<=i/\i<3)(b:0<=j/\j<3)(h:dk c i=dk c j):i=j:=by
 have d:jw c i=jw c j:=by
  have:=congrArg (λs:Str=>s.cps.toList) h
  simpa [dk]using this
 grind[jw,List.append_cancel_left,mC,ZW]
theorem u9(x y:Str):(x++y).cps.toList=x.cps.toList++y.cps.toList:=by
 show(x.cps++y.cps).toList=_
 simp
theorem Ve:("":Str).cps.toList=[]:=by decide
theorem Fq:∀(cs:List Nat),(sJ "" (cs.map λc=>(⟨#[c]⟩:Str))).cps.toList=cs
 | []=>rfl
 | [c]=>rfl
 | c::d::r=>by
  have a:=Fq (d::r)
  show((⟨#[c]⟩:Str)++""++sJ "" ((d::r).map λc=>(⟨#[c]⟩:Str))).cps.toList=_
  rw[u9,u9,a,Ve]
  rfl
theorem Vf(x:Str)(l:List Nat)(h:x.cps.toList=l):x=⟨l.toArray⟩:=tY (by simpa using h)
theorem Vg(cs:List Nat):ib (cs.map λc=>D.str ⟨#[c]⟩)=some (cs.map λc=>(⟨#[c]⟩:Str)):=by
 induction cs with
 | nil=>rfl
 | cons c r a=>simp[ib,strOf,a]
theorem Fs:∀(cs:List Nat),((cs.map λc=>(⟨#[c]⟩:Str)).map (·.length)).sum=cs.length
 | []=>rfl
 | c::r=>by
  rw[a_,a_,List.sum_cons,Fs r,bR]
  show 1+r.length=_
  lia
theorem Vh{cs:List Nat}(h:cs.length<=1000):xO (.str "") (.lst (cs.map λc=>D.str ⟨#[c]⟩))=some (.str ⟨cs.toArray⟩):=by
 show(ib (cs.map λc=>D.str ⟨#[c]⟩)).bind (λbs=>if(bs.map (·.length)).sum+bs.length*("":Str).length<=1000000 then some (D.str (sJ "" bs))else none)=_
 rw[Vg,bj,Fs,if_pos]
 ·rw[Vf _ cs (Fq cs)]
 ·have:("":Str).length=0:=by decide
  grind
theorem y8{x y:Str}(h:x.length+y.length<=1000):aM (.str x) (.str y)=some (.str (x++y)):=by
 show(if x.length+y.length<=aB then some (D.str (x++y))else none)=_
 rw[if_pos (f9 (small h))]
theorem Vi{l:List Nat}{i:Int}(h:0<=i)(a:i.toNat<=l.length):bH l none (some i)=l.take i.toNat:=by
 unfold bH
 have e:HT.aV l.length l.length (some i)=i.toNat:=by
  show(if i<0 then(i+(l.length:Int)).toNat else min i.toNat l.length)=_
  rw[if_neg (by lia)]
  lia
 rw[e]
 simp[HT.aV]
theorem Vj{l:List Nat}{i:Int}(h:0<=i)(a:i.toNat<=l.length):bH l (some i) none=l.drop i.toNat:=by
 unfold bH
 have e:HT.aV l.length 0 (some i)=i.toNat:=by
  show(if i<0 then(i+(l.length:Int)).toNat else min i.toNat l.length)=_
  rw[if_neg (by omega)];omega
 rw[e]
 simp[HT.aV]
 simp[Z3]
theorem Fu{n:Nat}(hn:2<=n)(c j:Int)(M:0<=j/\j<=1000000):Tab n .fp [.int c,.int j]=some (.str (dk c j)):=by
 obtain⟨k,rfl,f⟩:=bI hn;rw[tab]
 have y:(D.str "abcdefghijklmnopqrstuvwxyz")=.str pT:=rfl
 have z:=d_ (n:=k) f (c:=c) (p:=9923) (m:=26) (by decide) (by decide)
 have A:=d_ (n:=k) f (c:=c) (p:=9887) (m:=3) (by decide) (by decide)
 have g:ak (.str pT) (.int ((mix c 9923 26+9*j)%26))=some (.str ⟨#[mC c j]⟩):=by
  rw[Fb,Fi (wh _ (by decide)) (wj _ (by decide))]
  rfl
 have B:∀t o2 u,bY [none,some 2,some 0] (dD (ag [au (Tab k .fo) (ag [aa 0,cC (.int 9887),cC (.int 3)])])) (gN 0) (λ_=>some true) (ab ak (aa 1) (au (Tab k .fo) (ag [ab aM (aa 2) (ab jj (cC (.int 3)) (aa 0)),cC (.int 9941),cC (.int 26)]))) [some (.int c),some (.int j),some (.str pT),t,o2,u]
   =some (.lst ((cZ c).map λx=>.str ⟨#[x]⟩)):=by
  intro t o2 u
  have C:=eJ (c:=c) (p:=9887) (m:=3) (by decide)
  have E:=eL (c:=c) (p:=9887) (m:=3) (by decide)
  refine fU (ds:=b7 0 (mix c 9887 3).toNat) ?_ ?_ ?_
  ·simp! only[oH,bj,A]
   exact u3 (by lia) (by lia)
  ·simp only[b7,aJ,sL]
   exact small (by lia)
  ·have e:(cZ c).map (λx=>D.str ⟨#[x]⟩)=(b7 0 (mix c 9887 3).toNat).map (λd=>match d with | .int i=>.str ⟨#[97+(mix (c+3*i) 9941 26).toNat]⟩ | _=>.ay):=by
    unfold b7 cZ;rw[fQ,fQ]
    apply sR
    intro i G
    simp[Z4]
   rw[e]
   refine u4 none λd v=>?_
   unfold b7 at v;obtain⟨i,G,rfl⟩:=aO.mp v
   have H:=d_ (n:=k) f (c:=c+3*(0+(i:Int))) (p:=9941) (m:=26) (by decide) (by decide)
   show ab ak (aa 1) (au (Tab k .fo) (ag [ab aM (aa 2) (ab jj (cC (.int 3)) (aa 0)),cC (.int 9941),cC (.int 26)])) [some (.int (0+(i:Int))),some (.str pT),some (.int c)]=_
   simp! only[oH,oD,bj,mz (y6 (i:=3) (j:=0+(i:Int)) (by decide) (by decide)),H,Fi (eJ (c:=c+3*(0+(i:Int))) (p:=9941) (m:=26) (by decide)) (eL (by decide)),wg]
 have h:=Fj c
 have a:=Fl c
 have w:=d_ (n:=k) f (c:=c) (p:=9883) (m:=(((cZ c).length:Nat):Int)+1) (by decide) (by lia)
 have q:=Vh (cs:=cZ c) (fo h)
 have hlen:((⟨(cZ c).toArray⟩:Str).length)=(cZ c).length:=by show(cZ c).toArray.size=_;simp
 have r:nq (.str ⟨(cZ c).toArray⟩) none (some (atC c))=some (.str ⟨((cZ c).take (atC c).toNat).toArray⟩):=by
  show some (D.str ⟨(bH (cZ c) none (some (atC c))).toArray⟩)=_
  rw[Vi a.1 a.2]
 have s:nq (.str ⟨(cZ c).toArray⟩) (some (atC c)) none=some (.str ⟨((cZ c).drop (atC c).toNat).toArray⟩):=by
  show some (D.str ⟨(bH (cZ c) (some (atC c)) none).toArray⟩)=_
  rw[Vj a.1 a.2]
 have N:((⟨((cZ c).take (atC c).toNat).toArray⟩:Str).length)<=2:=by show((cZ c).take (atC c).toNat).toArray.size<=2;simp;lia
 have O:((⟨((cZ c).drop (atC c).toNat).toArray⟩:Str).length)<=2:=by show((cZ c).drop (atC c).toNat).toArray.size<=2;simp;lia
 have Q:((⟨#[mC c j]⟩:Str).length)=1:=rfl
 have I:aM (.str ⟨((cZ c).take (atC c).toNat).toArray⟩) (.str ⟨#[mC c j]⟩)=some (.str (⟨((cZ c).take (atC c).toNat).toArray⟩++⟨#[mC c j]⟩)):=y8 (by lia)
 have J:aM (.str (⟨((cZ c).take (atC c).toNat).toArray⟩++⟨#[mC c j]⟩)) (.str ⟨((cZ c).drop (atC c).toNat).toArray⟩)=some (.str (dk c j)):=by
  rw[y8 (by rw[Cg];lia)]
  congr 2
  apply tY
  rw[u9,u9]
  simp[dk,jw]
 have b:mix c 9883 (((cZ c).length:Nat)+1)=atC c:=rfl
 rw[b]at w
 have L:yQ (Tab k) [some (.int c),some (.int j),none,none,none,none]=some (.ret (.str (dk c j))):=by
  unfold yQ;simp only[y]
  dsimp! [z,mz (y6 (i:=9) (j:=j) (by decide) (by decide)),gF (show(0:Int)<26 by decide),g,B,t5,t4,q,hlen,w,r,s,I,J]
 simp[body,cI,iW,L]
theorem Fv:∀{l:List Str},mm l->l.Nodup->d3 l=true
 | [],_,_=>rfl
 | [x],_,_=>rfl
 | x::y::r,h,hn=>by
  have c:=gw.mp h
  have n1:=g8.mp hn
  have a:bc y x=false:=c.1 y bg
  have b:x≠y:=λz=>n1.1 (by rw[z];exact bg)
  have:bc x y=true:=by
   rcases ph x y with t | t | t
   ·exact t
   ·exact absurd t b
   ·rw[t]at a;cases a
  show(bc x y&&d3 (y::r))=true
  rw[this,Fv c.2 n1.2]
  rfl
theorem u_:∀a:List Str,ib (a.map D.str)=some a
 | []=>rfl
 | s::a=>by simp[ib,strOf,u_ a]
def drawn(c:Int)(m:Nat):List Str:=(dY m).map λ(j:Nat)=>dk c (j:Int)
theorem Fw{c:Int}{m:Nat}(h:m<=3):(drawn c m).Nodup:=by
 unfold drawn;rw[AU]at*;refine AZ.mpr ?_;refine ZsI ?_ (AU.mp Z5);intro a b d e f z
 have g:a<m:=by simpa using d
 have n:b<m:=by simpa using e
 have:=y7 (c:=c) (i:=(a:Int)) (j:=(b:Int)) ⟨by lia,by lia⟩ ⟨by lia,by lia⟩ z
 lia
theorem Vk{c:Int}{m:Nat}(f:1<=m)(h:m<=3):nQ (.tup ((dV (drawn c m)).map .str))=true:=by
 have a:=jJ (drawn c m)
 have g:(dV (drawn c m)).length=m:=by rw[a.length_eq];simp[drawn]
 have hw:((dV (drawn c m)).map D.str).all gU=true:=by
  rw[ja];intro d b;obtain⟨s,e,rfl⟩:=aO.mp b;obtain⟨j,_,rfl⟩:=aO.mp (a.mem_iff.mp e);exact Fp c j
 have i:d3 (dV (drawn c m))=true:=(by grind[Fv,tZ,Fw])
 grind[nQ,aJ,u_]
theorem Vl{k:Nat}(a:2<=k){c:Int}:∀b o2 f g,bY [none,some 0] (dD (ag [ab aM (cC (.int 1)) (au (Tab k .fo) (ag [aa 0,cC (.int 9931),cC (.int 3)]))])) (gN 0) (λ_=>some true) (au (Tab k .fp) (ag [aa 1,aa 0])) [some (.int c),b,o2,f,g]
   =some (.lst ((drawn c (1+mix c 9931 3).toNat).map .str)):=by
 intro b o2 f g
 have q:=eJ (c:=c) (p:=9931) (m:=3) (by decide)
 have r:=eL (c:=c) (p:=9931) (m:=3) (by decide)
 have s:=d_ (n:=k) (fu a) (c:=c) (p:=9931) (m:=3) (by decide) (by decide)
 refine fU (ds:=b7 0 (1+mix c 9931 3).toNat) ?_ ?_ ?_
 ·simp! only[oH,bj,s]
  exact u3 (by lia) (by lia)
 ·simp only[b7,aJ,sL]
  exact small (by lia)
 ·have e:(drawn c (1+mix c 9931 3).toNat).map D.str=(b7 0 (1+mix c 9931 3).toNat).map (λd=>match d with | .int i=>.str (dk c i) | _=>.ay):=by
   unfold b7 drawn;rw[fQ,fQ]
   apply sR
   intro i h
   simp[Z4]
  rw[e]
  refine u4 none λd j=>?_
  unfold b7 at j;obtain⟨i,h,rfl⟩:=aO.mp j
  have t:i<(1+mix c 9931 3).toNat:=by simpa using h
  show au (Tab k .fp) (ag [aa 1,aa 0]) [some (.int (0+(i:Int))),some (.int c)]=_
  simp! only[oH,oD,bj,Fu a c (0+(i:Int)) ⟨by lia,by lia⟩]
theorem Vm(c:Int):t2 [.lst ((drawn c (1+mix c 9931 3).toNat).map .str)]=some (.lst ((dV (drawn c (1+mix c 9931 3).toNat)).map .str)):=by
 have a:=eJ (c:=c) (p:=9931) (m:=3) (by decide)
 have b:=eL (c:=c) (p:=9931) (m:=3) (by decide)
 show(if((drawn c (1+mix c 9931 3).toNat).map D.str).length<64 then(ib ((drawn c (1+mix c 9931 3).toNat).map D.str)).map (λbs=>D.lst ((dV bs).map .str))else none)=_
 rw[if_pos (by simp[drawn];lia),u_]
 rfl
noncomputable def Kd.mD:Kd->Prop
 | .none=>True
 | .num lo c=> -100<=lo/\c<=100
 | .name ns=>ns.length<=3
 | .pair a b=>a.mD/\b.mD
 | .row a _=>a.mD
theorem Fx{k:Nat}(e:3<=k)(c a:Int)(h:mix c 9973 8<6\/a=0):∃K:Kd,Tab (k+1) .fq [.int c,.int a]=some K.toD/\K.WF/\K.dp=0/\K.mD:=by
 have b:=d_ (n:=k) (fu e) (c:=c) (p:=9973) (m:=8) (by decide) (by decide)
 rw[tab]
 generalize mix c 9973 8=t at b h
 by_cases f:t<2
 ·refine⟨.none,?_,trivial,rfl,trivial⟩
  dsimp! [nP,b,f,Kd.toD]
 ·by_cases j:t<6
  ·by_cases g:t<4
   ·have i:=d_ (n:=k) (fu e) (c:=c) (p:=9967) (m:=21) (by decide) (by decide)
    have q:=d_ (n:=k) (fu e) (c:=c) (p:=9949) (m:=12) (by decide) (by decide)
    have b1:=eJ (c:=c) (p:=9967) (m:=21) (by decide)
    have b2:=eL (c:=c) (p:=9967) (m:=21) (by decide)
    have b3:=eJ (c:=c) (p:=9949) (m:=12) (by decide)
    have b4:=eL (c:=c) (p:=9949) (m:=12) (by decide)
    refine⟨.num (mix c 9967 21-10) (mix c 9967 21-10+mix c 9949 12),?_,⟨by lia,by lia,by lia⟩,rfl,⟨by lia,by lia⟩⟩
    have d:¬(5<t):=by lia
    dsimp! [nP,b,f,d,g,i,q,Kd.toD,eq_int]
   ·have s:=eJ (c:=c) (p:=9931) (m:=3) (by decide)
    have i:=eL (c:=c) (p:=9931) (m:=3) (by decide)
    refine⟨.name (dV (drawn c (1+mix c 9931 3).toNat)),?_,Vk (by lia) (by lia),rfl,by show(dV (drawn c (1+mix c 9931 3).toNat)).length<=3;rw[(jJ _).length_eq];simp[drawn];lia⟩
    have d:¬(5<t):=by lia
    dsimp! [nP,b,f,d,g,j,Kd.toD,eq_int,Vl (k:=k) (fu e) (c:=c),Vm c,ic,tR]
  ·have r:a=0:=by rcases h with h | h<;>omega
   subst r;refine⟨.none,?_,trivial,rfl,trivial⟩
   have d:5<t:=by lia
   dsimp! [nP,b,f,d,Kd.toD,eq_int]
theorem Vn{k:Nat}(g:3<=k)(c a:Int)(h:¬mix c 9973 8<6)(q:a≠0){b e:Kd}(r:Tab k .fq [.int (c*3+1),.int (a-1)]=some b.toD)(y:Tab k .fq [.int (c*5+2),.int (a-1)]=some e.toD)
  (s:b.WF) (z:e.WF) (u:b.mD) (A:e.mD) {d:Nat} (C:b.dp<=d) (E:e.dp<=d):∃K:Kd,Tab (k+1) .fq [.int c,.int a]=some K.toD/\K.WF/\K.dp<=d+1/\K.mD:=by
 have f:=d_ (n:=k) (fu g) (c:=c) (p:=9973) (m:=8) (by decide) (by decide)
 have B:=d_ (n:=k) (fu g) (c:=c) (p:=9929) (m:=5) (by decide) (by decide)
 have b1:=eJ (c:=c) (p:=9929) (m:=5) (by decide)
 have b2:=eL (c:=c) (p:=9929) (m:=5) (by decide)
 rw[tab]
 generalize mix c 9973 8=t at f h
 have v:¬t<2:=by lia
 have w:¬t<4:=by lia
 by_cases x:t=6
 ·refine⟨.pair b e,?_,⟨s,z⟩,by simp only[Kd.dp];lia,⟨u,A⟩⟩
  dsimp! [nP,f,v,w,h,x,q,Kd.toD,eq_int,mz (rN (i:=c) (j:=3) (by decide) (by decide)),mz (rN (i:=c) (j:=5) (by decide) (by decide)),r,y]
 ·refine⟨.row b (mix c 9929 5),?_,⟨b1,by lia,s⟩,by simp only[Kd.dp];lia,u⟩
  dsimp! [nP,f,v,w,h,x,q,Kd.toD,eq_int,mz (rN (i:=c) (j:=3) (by decide) (by decide)),r,B]
theorem Vo:∀(a:Nat){n:Nat}(c:Int),a+4<=n->∃K:Kd,Tab n .fq [.int c,.int (a:Int)]=some K.toD/\K.WF/\K.dp<=a/\K.mD:=by
 intro a
 induction a with
 | zero=>
  intro n c hn;obtain⟨k,rfl,b⟩:=bI (c:=3) hn
  refine eh (Fx b c 0 (.inr rfl)) λK d f m g=>?_
  exact⟨K,d,f,by lia,g⟩
 | succ a h=>
  intro n c hn;obtain⟨k,rfl,b⟩:=bI (c:=a+4) (by omega)
  by_cases i:mix c 9973 8<6
  ·refine eh (Fx (k:=k) (fu b) c ((a+1:Nat):Int) (.inl i)) λK d f m g=>?_
   grind
  ·refine eh (h (n:=k) (c*3+1) b) λs j p q r=>?_
   refine eh (h (n:=k) (c*5+2) b) λt b1 b2 b3 b4=>?_
   have e:(((a+1:Nat):Int)-1)=(a:Int):=by lia
   rw[<-e]at j b1;exact Vn (fu b) c _ i (by lia) j b1 p b2 r b4 q b3
theorem Vp(a:Nat){n:Nat}(c:Int)(hn:a+4<=n):∃K:Kd,Tab n .fq [.int c,.int (a:Int)]=some K.toD/\K.WF/\K.dp<=a:=by obtain⟨K,b,d,e,_⟩:=Vo a c hn;exact⟨K,b,d,e⟩
theorem Vq{xs ys:List D}(h:qc (xs.length+ys.length) 1000=true):aM (.lst xs) (.lst ys)=some (.lst (xs++ys)):=by
 show(if xs.length+ys.length<=aB then some (D.lst (xs++ys))else none)=_
 rw[if_pos (f9 (small (gJ h)))]
def F7:D:=.tup (("abcdefg":Str).cps.toList.map λc=>.str (sgn c))
theorem n1:nQ (.tup [])=false:=by decide
theorem n2:nQ (.tup [.str "b",.str "a"])=false:=by decide
theorem n3:nQ (.tup [.str "a",.str "a"])=false:=by decide
theorem eT(h:g a=some (.aF ρ')):aQ g u a=u ρ':=by simp[aQ,h]
theorem nR{i:Nat}{a:ae}(h:f a=some d):cc i f a=some (.aF (a.set i (some d))):=by simp[cc,h]
theorem kF(h:t a=some false):bf t g u a=u a:=by simp[bf,h]
theorem y9(h:fi a=some ds):eC fi b gb a=fS b gb ds a:=by simp[eC,h]
theorem y_:hZ d .ay=some (.bl (!eA d .ay)):=rfl
theorem xk:eA .ay .ay=true:=rfl
mutual
noncomputable def dm:D->Nat
 | .tup xs=>d4 xs+1
 | _=>0
noncomputable def d4:List D->Nat
 | []=>0
 | x::xs=>max (dm x) (d4 xs)
end
mutual
noncomputable def bZ:D->Bool
 | .tup xs=>eM xs
 | .lst _=>false
 | .aW _=>false
 | .aH _ _=>false
 | .tab .. =>false
 | _=>true
noncomputable def eM:List D->Bool
 | []=>true
 | x::xs=>bZ x&&eM xs
end
theorem Fy{n:Nat}(f:∀x y,bZ x=true->bZ y=true->dm x<=n->∃b,bM n x y=some b):∀xs ys:List D,eM xs=true->eM ys=true->d4 xs<=n->∃b,cy n xs ys=some b
 | [],ys,_,_,_=>⟨true,by simp[cy]⟩
 | x::xs,[],_,_,_=>⟨true,by simp[cy]⟩
 | x::xs,y::ys,a,d,g=>by
  simp only[eM,bB]at a d
  have h:max (dm x) (d4 xs)<=n:=g
  obtain⟨b,e⟩:=f x y a.1 d.1 (by lia);obtain⟨c,i⟩:=Fy f xs ys a.2 d.2 (by lia);exact⟨b&&c,by simp[cy,e,i]⟩
theorem Fz(n:Nat)(x y:D)(a:bZ x=true)(c:bZ y=true)(h:∀xs,x≠ .tup xs):∃b,bM n x y=some b:=by
 refine⟨cu x y,?_⟩
 cases x with
 | tup xs=>exact absurd rfl (h xs)
 | lst xs=>simp[bZ]at a
 | aW xs=>simp[bZ]at a
 | aH | tab=>simp[bZ]at a
 | _=>cases y<;>first | (simp[bZ]at c;done) | (cases n<;>simp[bM,pd,gh,cN])
theorem za:∀(n:Nat)(x y:D),bZ x=true->bZ y=true->dm x<=n->∃b,bM n x y=some b
 | 0,x,y,f,d,g=>Fz 0 x y f d λxs e=>by subst e;simp[dm]at g
 | n+1,x,y,f,d,g=>by
  cases x with
  | tup xs=>
   cases y with
   | tup ys=>
    have h:d4 xs+1<=n+1:=g
    obtain⟨b,e⟩:=Fy (λx y a b c=>za n x y a b c) xs ys (by simpa [bZ]using f) (by simpa [bZ]using d) (by lia);exact⟨b&&xs.length==ys.length,by simp[bM,e]⟩
   | lst ys=>simp[bZ]at d
   | aW ys=>simp[bZ]at d
   | aH | tab=>simp[bZ]at d
   | _=>exact⟨false,by simp[bM,pd,gh,cN,cu]⟩
  | _=>exact Fz _ _ _ f d (λxs e=>by cases e)
theorem FC:∀ns:List Str,eM (ns.map D.str)=true
 | []=>rfl
 | n::ns=>by simp[eM,bZ,FC ns]
theorem rO:∀K:Kd,bZ K.toD=true
 | .none=>by simp[Kd.toD,bZ,eM]
 | .num _ _=>by simp[Kd.toD,bZ,eM]
 | .name ns=>by simp[Kd.toD,bZ,eM,FC]
 | .pair a b=>by simp[Kd.toD,bZ,eM,rO a,rO b]
 | .row a m=>by simp[Kd.toD,bZ,eM,rO a]
theorem FD:∀ns:List Str,d4 (ns.map D.str)=0
 | []=>rfl
 | n::ns=>by simp[d4,dm,FD ns]
theorem va:∀K:Kd,dm K.toD<=K.dp+2
 | .none=>by simp[Kd.toD,dm,d4,Kd.dp]
 | .num _ _=>by simp[Kd.toD,dm,d4,Kd.dp]
 | .name ns=>by simp[Kd.toD,dm,d4,Kd.dp,FD]
 | .pair a b=>by
  have c:=va a
  have d:=va b
  simp only[Kd.toD,dm,d4,Kd.dp]
  lia
 | .row a m=>by
  have c:=va a
  simp only[Kd.toD,dm,d4,Kd.dp]
  lia
theorem mod2(c:Int):c%2=0\/c%2=1:=by lia
theorem vb{xs ys:List D}(h:xs≠[])(a:xs.length+ys.length<=1000):aM (.tup xs) (.tup ys)=some (.tup (xs++ys)):=by
 show(if(!xs.isEmpty)=true/\xs.length+ys.length<=aB then some (D.tup (xs++ys))else none)=_
 rw[if_pos ⟨by cases xs<;>first | rfl | exact absurd rfl h,f9 (small a)⟩]
theorem vc(h:g a=some (.aF ρ')):aG g u a=u ρ':=by simp[aG,h]
def both(a b:Kd)(v:D):Bool:=fits a v&&fits b v
theorem pU:∀{l:List Str},d3 l=true->l.Pairwise λa b=>bc a b=true
 | [],_=>Iy
 | [x],_=>Ar _ _
 | x::y::r,h=>by
  have h':(bc x y&&d3 (y::r))=true:=h
  rw[bB]at h'
  have c:=pU h'.2
  refine gw.mpr ⟨λz hz=>?_,c⟩;rcases a9.mp hz with rfl | hz
  ·exact h'.1
  ·exact ml h'.1 ((gw.mp c).1 z hz)
theorem FE:∀{l:List Str},(l.Pairwise λa b=>bc a b=true)->d3 l=true
 | [],_=>rfl
 | [x],_=>rfl
 | x::y::r,h=>by
  have h':=gw.mp h
  show(bc x y&&d3 (y::r))=true
  rw[h'.1 y bg,FE h'.2]
  rfl
theorem zb(h:bc x y=true):x≠y:=λe=>by
 subst e;rw[CU]at h;cases h
theorem FG{l:List Str}(h:d3 l=true):l.Nodup:=by
 rw[AU]
 exact(pU h).imp λh=>zb h
open PySem.Builtin.Int (intBits)
theorem FH{i:Int}(a:0<=i)(h:i<=2000001):intBits i<=21:=intBits_le_iff.mpr (by
 have:(2:Nat) ^ 21=2097152:=by decide
 lia)
theorem Vr{i j:Int}{m n:Nat}(a:intBits i<=m)(b:intBits j<=n)(h:m+n<=134217728):nE (.int i) (.int j)=some (.int (i*j)):=by
 have c:qk i j:=ZsJ a b h
 show(if qk i j then some (D.int (i*j))else none)=_
 rw[if_pos c]
theorem zc{xs ys:List D}(a:xs.length+ys.length<=1000):il (.tup xs) (.tup ys)=some (.tup (xs++ys)):=by
 cases xs with
 | nil=>rfl
 | cons x r=>
  show aM (.tup (x::r)) (.tup ys)=_
  exact vb (AY _ _) a
theorem pV(h:t a=some true):bf t g u a=g a:=by simp[bf,h]
theorem Vs(h:g a=some (.ret d)):aQ g u a=some (.ret d):=by simp[aQ,h]
theorem lJ(h:f a=some d):aY f a=some (.ret d):=by simp[aY,h]
noncomputable def rP:D->Str
 | .tup (.str x::_)=>x
 | _=>""
def zd:D->Bool
 | .tup [h]=>rL h "end"
 | _=>false
theorem Vt(d:D)(b:cY d=true):a7 64 d lI=some (.bl (zd d)):=by
 cases d with
 | tup xs=>
  cases xs with
  | nil=>rfl
  | cons h r=>
   have c:u5 h=true:=by simp only[cY,eI,bB]at b;exact Fe b.1
   have e:bM 63 h (.str "end")=some (rL h "end"):=by
    have:=U5 (s:="end") c
    simp only[a7,bC]at this
    cases h<;>first | rfl | cases c
   show(bM 64 (.tup (h::r)) (.tup [.str "end"])).map D.bl=_
   have f:bM 64 (.tup (h::r)) (.tup [.str "end"])=some ((rL h "end"&&true)&&(h::r).length==[D.str "end"].length):=by
    show(cy 63 (h::r) [.str "end"]).map _=_
    have:cy 63 (h::r) [.str "end"]=some (rL h "end"&&true):=by
     cases r<;>simp[cy,e]
    rw[this]
    rfl
   rw[f]
   cases r with
   | nil=>simp[zd]
   | cons a r=>simp[zd]
 | aW ns=>simp[cY]at b
 | aH | tab=>simp[cY]at b
 | _=>rfl
noncomputable abbrev Ch:=Str × Kd × Int
noncomputable def aI(c:Ch):D:=.tup [.str c.1,c.2.1.toD,.int c.2.2]
inductive Pl where
 | fin
 | say (a b:Int) (cs:List Ch)
def Pl.toD:Pl->D
 | .fin=>.tup [.str "end"]
 | .say a b cs=>.tup [.str "say",.int a,.int b,.tup (cs.map aI)]
def fV(N:Int)(c:Ch):Prop:=gU (.str c.1)=true/\c.2.1.WF/\c.2.1.dp<=2/\0<=c.2.2/\c.2.2<N
def Pl.OK(m N:Int):Pl->Prop
 | .fin=>True
 | .say a b cs=>0<=a/\a<m/\0<=b/\b<m/\a≠b/\1<=cs.length/\cs.length<=5/\(∀c∈cs,fV N c)/\d3 (cs.map (·.1))=true
noncomputable def Pl.O2(m N:Int):Pl->Prop
 | .fin=>True
 | .say a b cs=>0<=a/\a<m/\0<=b/\b<m/\a≠b/\1<=cs.length/\cs.length<=5/\(∀c∈cs,fV N c)/\(cs.map (·.1)).Nodup
theorem Pl.OK.o2{m N:Int}:∀{p:Pl},p.OK m N->p.O2 m N
 | .fin,_=>trivial
 | .say _ _ _,⟨a,b,c,d,e,f,g,h,i⟩=>⟨a,b,c,d,e,f,g,h,FG i⟩
def aE(m:Int)(ps:List Pl):D:=.tup [.int m,.tup (ps.map Pl.toD)]
theorem Vu(c:Ch):cY (aI c)=true:=by simp[aI,cY,eI,u6]
theorem FI{b:Type}{f:b->D}(h:∀a,cY (f a)=true):∀l:List b,eI (l.map f)=true
 | []=>rfl
 | a::l=>by simp[eI,h a,FI h l]
theorem Vv(p:Pl):cY p.toD=true:=by
 cases p with
 | fin=>simp[Pl.toD,cY,eI]
 | say a b cs=>simp[Pl.toD,cY,eI,FI Vu]
theorem h_ee:(("end":Str)=="end")=true:=by decide
theorem h_se:(("say":Str)=="end")=false:=by decide
def eU:Pl->Str->D->Option Int
 | .fin,_,_=>none
 | .say _ _ cs,w,v=>(cs.find? λc=>c.1==w&&fits c.2.1 v).map (·.2.2)
noncomputable def fW:Option Int->D
 | some i=>.int i
 | none=>.ay
noncomputable def Pl.Kn(N:Int):Pl->Prop
 | .fin=>True
 | .say _ _ cs=>∀c∈cs,fV N c
theorem FJ{m N:Int}{p:Pl}(h:p.O2 m N):p.Kn N:=by
 cases p with
 | fin=>trivial
 | say a b cs=>exact h.2.2.2.2.2.2.2.1
noncomputable def Pl.bt:Pl->List Ch
 | .fin=>[]
 | .say _ _ cs=>cs
theorem FK(p:Pl):a7 64 p.toD lI=some (.bl (match p with | .fin=>true | .say _ _ _=>false)):=by
 rw[Vt _ (Vv p)]
 cases p with
 | fin=>rfl
 | say a b cs=>rfl
theorem gW{e:Type}{a b c d:e}{l:List e}:bA (a::b::c::d::l) 3=some d:=by
 simp[bA,hH]
 rw[if_pos (by lia)]
 rfl
theorem Vw{n:Nat}(hn:1<=n)(p:Pl):Tab n .fb [p.toD]=some (.tup (p.bt.map aI)):=by
 obtain⟨k,rfl,e⟩:=bI (c:=0) hn
 have d:=FK p
 rw[tab]
 cases p with
 | fin=>
  simp only[Pl.toD]at d
  dsimp! [yJ,Pl.toD,d,Pl.bt]
 | say a b cs=>
  simp only[Pl.toD]at d
  dsimp! [yJ,Pl.toD,d,Pl.bt,gW]
theorem FL{F:List D->Option D}{w:Str}{G I v:D}{q:Kd->D->Bool}:∀{cs:List Ch}(a b d:Option D),(∀c∈cs,F [c.2.1.toD,v]=some (.bl (q c.2.1 v)))->
  ∃ρ',fS (ij 3 (b9 (gN 4) (b9 (gN 5) (b9 (gN 6) (ig))))) (bf (dZ (cB (ab (a7 64) (aa 4) (aa 2))) (cB (au F (ag [aa 5,aa 3])))) (aY (aa 6)) (bD)) (cs.map aI) [some G,some I,some (.str w),some v,a,b,d]
   =some (match cs.find? (λc=>c.1==w&&q c.2.1 v)with | some c=>.ret (.int c.2.2) | none=>.aF ρ')
 | [],_,_,_,_=>⟨_,rfl⟩
 | c::cs,a,b,d,h=>by
  obtain⟨ρ',e⟩:=FL (cs:=cs) (G:=G) (I:=I) (w:=w) (some (.str c.1)) (some c.2.1.toD) (some (.int c.2.2)) λy f=>h y (bV _ f)
  have g:=h c bg
  refine⟨ρ',?_⟩;rw[a_]
  have i:ij 3 (b9 (gN 4) (b9 (gN 5) (b9 (gN 6) (ig)))) (aI c) [some G,some I,some (.str w),some v,a,b,d]=some [some G,some I,some (.str w),some v,some (.str c.1),some c.2.1.toD,some (.int c.2.2)]:=rfl
  cases j:(c.1==w)<;>cases m:q c.2.1 v<;>dsimp! [fS,i,eq_str,j,g,m,e,-beq_iff_eq,-beq_eq_false_iff_ne]
theorem FN{ps:List Pl}{i:Int}{p:Pl}(b:0<=i)(h:ps[i.toNat]?=some p):bA (ps.map Pl.toD) i=some p.toD:=by
 have a:i.toNat<ps.length:=(cA.mp h).1
 have:=pO (xs:=ps.map Pl.toD) (i:=i.toNat) (by rw[aJ];exact a)
 rw[oG b]at this;rw[this];rw[c6 a]at h;cases h
 simp
theorem FO{n:Nat}(hn:8<=n){m N i:Int}{ps:List Pl}{p:Pl}(s:0<=i)(f:ps[i.toNat]?=some p)(j:p.Kn N)(w:Str)(v:D)(t:cY v=true):Tab n .fL [aE m ps,.int i,.str w,v]=some (fW (eU p w v)):=by
 obtain⟨k,rfl,x⟩:=bI (c:=7) hn
 have d:=FN s f
 rw[tab]
 cases p with
 | fin=>
  simp only[Pl.toD]at d
  dsimp! [pM,aE,pP,eA,d,eq_str,h_ee,eU,fW]
 | say a b cs=>
  have h:∀c∈cs,Tab k .fB [c.2.1.toD,v]=some (.bl (fits c.2.1 v)):=λc r=>U8 c.2.1 (pR (j c r).2.1) (by have:=(j c r).2.2.1;lia) v t
  obtain⟨ρ',g⟩:=FL (F:=Tab k .fB) (w:=w) (v:=v) (G:=aE m ps) (I:=.int i) (q:=fits) (cs:=cs) none none none h;simp only[Pl.toD]at d
  have u:pM (Tab k) [some (aE m ps),some (.int i),some (.str w),some v,none,none,none]=some (.ret (fW (eU (.say a b cs) w v))):=by
   unfold pM
   rw[eT (ρ':=[some (aE m ps),some (.int i),some (.str w),some v,none,none,none]) (by
    rw[kF (by dsimp! [aE,pP,eA,d,eq_str,h_se])]
    rfl)]
   have f:bo (ab ak (ab ak (ab ak (aa 0) (cC (.int 1))) (aa 1)) (cC (.int 3))) [some (aE m ps),some (.int i),some (.str w),some v,none,none,none]=some (cs.map aI):=by
    dsimp! [bo,xS,aE,d,gW]
   cases e:cs.find? (λc=>c.1==w&&fits c.2.1 v)with
   | some c=>
    rw[e]at g;simp only[eU,e];refine Vs ?_;rw[y9 f];exact g
   | none=>
    rw[e]at g;simp only[eU,e];rw[eT (ρ':=ρ') (by rw[y9 f];exact g)]
    rfl
  simp only[body,cI,iW,bR,gL,if_true,a_,qt]
  show(pM (Tab k) [some (aE m ps),some (.int i),some (.str w),some v,none,none,none]).bind _=_
  rw[u]
  rfl
theorem Vx{n:Nat}(hn:1<=n)(G w v:D):Tab n .fL [G,.ay,w,v]=some .ay:=by
 obtain⟨k,rfl,a⟩:=bI (c:=0) hn;rw[tab]
 dsimp! [pM,pP,eA]
noncomputable abbrev Wv:=Str × D
noncomputable def bU(x:Wv):D:=.tup [.str x.1,x.2]
def fX(m:Int)(ps:List Pl):Prop:=2<=m/\m<=4/\1<=ps.length/\ps.length<=60/\∀p∈ps,p.OK m ps.length
def G2(m:Int)(ps:List Pl):Prop:=2<=m/\m<=4/\1<=ps.length/\ps.length<=130/\∀p∈ps,p.O2 m ps.length
theorem rQ{m:Int}{ps:List Pl}(h:fX m ps):G2 m ps:=⟨h.1,h.2.1,h.2.2.1,cj h.2.2.2.1 (by decide),λp a=>(h.2.2.2.2 p a).o2⟩
noncomputable def ax(ps:List Pl)(i:Int):Pl:=(ps[i.toNat]?).getD .fin
def iu(ps:List Pl):Option Int->List Wv->Option Int
 | o,[]=>o
 | none,_::_=>none
 | some i,x::r=>iu ps (eU (ax ps i) x.1 x.2) r
noncomputable def vd(ps:List Pl):Option Int->Prop
 | none=>True
 | some i=>0<=i/\i<ps.length
theorem FP{b:Type}{p:b->Bool}:∀{l:List b}{a:b},l.find? p=some a->a∈l
 | x::l,a,h=>by
  rw[om]at h
  split at h
  ·cases h;exact bg
  ·exact bV _ (FP h)
theorem i4{m:Int}{ps:List Pl}(h:G2 m ps)(i:Int):(ax ps i).O2 m ps.length:=by
 unfold ax
 cases e:ps[i.toNat]? with
 | none=>trivial
 | some p=>exact h.2.2.2.2 p (ee e)
theorem rR{ps:List Pl}{i:Int}(a:0<=i)(h:i<ps.length):ps[i.toNat]?=some (ax ps i):=by
 unfold ax;rw[c6 (by omega)]
 rfl
theorem ze{m:Int}{ps:List Pl}(h:G2 m ps)(i:Int)(w:Str)(v:D):vd ps (eU (ax ps i) w v):=by
 have d:=i4 h i
 cases e:ax ps i with
 | fin=>trivial
 | say a b cs=>
  rw[e]at d;simp only[eU]
  cases f:cs.find? (λc=>c.1==w&&fits c.2.1 v)with
  | none=>trivial
  | some c=>
   have:=d.2.2.2.2.2.2.2.1 c (FP f)
   exact⟨this.2.2.2.1,this.2.2.2.2⟩
theorem jx{m i:Int}{ps:List Pl}(a:0<=i)(h:i<ps.length):bA (ps.map Pl.toD) i=some (ax ps i).toD:=FN a (rR a h)
def lK(x:Wv):Prop:=cY x.2=true
theorem zf{k:Nat}(f:8<=k){m:Int}(g:G2 m ps):∀(b:List Wv)(o:Option Int)(d:Option D),vd ps o->(∀x∈b,lK x)->
  ∃a,fS (gN 3) (cc 2 (au (Tab k .fL) (ag [aa 0,aa 2,ab ak (aa 3) (cC (.int 0)),ab ak (aa 3) (cC (.int 1))]))) (b.map bU) [some (aE m ps),some W,some (fW o),d]=some (.aF [some (aE m ps),some W,some (fW (iu ps o b)),a])
 | [],o,d,_,_=>⟨d,by cases o<;>rfl⟩
 | x::r,none,d,_,hw=>by
  have h:=Vx (n:=k) (fu f) (aE m ps) (.str x.1) x.2
  obtain⟨a,c⟩:=zf f g (W:=W) r none (some (bU x)) trivial λy j=>hw y (bV _ j)
  refine⟨a,?_⟩
  have p:iu ps none r=none:=by cases r<;>rfl
  rw[p]at c;rw[a_];unfold bU fW at c ⊢
  show _=some (Out.aF [some (aE m ps),some W,some .ay,a])
  dsimp! [fS,gN,h,c]
 | x::r,some i,d,q,hw=>by
  have s:cY x.2=true:=hw x bg
  have h:=FO (n:=k) f (N:=ps.length) (m:=m) q.1 (rR q.1 q.2) (FJ (i4 g i)) x.1 x.2 s
  obtain⟨a,c⟩:=zf f g (W:=W) r (eU (ax ps i) x.1 x.2) (some (bU x)) (ze g i x.1 x.2) λy j=>hw y (bV _ j)
  refine⟨a,?_⟩;rw[a_]
  show _=some (Out.aF [some (aE m ps),some W,some (fW (iu ps (eU (ax ps i) x.1 x.2) r)),a])
  have e:fW (some i)=.int i:=rfl
  rw[e];unfold bU at c ⊢
  dsimp! [fS,gN,h,c]
theorem FR{n:Nat}(hn:9<=n){m:Int}(b:G2 m ps){a:List Wv}(hw:∀x∈a,lK x):Tab n .fM [aE m ps,.tup (a.map bU)]=some (fW (iu ps (some 0) a)):=by
 obtain⟨k,rfl,d⟩:=bI (c:=8) hn;rw[tab]
 have e:(0:Int)<ps.length:=by have:=b.2.2.1;lia
 obtain⟨i,f⟩:=zf d b (W:=.tup (a.map bU)) a (some 0) none ⟨by lia,e⟩ hw
 have g:uY (Tab k) [some (aE m ps),some (.tup (a.map bU)),none,none]=some (.ret (fW (iu ps (some 0) a))):=by
  unfold uY;rw[eT (ρ':=[some (aE m ps),some (.tup (a.map bU)),some (.int 0),none]) rfl]
  have h:bo (aa 1) [some (aE m ps),some (.tup (a.map bU)),some (.int 0),none]=some (a.map bU):=rfl
  rw[eT (by rw[y9 h];exact f)]
  rfl
 simp only[body,cI,iW,bR,gL,if_true,a_,qt]
 show(uY (Tab k) [some (aE m ps),some (.tup (a.map bU)),none,none]).bind _=_
 rw[g]
 rfl
noncomputable def ea(h:Int)(p:Pl)(x:Wv):List D:=match p with
 | .fin=>[]
 | .say a b _=>(if a=h then [.tup [.str "says",.int b,.str x.1,x.2]]else [])++(if b=h then [.tup [.str "hears",.int a,.str x.1,x.2]]else [])
def fY(ps:List Pl)(h:Int):Int->List Wv->List D
 | _,[]=>[]
 | i,x::r=>ea h (ax ps i) x++(match eU (ax ps i) x.1 x.2 with | some j=>fY ps h j r | none=>[])
def Goes(ps:List Pl):Int->List Wv->Prop
 | _,[]=>True
 | i,x::r=>(∃a b cs,ax ps i=.say a b cs)/\∃j,eU (ax ps i) x.1 x.2=some j/\Goes ps j r
theorem Vy(h:Int)(p:Pl)(x:Wv):(ea h p x).length<=2:=by
 cases p with
 | fin=>simp[ea]
 | say a b cs=>
  simp only[ea]
  split<;>split<;>simp
theorem FT{m h:Int}{ps:List Pl}(J:G2 m ps)(L:∀(i:Int)(x:Wv)(c:List D),0<=i->i<ps.length->lK x->au F (ag fa) (pv [some (.ai (aE m ps)),some (.ai (.int h)),some (.ai W),some (.own c),some (.ai (.int i)),some (.ai (.str x.1)),some (.ai x.2),some (.ai (ax ps i).toD)])=some (fW (eU (ax ps i) x.1 x.2))):
  ∀(e:List Wv)(i:Int)(c:List D)(u v f:Option SD),0<=i->i<ps.length->Goes ps i e->(∀x∈e,lK x)->c.length+2*e.length<=60000->
  ∃n p q s,c_ (iM 2 (dg (goN 5) (dg (goN 6) (iL)))) (aG (bp 7 (vH (ab ak (ab ak (aa 0) (cC (.int 1))) (aa 4))))
  (aG (cW (cB (ab (a7 64) (ab ak (aa 7) (cC (.int 1))) (aa 1))) (c9 3 (vH (aD (ag [cC (.str "says"),ab ak (aa 7) (cC (.int 2)),aa 5,aa 6])))) (c4))
  (aG (cW (cB (ab (a7 64) (ab ak (aa 7) (cC (.int 2))) (aa 1))) (c9 3 (vH (aD (ag [cC (.str "hears"),ab ak (aa 7) (cC (.int 1)),aa 5,aa 6])))) (c4))
  (bp 4 (vH (au F (ag fa))))))) (e.map bU) [some (.ai (aE m ps)),some (.ai (.int h)),some (.ai W),some (.own c),some (.ai (.int i)),u,v,f]
   =some (.aF [some (.ai (aE m ps)),some (.ai (.int h)),some (.ai W),some (.own (c++fY ps h i e)),n,p,q,s])
 | [],i,c,u,v,f,_,_,_,_,_=>⟨_,u,v,f,by simp[c_,fY];rfl⟩
 | x::r,i,c,u,v,f,M,N,O,hw,Q=>by
  obtain⟨⟨a,b,cs,T⟩,j,E,G⟩:=O
  have U:=hw x bg
  have Y:=jx (m:=m) M N
  have w:=ze J i x.1 x.2
  rw[E]at w
  have g:0<=j/\j<ps.length:=w
  have hl':c.length+2*(r.length+1)<=60000:=Q
  have hd:=Vy h (ax ps i) x
  have B:c.length<aB:=by show _<2 ^ 24;lia
  have C:c.length+1<aB:=by show _<2 ^ 24;lia
  refine dd (FT J (W:=W) L r j (c++ea h (ax ps i) x) (some (.ai (.str x.1))) (some (.ai x.2)) (some (.ai (ax ps i).toD)) g.1 g.2 G (λy hy=>hw y (bV _ hy)) (by rw[bQ];lia)) λn p q z=>gz z λs ih=>?_;clear z
  refine⟨n,p,q,s,?_⟩
  have e2:c++fY ps h i (x::r)=c++ea h (ax ps i) x++fY ps h j r:=by
   rw[j8]
   congr 1
   simp only[fY,E]
  rw[e2,a_]
  have H:iM 2 (dg (goN 5) (dg (goN 6) (iL))) (bU x) [some (.ai (aE m ps)),some (.ai (.int h)),some (.ai W),some (.own c),some (.ai (.int i)),u,v,f]=some [some (.ai (aE m ps)),some (.ai (.int h)),some (.ai W),some (.own c),some (.ai (.int i)),some (.ai (.str x.1)),some (.ai x.2),f]:=rfl
  have d:=λc=>L i x c M N U
  rw[E]at d
  have t:aG (bp 7 (vH (ab ak (ab ak (aa 0) (cC (.int 1))) (aa 4))))
    (aG (cW (cB (ab (a7 64) (ab ak (aa 7) (cC (.int 1))) (aa 1))) (c9 3 (vH (aD (ag [cC (.str "says"),ab ak (aa 7) (cC (.int 2)),aa 5,aa 6])))) (c4))
    (aG (cW (cB (ab (a7 64) (ab ak (aa 7) (cC (.int 2))) (aa 1))) (c9 3 (vH (aD (ag [cC (.str "hears"),ab ak (aa 7) (cC (.int 1)),aa 5,aa 6])))) (c4))
    (bp 4 (vH (au F (ag fa)))))) [some (.ai (aE m ps)),some (.ai (.int h)),some (.ai W),some (.own c),some (.ai (.int i)),some (.ai (.str x.1)),some (.ai x.2),f]
     =some (.aF [some (.ai (aE m ps)),some (.ai (.int h)),some (.ai W),some (.own (c++ea h (ax ps i) x)),some (.ai (.int j)),some (.ai (.str x.1)),some (.ai x.2),some (.ai (ax ps i).toD)]):=by
   rw[vc (ρ':=[some (.ai (aE m ps)),some (.ai (.int h)),some (.ai W),some (.own c),some (.ai (.int i)),some (.ai (.str x.1)),some (.ai x.2),some (.ai (ax ps i).toD)]) (by
    have:vH (ab ak (ab ak (aa 0) (cC (.int 1))) (aa 4)) [some (.ai (aE m ps)),some (.ai (.int h)),some (.ai W),some (.own c),some (.ai (.int i)),some (.ai (.str x.1)),some (.ai x.2),f]=some (ax ps i).toD:=by
     dsimp! [vH,DL.pv,DL.jL,aE,Y]
    simp[bp,this])]
   rw[T]at d ⊢
   by_cases I:a=h
   ·subst I
    by_cases A:b=a
    ·subst A
     dsimp! [aG,cW,c9,c4,bp,fz,pj,vH,DL.pv,DL.jL,el,Pl.toD,eq_int,B,C,ea,d,fW]
     simp[vH,DL.pv,DL.jL,Pl.toD,fW]at d
     simp only[au]at d;rw[d]
     rfl
    ·dsimp! [aG,cW,c9,c4,bp,fz,pj,vH,DL.pv,DL.jL,el,Pl.toD,eq_int,B,C,A,ea,d,fW]
     simp[vH,DL.pv,DL.jL,Pl.toD,fW]at d
     simp only[au]at d;rw[d]
     rfl
   ·by_cases A:b=h
    ·subst A
     dsimp! [aG,cW,c9,c4,bp,fz,pj,vH,DL.pv,DL.jL,el,Pl.toD,eq_int,B,C,I,ea,d,fW]
     simp[vH,DL.pv,DL.jL,Pl.toD,fW]at d
     simp only[au]at d;rw[d]
     rfl
    ·dsimp! [aG,cW,c9,c4,bp,fz,pj,vH,DL.pv,DL.jL,el,Pl.toD,eq_int,B,C,I,A,ea,d,fW]
     simp[vH,DL.pv,DL.jL,Pl.toD,fW]at d
     simp only[au]at d;rw[d]
     rfl
  simp only[c_,H,bj,t];exact ih
theorem FU{n:Nat}(hn:9<=n){m h:Int}(b:G2 m ps){a:List Wv}(j:Goes ps 0 a)(hw:∀x∈a,lK x)(e:a.length<=17000):Tab n .fN [aE m ps,.int h,.tup (a.map bU)]=some (.tup (fY ps h 0 a)):=by
 obtain⟨k,rfl,p⟩:=bI (c:=8) hn;rw[tab]
 have d:(0:Int)<ps.length:=by have:=b.2.2.1;lia
 obtain⟨t,u,v,w,f⟩:=FT (F:=Tab k .fL) (fa:=[aa 0,aa 4,aa 5,aa 6]) (m:=m) (h:=h) b (W:=.tup (a.map bU)) (λi x q g d r=>by
  have e:=FO (n:=k) p (N:=ps.length) (m:=m) g (rR g d) (FJ (i4 b i)) x.1 x.2 r
  dsimp! [DL.pv,DL.jL,e]) a 0 [] none none none (by lia) d j hw (by simp;lia)
 rw[List.nil_append]at f
 have s:uZ (Tab k) [some (.ai (aE m ps)),some (.ai (.int h)),some (.ai (.tup (a.map bU))),none,none,none,none,none]=some (.ret (.tup (fY ps h 0 a))):=by
  unfold uZ;rw[vc (ρ':=[some (.ai (aE m ps)),some (.ai (.int h)),some (.ai (.tup (a.map bU))),some (.own []),none,none,none,none]) (by simp[cX,lH,Dk])];rw[vc (ρ':=[some (.ai (aE m ps)),some (.ai (.int h)),some (.ai (.tup (a.map bU))),some (.own []),some (.ai (.int 0)),none,none,none]) (by simp[bp,vH,cC])]
  rw[vc (by
   unfold eG
   have:bo (aa 2) (pv [some (.ai (aE m ps)),some (.ai (.int h)),some (.ai (.tup (a.map bU))),some (.own []),some (.ai (.int 0)),none,none,none])=some (a.map bU):=rfl
   rw[this,bj]
   exact f)]
  dsimp! [dW,fz,pj,ic,tR]
 simp only[body,eH,kz,bR,gL,if_true,a_,qt]
 show(uZ (Tab k) [some (.ai (aE m ps)),some (.ai (.int h)),some (.ai (.tup (a.map bU))),none,none,none,none,none]).bind _=_
 rw[s]
 rfl
theorem ve:∀{K:Kd}{v:D},fits K v=true->bZ v=true/\dm v<=K.dp+1
 | .none,v,h=>by cases v<;>first | exact⟨rfl,by simp[dm]⟩ | cases h
 | .num lo n,v,h=>by cases v<;>first | exact⟨rfl,by simp[dm]⟩ | cases h
 | .name ns,v,h=>by cases v<;>first | exact⟨rfl,by simp[dm]⟩ | cases h
 | .pair a b,v,h=>by
  cases v with
  | tup xs=>
   match xs,h with
   | [x,y],h=>
    simp only[fits,bB]at h
    have d:=ve h.1
    have c:=ve h.2
    refine⟨by simp[bZ,eM,d.1,c.1],?_⟩;simp only[dm,d4,Kd.dp]
    lia
   | [],h=>cases h
   | [x],h=>cases h
   | x::y::z::r,h=>cases h
  | _=>cases h
 | .row a m,v,h=>by
  cases v with
  | tup xs=>
   simp only[fits,bB]at h
   have c:=h.2
   rw[y0,ja]at c
   have e:∀l:List D,(∀x∈l,fits a x=true)->eM l=true/\d4 l<=a.dp+1:=by
    intro l
    induction l with
    | nil=>intro _;exact⟨rfl,by simp[d4]⟩
    | cons x l g=>
     intro f
     have d:=ve (f x bg)
     have i:=g λy j=>f y (bV _ j)
     refine⟨by simp[eM,d.1,i.1],?_⟩;simp only[d4]
     lia
   have:=e xs c
   refine⟨by simpa [bZ]using this.1,?_⟩;simp only[dm,Kd.dp]
   lia
  | _=>cases h
noncomputable abbrev Sd:=Str × Kd
noncomputable def bE(x:Sd):D:=.tup [.str x.1,x.2.toD]
def lL(x:Sd):Prop:=gU (.str x.1)=true/\x.2.WF/\x.2.dp<=2
theorem rS{n:Nat}(hn:7<=n)(c j:Int)(b:0<=j/\j<=1000000):∃K:Kd,Tab n .fr [.int c,.int j]=some (bE (dk c j,K))/\lL (dk c j,K):=by
 obtain⟨k,rfl,d⟩:=bI (c:=6) hn
 refine aP (Vp 2 (n:=k) (c*11+j) (by omega)) λK e f g=>?_
 have a:Tab k .fq [.int (c*11+j),.int 2]=some K.toD:=e
 have hw:=Fu (n:=k) (fu d) c j b
 refine⟨K,?_,Fp c j,f,by omega⟩;rw[tab]
 dsimp! [E6,hw,mz (rN (i:=c) (j:=11) (by decide) (by decide)),a,bE]
theorem FV:∀ws:List Sd,nF (ws.map bE)=some (ws.map (·.1))
 | []=>rfl
 | x::ws=>by simp[nF,FV ws,bE,Ec]
theorem vf{c:Type}{n:Nat}(h:∀i j,i<n->j<n->i≠j->lt i j=lt' i j):∀(t:oE c),lD n t=true->iO lt t=iO lt' t
 | .ret a,_=>rfl
 | .ask i j k,b=>by
  simp only[lD,bB,decide_eq_true_eq]at b;obtain⟨⟨⟨⟨d,e⟩,f⟩,g⟩,m⟩:=b;simp only[iO,h i j d e f];cases lt' i j
  ·exact vf h _ m
  ·exact vf h _ g
noncomputable def vg(a b c:Bool):Nat->Nat->Bool
 | 0,1=>a
 | 1,0=>!a
 | 0,2=>b
 | 2,0=>!b
 | 1,2=>c
 | 2,1=>!c
 | _,_=>false
theorem Vz:∀a:Bool,(iO (vg a false false) (jd 2)).toList=bif a then [0,1]else [1,0]:=by decide+kernel
theorem VA:∀a b c:Bool,(a&&c&&!b)=false->(!a&&!c&&b)=false->(iO (vg a b c) (jd 3)).toList=bif a then bif b then bif c then [0,1,2]else [0,2,1]else [2,0,1]else bif b then [1,0,2]else bif c then [1,2,0]else [2,1,0]:=by decide+kernel
theorem nS(h:x≠y):bc y x=!bc x y:=by
 grind[ph,xM,absurd]
theorem zg{ws:List Sd}(w:ws.length<=3)(hn:(ws.map (·.1)).Nodup):∃f:List Sd,ju [.lst (ws.map bE)]=some (.lst (f.map bE))/\f.length=ws.length/\(∀x∈f,x∈ws)/\d3 (f.map (·.1))=true:=by
 have e0:ju [.lst (ws.map bE)]=some (.lst (eP .ay (gC (ws.map (·.1))) (ws.map bE))):=by
  show(nF (ws.map bE)).bind (λks=>if(ws.map bE).length<=3/\ks.Nodup then some (D.lst (eP .ay (gC ks) (ws.map bE)))else none)=_
  rw[FV,bj,if_pos ⟨by rw[aJ];exact w,hn⟩]
 rcases ws with _ | ⟨x,_ | ⟨y,_ | ⟨z,_ | ⟨u,r⟩⟩⟩⟩
 ·exact⟨[],e0,rfl,λx m=>m,rfl⟩
 ·exact⟨[x],e0,rfl,λx m=>m,rfl⟩
 ·have e:x.1≠y.1:=by simpa using hn
  have d:ju [.lst [bE x,bE y]]=some (.lst ((iO (gC [x.1,y.1]) (jd 2)).toList.map λi=>[bE x,bE y].getD i .ay)):=e0
  rw[vf (n:=2) (lt':=vg (bc x.1 y.1) false false) (λi j A B p=>by
   rcases(show i=0/\j=1\/i=1/\j=0 by lia)with⟨rfl,rfl⟩ | ⟨rfl,rfl⟩
   ·rfl
   ·exact nS e) _ D_,Vz]at d
  have g:=nS e
  cases a:bc x.1 y.1<;>rw[a]at d g
  ·exact⟨[y,x],d,rfl,by simp,by simp[d3,g]⟩
  ·exact⟨[x,y],d,rfl,by simp,by simp[d3,a]⟩
 ·simp at hn
  obtain⟨⟨e,q⟩,h⟩:=hn
  have s:(bc x.1 y.1&&bc y.1 z.1&&!bc x.1 z.1)=false:=by
   cases a:bc x.1 y.1<;>cases b:bc y.1 z.1<;>first | rfl | grind[ml]
  have t:(!bc x.1 y.1&&!bc y.1 z.1&&bc x.1 z.1)=false:=by
   rw[<-nS e,<-nS h]
   cases a:bc y.1 x.1<;>cases b:bc z.1 y.1<;>first | rfl | grind[xM,ml]
  have g:=nS e
  have o2:=nS q
  have v:=nS h
  have d:ju [.lst [bE x,bE y,bE z]]=some (.lst ((iO (gC [x.1,y.1,z.1]) (jd 3)).toList.map λi=>[bE x,bE y,bE z].getD i .ay)):=e0
  rw[vf (n:=3) (lt':=vg (bc x.1 y.1) (bc x.1 z.1) (bc y.1 z.1)) (λi j A B p=>by
   rcases(show i=0/\(j=1\/j=2)\/i=1/\(j=0\/j=2)\/i=2/\(j=0\/j=1) by lia)with⟨rfl,rfl | rfl⟩ | ⟨rfl,rfl | rfl⟩ | ⟨rfl,rfl | rfl⟩<;>first | rfl | assumption) _ Ea,VA _ _ _ s t]at d
  cases a:bc x.1 y.1<;>cases b:bc x.1 z.1<;>cases c:bc y.1 z.1<;>rw[a,b,c]at d s t<;>rw[a]at g<;>rw[b]at o2<;>rw[c]at v
  ·exact⟨[z,y,x],d,rfl,by simp[or_comm,or_assoc],by simp[d3,g,v]⟩
  ·exact⟨[y,z,x],d,rfl,by simp[or_comm,or_left_comm],by simp[d3,c,o2]⟩
  ·cases t
  ·exact⟨[y,x,z],d,rfl,by simp[or_left_comm],by simp[d3,g,b]⟩
  ·exact⟨[z,x,y],d,rfl,by simp[or_comm,or_left_comm],by simp[d3,o2,a]⟩
  ·cases s
  ·exact⟨[x,z,y],d,rfl,by simp[or_comm,or_left_comm],by simp[d3,b,v]⟩
  ·exact⟨[x,y,z],d,rfl,by simp,by simp[d3,a,c]⟩
 ·simp at w
theorem FW{k:Nat}(b:7<=k){c:Int}:∀(m:Nat)(a:Nat)(o:Option D),a+m<=3->∃ws:List Sd,b6 (gN 0) (λ_=>some true) (au (Tab k .fr) (ag [aa 1,aa 0])) [o,some (.int c)] ((qC a m).map λ(i:Nat)=>D.int (i:Int))=some (ws.map bE)/\ws.map (·.1)=(qC a m).map (λ(i:Nat)=>dk c (i:Int))/\∀x∈ws,lL x
 | 0,a,o,_=>⟨[],rfl,rfl,λx d=>by cases d⟩
 | m+1,a,o,h=>by
  obtain⟨K,e,g⟩:=rS (n:=k) b c (a:Int) ⟨by lia,by lia⟩
  refine aP (FW b (c:=c) m (a+1) (some (.int (a:Int))) (by lia)) λws f j p=>?_
  refine⟨(dk c (a:Int),K)::ws,?_,?_,λx d=>?_⟩
  ·rw[A0,a_,a_]
   simp! only[b6,gN,qB,bj,if_true,oH,oD,e,f,wg]
  ·simp_all[A0,a_]
  grind
theorem VB{c:Int}{m:Nat}(h:m<=3):((qC 0 m).map (λ(i:Nat)=>dk c (i:Int))).Nodup:=by
 have:=Fw (c:=c) h
 simp_all[drawn,A1]
section
variable {i n:Nat}{g:D->D->Option D}{fa fb fc:ae->Option D}{fs:List (ae->Option D)}{gs:ae->Option (List D)}{F:List D->Option D}{ρ:ae}{r r':ar}{x y z:D}{ds es:List D}{b c:Bool}{t u:ae->Option Bool}{p q:ar->Option aL}{o:aL}{fo fi:ar->Option D}{lo:ar->Option (List D)}{sp sq:ae->Option Out}{so:Out}{ρ':ae}
theorem aq(a:fa ρ=some x)(d:fb ρ=some y)(e:g x y=some z):ab g fa fb ρ=some z:=by simp[ab,a,d,e]
theorem ba(h:gs ρ=some ds):aD gs ρ=some (.tup ds):=by simp[aD,h]
theorem lM(h:gs ρ=some ds):ei gs ρ=some (.lst ds):=by simp[ei,h]
theorem aj(h:fa ρ=some x)(a:ag fs ρ=some ds):ag (fa::fs) ρ=some (x::ds):=by rw[rm,h,a];rfl
theorem aS(h:gs ρ=some ds)(a:F ds=some z):au F gs ρ=some z:=by simp[au,h,a]
theorem aN(h:fa ρ=some (.bl b)):cB fa ρ=some b:=by simp[cB,h]
theorem mE(h:t ρ=some b):gg t ρ=some (!b):=by simp[gg,h]
theorem vh(h:t ρ=some true)(a:u ρ=some b):dZ t u ρ=some b:=by simp[dZ,h,a]
theorem zh(h:t ρ=some false):dZ t u ρ=some false:=by simp[dZ,h]
theorem rT(h:t ρ=some false)(a:u ρ=some b):hY t u ρ=some b:=by simp[hY,h,a]
theorem VC(h:t ρ=some true):hY t u ρ=some true:=by simp[hY,h]
theorem nT(h:t ρ=some b)(a:u ρ=some c):dZ t u ρ=some (b&&c):=by cases b<;>simp[dZ,h,a]
theorem nU(h:fa ρ=some x)(a:rA x=some b):kA fa ρ=some b:=by simp[kA,h,a]
theorem cT(h:fa (pv r)=some x):vH fa r=some x:=h
theorem nV(h:fa (fz r)=some x)(a:cQ x=true):vZ fa r=some x:=by simp[vZ,h,a]
theorem nX(h:gs (pv r)=some ds):lH gs r=some ds:=h
theorem pW(h:gs (fz r)=some ds)(a:cF ds=true):lZ gs r=some ds:=by simp[lZ,h,a]
theorem VD(h:fo r=some x):bp i fo r=some (.aF (r.set i (some (.ai x)))):=by simp[bp,h]
theorem VE(h:lo r=some ds):cX i lo r=some (.aF (r.set i (some (.own ds)))):=by simp[cX,h]
theorem VF(a:el i r=some ds)(d:fo r=some x)(e:ds.length<aB):c9 i fo r=some (.aF (r.set i (some (.own (ds++[x]))))):=by simp[c9,a,d,e]
theorem VG(h:fa (fz r)=some x):dW fa r=some (.ret x):=by simp[dW,h]
theorem dM(h:sp ρ=some (.aF ρ'))(a:sq ρ'=some so):aQ sp sq ρ=some so:=by simp[aQ,h,a]
theorem lN(h:fa ρ=some x):cc i fa ρ=some (.aF (ρ.set i (some x))):=by simp[cc,h]
theorem FX(h:t ρ=some true)(a:sp ρ=some so):bf t sp sq ρ=some so:=by simp[bf,h,a]
theorem gX(h:t ρ=some false)(a:sq ρ=some so):bf t sp sq ρ=some so:=by simp[bf,h,a]
theorem VH(h:fa ρ=some x):aY fa ρ=some (.ret x):=by simp[aY,h]
end
def Ev{b:Type}(x:Option b)(Q:b->Prop):Prop:=∃a,x=some a/\Q a
section
variable {i n:Nat}{fa:ae->Option D}{t:ae->Option Bool}{p q:ar->Option aL}{r r':ar}{x:D}{ds:List D}{b:Bool}{Q:aL->Prop}{fo fi:ar->Option D}{lo:ar->Option (List D)}{gi:ae->Option (List D)}{gt:D->ar->Option ar}{gb:ar->Option aL}
noncomputable def kS(q:ar->Option aL)(Q:aL->Prop):aL->Prop
 | .aF r=>Ev (q r) Q
 | o=>Q o
theorem aZ(h:Ev (p r) (kS q Q)):Ev (aG p q r) Q:=by
 obtain⟨o,h,k⟩:=h
 cases o<;>simp only[Ev,aG,h,bj]<;>first | exact k | exact⟨_,rfl,k⟩
theorem aU(h:Ev (q r) Q):kS q Q (.aF r):=h
theorem rV(h:Q (.ret x)):kS q Q (.ret x):=h
theorem dn(h:fo r=some x)(k:Q (.aF (r.set i (some (.ai x))))):Ev (bp i fo r) Q:=⟨_,VD h,k⟩
theorem gY(h:lo r=some ds)(k:Q (.aF (r.set i (some (.own ds))))):Ev (cX i lo r) Q:=⟨_,VE h,k⟩
theorem kG(a:el i r=some ds)(c:fo r=some x)(d:ds.length<aB)(k:Q (.aF (r.set i (some (.own (ds++[x])))))):Ev (c9 i fo r) Q:=⟨_,VF a c d,k⟩
theorem jy(h:fa (fz r)=some x)(k:Q (.ret x)):Ev (dW fa r) Q:=⟨_,VG h,k⟩
theorem d5(k:Q (.aF r)):Ev (c4 r) Q:=⟨_,rfl,k⟩
theorem da(h:t (fz r)=some b)(k:Ev (bif b then p r else q r) Q):Ev (cW t p q r) Q:=by
 cases b<;>simpa [Ev,cW,h]using k
theorem eW(h:b=true)(k:Ev (p r) Q):Ev (bif b then p r else q r) Q:=by subst h;exact k
theorem dX(h:b=false)(k:Ev (q r) Q):Ev (bif b then p r else q r) Q:=by subst h;exact k
noncomputable def kL(I:ar->Prop)(Q:aL->Prop):aL->Prop
 | .aF r=>I r
 | .cnt r=>I r
 | .brk r=>Q (.aF r)
 | .ret d=>Q (.ret d)
theorem eX(h:I r):kL I Q (.aF r):=h
theorem zi(h:Q (.ret x)):kL I Q (.ret x):=h
theorem zj(k:Q (.aF r)):Ev (c_ gt gb [] r) Q:=⟨_,rfl,k⟩
theorem FY(h:gt x r=some r')(k:Ev (gb r') (kL (λr=>Ev (c_ gt gb ds r) Q) Q)):Ev (c_ gt gb (x::ds) r) Q:=by
 obtain⟨o,a,k⟩:=k
 cases o<;>simp only[Ev,c_,h,a,bj]<;>first | exact k | exact⟨_,rfl,k⟩
theorem zk(I:Nat->ar->Prop):∀(ds:List D)(a:Nat)(r:ar),I a r->(∀i d r,ds[i]?=some d->I (a+i) r->∃g,gt d r=some g/\Ev (gb g) (kL (I (a+i+1)) Q))->(∀r,I (a+ds.length) r->Q (.aF r))->Ev (c_ gt gb ds r) Q
 | [],_,_,h,_,f=>zj (f _ h)
 | d::ds,a,r,h,s,f=>by
  refine b5 (s 0 d r rfl h) λg e c=>b5 c λo j k=>?_;clear c
  refine FY e ⟨o,j,?_⟩
  have:=λr (h:I (a+1) r)=>zk I ds (a+1) r h (λi d r e h=>by have:=s (i+1) d r e (by rwa [A2,sI]at h);rwa [<-sI,A2 a i 1]at this) (λr h=>f r (by rwa [A2]at h))
  cases o<;>first | exact this _ k | exact k
theorem kH(I:ar->Nat->ar->Prop)(h:I r 0 r)(s:∀i d a,ds[i]?=some d->I r i a->∃c,gt d a=some c/\Ev (gb c) (kL (I r (i+1)) Q))(f:∀a,I r ds.length a->Q (.aF a)):Ev (c_ gt gb ds r) Q:=
 zk (I r) ds 0 r h (λi d a e k=>by rw[k1]at k ⊢;exact s i d a e k) (λa k=>f a (by rwa [k1]at k))
theorem lO(h:gi (pv r)=some ds)(k:Ev (c_ gt gb ds r) Q):Ev (eG gi gt gb r) Q:=by simpa [Ev,eG,h]using k
theorem Ev.imp{c:Type}{x:Option c}{P R:c->Prop}(h:Ev x P)(k:∀a,P a->R a):Ev x R:=by obtain⟨a,e,p⟩:=h;exact⟨a,e,k a p⟩
theorem Ev.eq{a:Type}{x:Option a}{v:a}(h:Ev x (· =v)):x=some v:=by obtain⟨_,e,k⟩:=h;exact k▸e
theorem zl(h:Ev (gb (kB i r)) Q):Ev (uv i gb r) Q:=h
theorem zm(h:fo r=some x)(a:g x r=some r')(k:Q (.aF r')):Ev (rq fo g r) Q:=⟨_,by simp[rq,h,a],k⟩
theorem VI(h:Ev (fo r) λx=>Q (.aF (r.set i (some (.ai x))))):Ev (bp i fo r) Q:=by obtain⟨_,e,k⟩:=h;exact dn e k
theorem VJ(h:Ev (lo r) λds=>Q (.aF (r.set i (some (.own ds))))):Ev (cX i lo r) Q:=by obtain⟨_,e,k⟩:=h;exact gY e k
theorem VL(a:el i r=some ds)(c:ds.length<aB)(h:Ev (fo r) λx=>Q (.aF (r.set i (some (.own (ds++[x])))))):Ev (c9 i fo r) Q:=by obtain⟨_,e,k⟩:=h;exact kG a e c k
theorem VM(h:Ev (fa (pv r)) P):Ev (vH fa r) P:=h
theorem VN(h:Ev (fa (fz r)) λx=>cQ x=true/\P x):Ev (vZ fa r) P:=by obtain⟨_,e,n,k⟩:=h;exact⟨_,nV e n,k⟩
theorem VO(h:Ev (a (fz r)) λx=>cF x=true/\P x):Ev (lZ a r) P:=by obtain⟨_,e,n,k⟩:=h;exact⟨_,pW e n,k⟩
theorem VP(g:fa f=some (.lst ds))(h:Ev (j f) λd=>∃ys,d=.lst ys/\ds.length+ys.length<=1000/\P (ds++ys)):Ev (lC fa j f) P:=by
 refine b5 h λ_ e a=>aP a λys c l k=>?_;clear h a;subst c
 refine⟨_,?_,k⟩;simp only[lC,g,e,bj,ug];rw[if_pos (f9 (small l))]
theorem zo(h:a c=some ds)(k:Ev (F ds) P):Ev (au F a c) P:=by obtain⟨_,e,k⟩:=k;exact⟨_,aS h e,k⟩
theorem zp{j:Int}{m:Nat}(a:fo r=some x)(c:fi r=some (.int j))(d:el i r=some ds)(e:hH ds.length j=some m)(k:Q (.aF (r.set i (some (.own (ds.set m x)))))):Ev (rn i fi fo r) Q:=⟨_,by simp[rn,a,c,d,e],k⟩
noncomputable def kR(P:D->Prop):aL->Prop
 | .ret d=>P d
 | .aF _=>P .ay
 | _=>False
theorem i5(h:P x):kR P (.ret x):=h
theorem i6{np:Nat}(h:Ev (gb (kz n ds)) (kR P))(a:ds.length=np:=by rfl):Ev (eH np n gb ds) P:=by
 obtain⟨o,h,k⟩:=h;unfold eH;rw[if_pos a,h]
 cases o<;>first | exact⟨_,rfl,k⟩ | exact k.elim
end
theorem rW{j:Int}(h:fa a=some (.int j))(b: -1000000<=j)(c:j<=1000000):dD (ag [fa]) a=some (b7 0 j.toNat):=by
 unfold dD;rw[aj h rfl,u3 b c]
theorem VQ{i j:Int}(h:fa a=some (.int i))(h':b a=some (.int j))(c: -1000000<=i)(d:i<=1000000)(e: -1000000<=j)(f:j<=1000000):dD (ag [fa,b]) a=some (b7 i (j-i).toNat):=by
 unfold dD;rw[aj h (aj h' rfl),U4 c d e f]
theorem pX{ds:List D}(b:fi a=some ds)(c:ds.length<aB)(d:b6 e f g (mf cap a) ds=some out):ek cap fi e f g a=some out:=by
 unfold ek;rw[b,bj,if_pos c,d]
theorem kJ(e:a d f=some ρ')(g:b ρ'=some true)(h:c ρ'=some y)(i:b6 a b c ρ' ds=some out):b6 a b c f (d::ds)=some (y::out):=by simp[b6,e,g,h,i]
theorem FZ(lo:Int)(k:Nat):b7 lo (k+1)=.int lo::b7 (lo+1) k:=by
 unfold b7;rw[YT,a_,fQ,show lo+((0:Nat):Int)=lo by lia]
 congr 1
 apply sR
 intro i _
 show D.int (lo+((i+1:Nat):Int))=.int (lo+1+(i:Int))
 congr 1
 lia
section
variable {gt:D->ae->Option ae}{fc:ae->Option Bool}{fe:ae->Option D}{ρ:ae}{out:List D}{lo:Int}{n k:Nat}{go:D->ar->Option ar}{gb:ar->Option aL}{r:ar}{Q:aL->Prop}
theorem VR(h:n=k+1)(a:b6 gt fc fe ρ (.int lo::b7 (lo+1) k)=some out):b6 gt fc fe ρ (b7 lo n)=some out:=by rw[h,FZ];exact a
theorem VS(h:n=0)(k:Q (.aF r)):Ev (c_ go gb (b7 lo n) r) Q:=by subst h;exact zj k
theorem VT(h:n=k+1)(a:Ev (c_ go gb (.int lo::b7 (lo+1) k) r) Q):Ev (c_ go gb (b7 lo n) r) Q:=by rw[h,FZ];exact a
end
theorem vi{xs ys:List D}(h:xs.length+ys.length<=1000):aM (.lst xs) (.lst ys)=some (.lst (xs++ys)):=Vq (Nat.ble_eq_true_of_le h)
theorem rX(n:Nat):b7 0 n=(dY n).map λ(i:Nat)=>D.int (i:Int):=sR λi _=>by rw[Z6]
theorem F0{xs ys:List D}(h:xs.length+ys.length<=1000):il (.lst xs) (.lst ys)=some (.lst (xs++ys)):=vi h
theorem gG(h:fa a=some x)(b:xS x=some ds):bo fa a=some ds:=by simp[bo,h,b]
theorem uD:∀(xs ys:List D)(i:Nat)(d:D),(mw xs ys)[i]?=some d->∃x y,xs[i]?=some x/\ys[i]?=some y/\d=.tup [x,y]
 | x::xs,y::ys,0,d,h=>by cases h;exact⟨x,y,rfl,rfl,rfl⟩
 | x::xs,y::ys,i+1,d,h=>uD xs ys i d h
 | [],_,_,_,h=>by simp[mw]at h
 | _::_,[],_,_,h=>by simp[mw]at h
theorem pA:∀(xs ys:List D),(mw xs ys).length=min xs.length ys.length
 | x::xs,y::ys=>by simp[mw,pA xs ys]
 | [],_=>by simp[mw]
 | _::_,[]=>by simp[mw]
theorem iw{i:Int}(h:fa a=some (.int i)):c8 fa a=some (some i):=by simp[c8,h]
theorem mF(h:fa a=some x)(b:fl a=some l)(c:d a=some u)(e:nq x l u=some z):eO fa fl d a=some z:=by simp[eO,h,b,c,e]
theorem nY(h:fa a=some x)(b:fl a=some l)(c:d a=some u)(e:mn x l u=some z):iX fa fl d a=some z:=by simp[iX,h,b,c,e]
section
variable {fa fb fc:ae->Option D}{ρ:ae}{x y:D}{i:Nat}{z:D}{j:Key}{ks:List Key}{ds:List D}{r:ar}{fo fi:ar->Option D}{p:ar->Option aL}{u:ar->Option pz}{Q:aL->Prop}{X:pz->Prop}{f:ae->Option DX}{b:Bool}{t:ae->Option Bool}{q:ar->Option aL}
theorem F8(h:fa (dz r)=some x)(a:eR x=true):vD fa r=some x:=by simp[vD,h,a]
theorem pY(a:m8 z=some j)(h:atK ks ds j=some x):iP (.aH ks ds) z=some x:=by simp[iP,a,h]
theorem vj(a:fo r=some x)(c:fi r=some z)(d:m8 z=some j)(e:pE i r=some (ks,ds))(g:ks.length<=1000)(k:Q (.aF (r.set i (some (.ow (some (fT ks j)) (DL.gk ks ds j x)))))):Ev (nI i fi fo r) Q:=⟨_,by
 unfold nI;rw[a,bj,c,bj,e,bj,d,bj]
 exact if_pos (small g),k⟩
theorem F9(h:t (dz r)=some b):yt t r=some b:=h
theorem F_(h:a r=some b)(k:Ev (bif b then p r else q r) Q):Ev (uE a p q r) Q:=by
 cases b<;>simpa [Ev,uE,h]using k
theorem nZ(I:Nat->ar->Prop)(a:∀r,¬I 0 r)(c:∀n r,I (n+1) r->(t (fz r)=some false/\Q (.aF r))\/(t (fz r)=some true/\Ev (p r) (kL (I n) Q))):∀(n:Nat)(r:ar),I n r->Ev (eQ t p n r) Q
 | 0,r,h=>(a r h).elim
 | n+1,r,h=>by
  rcases c n r h with⟨e,k⟩ | ⟨e,o,d,k⟩
  ·exact⟨_,by simp[eQ,e],k⟩
  ·cases o<;>simp only[Ev,eQ,e,d,bj,if_true]<;>first | exact nZ I a c n _ k | exact⟨_,rfl,k⟩
theorem zq{n:Nat}(h:el i r=some (xs++[x]))(k:Q (.aF ((r.set i (some (.own xs))).set n (some (.ai x))))):Ev (rG i n r) Q:=⟨_,by simp[rG,h],k⟩
theorem Ga{u v:Int}(h:uz i r=some (.int u))(a:fo r=some (.int v))(k:Q (.aF (r.set i (some (.ai (.int (u+v))))))):Ev (uA i fo r) Q:=⟨_,by simp[uA,h,a],k⟩
theorem Gb(h:fo r=some x)(k:Q (.ret x)):Ev (uF fo r) Q:=⟨_,by simp[uF,h],k⟩
end
theorem i7{i:Int}(h:bA xs i=some x):ak (.lst xs) (.int i)=some x:=h
theorem aT{i:Int}(h:bA xs i=some x):ak (.tup xs) (.int i)=some x:=h
theorem Gd{i j:Int}(a:0<=i)(b:i<=1000)(c:0<=j)(d:j<=1000):nE (.int i) (.int j)=some (.int (i*j)):=Vr (FH a (by lia)) (FH c (by lia)) (by decide)
theorem kK(x:Sd)(i:Int):aM (bE x) (.tup [.int i])=some (aI (x.1,x.2,i)):=by
 unfold bE;rw[vb (AY _ _) (by simp)]
 rfl
theorem pZ:∀K:Kd,cQ K.toD=true
 | .none=>rfl
 | .num _ _=>rfl
 | .name ns=>by
  have:∀l:List Str,cF (l.map D.str)=true:=λl=>by induction l with
   | nil=>rfl
   | cons x l c=>simp[cF,cQ,c]
  simp[Kd.toD,cQ,cF,this]
 | .pair a b=>by simp[Kd.toD,cQ,cF,pZ a,pZ b]
 | .row a m=>by simp[Kd.toD,cQ,cF,pZ a]
theorem zr(c:Ch):cQ (aI c)=true:=by simp[aI,cQ,cF,pZ]
theorem lP{b:Type}{f:b->D}(h:∀a,cQ (f a)=true):∀l:List b,cF (l.map f)=true
 | []=>rfl
 | a::l=>by simp[cF,h a,lP h l]
theorem Ge(p:Pl):cQ p.toD=true:=by
 cases p with
 | fin=>rfl
 | say a b cs=>simp[Pl.toD,cQ,cF,lP zr]
theorem VU{a b:Int}:cQ (.tup [.str w,.int a,.int b,.tup [aI c]])=true:=by simp[cQ,cF,zr]
end PM
set_option bootstrap.genMatcherCode true in
local macro_rules
 | `(tactic| ac_nf) => `(tactic| repeat' first | (with_reducible (show _ = _); first | assumption | apply PM.aq | apply PM.aj | apply PM.cT | apply PM.ba | apply PM.aS | apply PM.aN | apply PM.nT | apply PM.nU | apply PM.lM | apply PM.mE | apply PM.nV | apply PM.F8 | apply PM.pY | apply PM.F9 | apply PM.nX | apply PM.pW | apply PM.i7 | apply PM.aT | apply PM.vi | apply PM.zc | apply PM.F0 | apply PM.gF | apply PM.Gd | apply PM.rW | apply PM.VQ | apply PM.fU | apply PM.pX | apply PM.kJ | apply PM.gG | apply PM.iw | apply PM.mF | apply PM.nY | exact PM.eq_int | exact PM.eq_str | exact PM.E_ | exact PM.E9 | exact PM.d_ (by omega) (by decide) (by first | omega | (simp <;> omega)) | exact PM.mz (PM.y6 (by decide) (by decide)) | exact PM.kK _ _ | exact PM.VU) | ((with_reducible first | show L2.bA _ _ = _ | show DL.ak _ _ = _); first | exact PM.cG | exact PM.c5 | exact PM.at2 | exact PM.gW) | ((with_reducible show _ = _); exact rfl) | ((with_reducible first | apply PM.VS); focus exact rfl) | ((with_reducible first | apply PM.VR | apply PM.VT); focus exact rfl) | (with_reducible (show (_ : Prop)); first | apply PM.zl | apply PM.aZ | apply PM.aU | apply PM.eX | apply PM.d5 | apply PM.rV | apply PM.zi | apply PM.i5 | apply PM.zj) | ((with_reducible first | apply PM.dn | apply PM.gY | apply PM.zq | apply PM.da | apply PM.F_ | apply PM.lO | apply PM.Gb | apply PM.jy | apply PM.FY); focus (ac_nf; done)) | ((with_reducible apply PM.eW); focus (ac_nf; done)) | ((with_reducible apply PM.dX); focus (ac_nf; done)) | ((with_reducible apply PM.Ga); iterate 2 focus (ac_nf; done)) | ((with_reducible apply PM.zm); iterate 2 focus (ac_nf; done)) | ((with_reducible apply PM.kG); iterate 3 focus (ac_nf; done)) | ((with_reducible apply PM.vj); iterate 5 focus (ac_nf; done)) | ((with_reducible apply PM.zp); iterate 4 focus (ac_nf; done)) | ((with_reducible show _ < PySem.sizeLine); exact PM.small (by first | omega | (simp [DL.b7] <;> omega))) | ((first | (with_reducible show _ <= _) | (with_reducible show _ < _)); first | omega | (simp <;> omega)) | ((with_reducible show (_ : Bool) = _); (simp <;> omega)))
namespace PM
open PySem L2 DL PT
theorem vk(xs:List D):∀(a i:Nat)(d:D),(iK a xs)[i]?=some d->∃x,xs[i]?=some x/\d=.tup [.int ((a+i:Nat):Int),x]:=by
 induction xs with
 | nil=>intro a i d h;cases h
 | cons x xs b=>
  intro a i d h
  cases i with
  | zero=>cases h;exact⟨x,rfl,rfl⟩
  | succ i=>
   obtain⟨y,c,e⟩:=b (a+1) i d h;exact⟨y,c,by rw[e,A2,sI]⟩
def AL{b:Type}(f:b->D)(P:b->Prop)(ds:List D):Prop:=∃l:List b,ds=l.map f/\∀a∈l,P a
theorem AL.nil{a:Type}{f:a->D}{P:a->Prop}:AL f P []:=⟨[],rfl,by simp⟩
theorem AL.snoc{b:Type}{f:b->D}{P:b->Prop}{ds:List D}(h:AL f P ds)(a:b)(c:P a):AL f P (ds++[f a]):=by
 obtain⟨l,rfl,h⟩:=h;exact⟨l++[a],by simp,by simpa [or_imp,forall_and]using⟨h,c⟩⟩
def iy(m a b:Int):Prop:=0<=a/\a<m/\0<=b/\b<m/\a≠b
theorem ck{N z:Int}{y:Sd}(h:lL y)(a:0<=z/\z<N):fV N (y.1,y.2,z):=⟨h.1,h.2.1,h.2.2,a⟩
theorem AL.ch{N i:Int}{x:Sd}{ds:List D}(h:AL aI (fV N) ds)(a:lL x)(b:0<=i/\i<N):AL aI (fV N) (ds++[aI (x.1,x.2,i)]):=h.snoc (x.1,x.2,i) (ck a b)
theorem zt{ws:List Sd}{i:Nat}{x:Sd}{cs:List D}{j:Int}(a:ws[i]?=some x)(h:cs.map rP=(ws.take i).map (·.1)):(cs++[aI (x.1,x.2,j)]).map rP=(ws.take (i+1)).map (·.1):=by
 rw[l6,a,cU,cU,h]
 rfl
noncomputable def sy(u v:Int):Pl->Bool
 | .say a b _=>a==u&&b==v
 | .fin=>false
def BK(k w:Nat)(l:List Pl):Prop:=(∀u v,l.countP (sy u v)<=k)/\(l.flatMap Pl.bt).length<=w
theorem BK.app{k w k' a:Nat}{l b:List Pl}(h:BK k w l)(h':BK k' a b):BK (k+k') (w+a) (l++b):=⟨λu v=>by rw[Z7];exact Jh (h.1 u v) (h'.1 u v),by rw[A3,bQ];exact Jh h.2 h'.2⟩
def AC(m N u v:Int)(i:Nat)(ds:List D):Prop:=∃l:List Pl,ds=l.map Pl.toD/\(∀p∈l,p.OK m N/\sy u v p=false)/\BK i l.length l
theorem mG{u v a b:Int}{cs:List Ch}:sy u v (.say a b cs)=true↔a=u/\b=v:=by simp[sy]
theorem AC.nil{m N u v:Int}:AC m N u v 0 []:=⟨[],rfl,by simp,by simp[BK]⟩
theorem AC.up{m N u v:Int}{i:Nat}{ds:List D}(h:AC m N u v i ds){r:List Pl}(a:∀p∈r,p.OK m N/\sy u v p=false)(b:BK 1 r.length r):AC m N u v (i+1) (ds++r.map Pl.toD):=by
 obtain⟨l,rfl,c,d⟩:=h;refine⟨l++r,by rw[cU],λp e=>(bW.mp e).elim (c p) (a p),?_⟩;rw[bQ];exact d.app b
theorem AC.aF{m N u v:Int}{i:Nat}{ds:List D}(h:AC m N u v i ds):AC m N u v (i+1) ds:=by obtain⟨l,a,b,c,d⟩:=h;exact⟨l,a,b,λx y=>Aq (c x y),d⟩
theorem p0{m N u v a b:Int}{c:Ch}(e:fV N c)(d:iy m a b)(hn:a≠u\/b≠v):(Pl.say a b [c]).OK m N/\sy u v (.say a b [c])=false:=⟨⟨d.1,d.2.1,d.2.2.1,d.2.2.2.1,d.2.2.2.2,by simp,by simp,by simpa using e,rfl⟩,jE.mpr λz=>by rw[mG]at z;rcases hn with h | h;exact h z.1;exact h z.2⟩
theorem AC.one{m N u v a b:Int}{c:Ch}{i:Nat}{ds:List D}(h:AC m N u v i ds)(d:fV N c)(e:iy m a b)(hn:a≠u\/b≠v):AC m N u v (i+1) (ds++[.tup [.str "say",.int a,.int b,.tup [aI c]]]):=h.up (r:=[.say a b [c]]) (by simpa using p0 d e hn) ⟨λx y=>A4,by simp[Pl.bt]⟩
theorem Gf{p q:Pl}{u v:Int}(h:¬(sy u v p=true/\sy u v q=true)):[p,q].countP (sy u v)<=1:=by
 cases e:sy u v p<;>cases a:sy u v q<;>simp_all
theorem AC.two{m N u v a b d e:Int}{c f:Ch}{i:Nat}{ds:List D}(h:AC m N u v i ds)(p:fV N c)(q:iy m a b)(hn:a≠u\/b≠v)(g:fV N f)(j:iy m d e)(n:d≠u\/e≠v)(s:a≠d\/b≠e):AC m N u v (i+1) (ds++[.tup [.str "say",.int a,.int b,.tup [aI c]]]++[.tup [.str "say",.int d,.int e,.tup [aI f]]]):=by
 rw[j8];refine h.up (r:=[.say a b [c],.say d e [f]]) (by simpa using⟨p0 p q hn,p0 g j n⟩) ⟨λx y=>Gf ?_,by simp[Pl.bt]⟩;rw[mG,mG]
 lia
theorem AC.three{m N u v a b d e f b2:Int}{c g j:Ch}{i:Nat}{ds:List D}(h:AC m N u v i ds)(E:fV N c)(G:iy m a b)(hn:a≠u\/b≠v)(n:fV N g)(s:iy m d e)(t:d≠u\/e≠v)(w:fV N j)(A:iy m f b2)(B:f≠u\/b2≠v)(L:a≠d\/b≠e)(H:a≠f\/b≠b2)(I:d≠f\/e≠b2):AC m N u v (i+1) (ds++[.tup [.str "say",.int a,.int b,.tup [aI c]]]++[.tup [.str "say",.int d,.int e,.tup [aI g]]]++[.tup [.str "say",.int f,.int b2,.tup [aI j]]]):=by
 rw[j8,j8];refine h.up (r:=[.say a b [c],.say d e [g],.say f b2 [j]]) (by simpa using⟨p0 E G hn,p0 n s t,p0 w A B⟩) ⟨λx y=>?_,by simp[Pl.bt]⟩;rw[Z8]
 have J:=Gf (p:=.say d e [g]) (q:=.say f b2 [j]) (u:=x) (v:=y) (by rw[mG,mG];omega)
 split
 ·rename_i z
  rw[mG]at z;rw[Z9.mpr]
  ·decide
  ·intro p C
   simp only[a9,kb,or_false]at C
   rcases C with rfl | rfl<;>rw[mG]<;>lia
 ·exact J
def rY(m N:Int)(n:Int)(a:List Pl):Prop:=(∀p∈a,p.OK m N)/\(a.length:Int)=n/\BK 3 12 a
theorem Gg{m N a b n:Int}{ws:List Sd}{f cs:List D}{i:Nat}(g:AC m N a b i f)(h:AL aI (fV N) cs)(c:cs.map rP=ws.map (·.1))(q:d3 (ws.map (·.1))=true)(hw:1<=ws.length/\ws.length<=3)(d:iy m a b)(hn:(f.length:Int)+1=n)(s:i<=3)(r:f.length<=9):∃e,D.lst ([.tup [.str "say",.int a,.int b,.tup cs]]++f)=.lst (e.map Pl.toD)/\rY m N n e:=by
 obtain⟨R,rfl,g,j⟩:=g;obtain⟨C,rfl,h⟩:=h;rw[fQ]at c
 have c:C.map (·.1)=ws.map (·.1):=c
 have t:C.length=ws.length:=by simpa using congrArg og c
 rw[aJ]at r;refine⟨.say a b C::R,rfl,λp hp=>?_,by simpa using hn,λu v=>?_,?_⟩
 ·rcases a9.mp hp with rfl | hp
  ·exact⟨d.1,d.2.1,d.2.2.1,d.2.2.2.1,d.2.2.2.2,by lia,by lia,h,by rw[c];exact q⟩
  ·exact(g p hp).1
 ·rw[Z8]
  have:=j.1 u v
  split
  ·rename_i z
   rw[mG]at z;rw[<-z.1,<-z.2,Z9.mpr λp hp=>by rw[(g p hp).2];simp]
   lia
  ·lia
 ·rw[qD,bQ]
  have:=j.2
  show C.length+_<=_
  lia
def Gh(s one:Int)(d os:D)(ws:List Sd)(e cs:List D)(l:Int)(f g a b c:Option SD):ar:=[some (.ai (.int s)),some (.ai d),some (.ai (.int one)),some (.ai os),some (.ai (.lst (ws.map bE))),some (.own e),some (.own cs),some (.ai (.int l)),f,g,a,b,c]
theorem Gi{n:Nat}(hn:1<=n){s m one a N:Int}{bs:List Int}(L:bs.Nodup)(hb:bs.length=1\/bs.length=2)(B:m=bs.length+2)(g:iy m one a)(f:∀b∈bs,iy m one b/\iy m a b)(hs:0<=s){M:D}(hg:∀j:Nat,j<3->∃v,ak M (.int j)=some (.int v)/\0<=v/\v<N){ws:List Sd}(q:1<=ws.length)(t:ws.length<=3)(C:∀x∈ws,lL x)(hr:d3 (ws.map (·.1))=true)(hN:s+1+(ws.length:Int)*(m-1)<=N):
  Ev (Tab n .fv [.int s,M,.int one,.lst ((a::bs).map .int),.lst (ws.map bE)]) λd=>∃E,d=.lst (E.map Pl.toD)/\rY m N (1+(ws.length:Int)*(m-1)) E:=by
 obtain⟨k,rfl,hk⟩:=bI (c:=0) hn;obtain⟨O,xr,rfl⟩:=ZZ (l:=ws) (by intro e;rw[e]at q;simp at q)
 have h0:=C O (by simp)
 rw[tab];refine i6 (np:=5) (n:=13) (gb:=yR (Tab k)) ?_;unfold yR
 ac_nf
 refine zk (λi r=>∃A cs Q T u w z,r=Gh s one M (.lst ((a::bs).map .int)) (O::xr) A cs (bs.length+1) Q T u w z/\AC m N one a i A/\(A.length:Int)=i*(m-1)/\AL aI (fV N) cs/\cs.map rP=((O::xr).take i).map (·.1)) _ 0 _ ⟨[],[],none,none,none,none,none,by simp[Gh,kz],.nil,by simp,.nil,by simp⟩ ?_ ?_
 ·rintro i d r hd ⟨A,cs,Q,T,u,w,z,rfl,hR,I,J,hw⟩
  obtain⟨y,hy,rfl⟩:=vk _ _ _ _ hd;rw[bJ,bC]at hy;obtain⟨x,U,rfl⟩:=hy;obtain⟨hi,Y⟩:=cA.mp U
  have p:=C x (Y▸AD hi)
  refine aP (hg i (by lia)) λv hv G H=>?_
  have hc:=congrArg og hw
  simp only[bR,aJ,lW]at hi hN t hc;rw[k1]at*;refine⟨_,rfl,?_⟩
  match bs,hb with
  | [b],_=>
   simp only[a9,kb,or_false,forall_eq_or_imp,forall_eq,bR,gL]at f B;subst B
   ac_nf
   refine⟨_,_,_,_,_,_,_,rfl,hR.two (ck h0 ?_) f.1 (.inr f.2.2.2.2.2.symm) (ck p ⟨G,H⟩) f.2 (.inl g.2.2.2.2.symm) (.inl g.2.2.2.2),?_,J.ch p ?_,zt U hw⟩<;>simp only[bQ,bR,gL]<;>lia
  | [b,c],_=>
   simp only[a9,kb,or_false,forall_eq_or_imp,forall_eq,bR,gL]at f B;subst B
   ac_nf
   refine⟨_,_,_,_,_,_,_,rfl,hR.three (ck h0 ?_) f.1.1 (.inr f.1.2.2.2.2.2.symm) (ck p ?_) f.1.2 (.inl g.2.2.2.2.symm) (ck p ⟨G,H⟩) f.2.2 (.inl g.2.2.2.2.symm) (.inl g.2.2.2.2) (.inl g.2.2.2.2) (.inr (by simpa using L)),?_,J.ch p ?_,zt U hw⟩<;>simp only[bQ,bR,gL]<;>lia
 ·rintro r ⟨A,cs,Q,T,u,w,z,rfl,hR,I,J,hw⟩
  rw[k1,js,aJ]at I hw;rw[k0]at hw
  have hz:A.length<=9:=by rcases hb with h | h<;>rw[B,h]at I<;>lia
  ac_nf
  exact Gg hR J hw hr ⟨q,t⟩ g (by rw[I,Z_]) (by simp only[k1,js,aJ];exact t) hz
noncomputable def p5(c m:Int):Bool:=c%4==2&&decide (2<m)
theorem Gj{n:Nat}(hn:1<=n)(c m:Int):Tab n .ft [.int c,.int m]=some (.bl (p5 c m)):=by
 obtain⟨k,rfl,a⟩:=bI (c:=0) hn;rw[tab]
 cases e:(c%4==2)<;>dsimp! [E7,gF,eq_int,e,p5,-beq_iff_eq,-beq_eq_false_iff_ne]
def gH(c m:Int):Int:=if p5 c m then 1 else 0
def fZ(c:Int):Int:=1+mix c 9949 3
def kN(c:Int):Int:=if 0<mix c 9931 3 then 1 else 0
def cJ(c m:Int):Int:=1+fZ c*(m-2+gH c m)+kN c
theorem zu(c:Int):1<=fZ c/\fZ c<=3:=by
 have a:=eJ (c:=c) (p:=9949) (m:=3) (by decide)
 have b:=eL (c:=c) (p:=9949) (m:=3) (by decide)
 unfold fZ
 lia
theorem Gm(c m:Int):0<=gH c m/\gH c m<=1:=by unfold gH;split<;>lia
theorem zw(c:Int):0<=kN c/\kN c<=1:=by unfold kN;split<;>lia
theorem VW{n:Nat}(hn:2<=n){c m:Int}(s:2<=m)(t:m<=4):Tab n .fu [.int c,.int m]=some (.int (cJ c m)):=by
 obtain⟨k,rfl,d⟩:=bI (c:=1) hn
 have e:=Gj (n:=k) d c m
 have f:=d_ (n:=k) (by omega) (c:=c) (p:=9949) (m:=3) (by decide) (by decide)
 have g:=d_ (n:=k) (by omega) (c:=c) (p:=9931) (m:=3) (by decide) (by decide)
 have u:=Gm c m
 have hw:=zu c
 have a:=Gd (i:=fZ c) (j:=m-2+gH c m) (by lia) (by lia) (by lia) (by lia)
 have q:mv [.bl (p5 c m)]=some (.int (gH c m)):=rfl
 have r:mv [.bl (decide (0<mix c 9931 3))]=some (.int (kN c)):=by
  unfold kN
  by_cases h:0<mix c 9931 3<;>simp[mv,h]
 rw[tab]
 have b:fZ c=1+mix c 9949 3:=rfl
 rw[b]at a
 dsimp! [E8,e,f,g,q,r,a,cJ,b]
theorem VX{m one q:Int}(a:m=2\/m=3\/m=4)(b:0<=one)(c:one<m){k:Int}:iy m one ((one+1+(k+q)%(m-1))%m):=by
 unfold iy
 rcases a with rfl | rfl | rfl<;>lia
theorem zx{m x r s:Int}(b:m=3\/m=4)(c:0<=r/\r<m-1)(d:0<=s/\s<m-1)(h:r≠s):iy m ((x+r)%m) ((x+s)%m):=by
 have a:0<m:=by lia
 refine⟨wh _ (by lia),wj _ a,wh _ (by lia),wj _ a,?_⟩
 rcases b with rfl | rfl<;>lia
theorem VY{n:Nat}(hn:9<=n){c s m N:Int}(hm:m=2\/m=3\/m=4)(hs:0<=s)(U:∀j:Nat,j<3->∃v,ak gl (.int j)=some (.int v)/\0<=v/\v<N)(Y:s+1+fZ c*(m-2+gH c m)<=N):
  Ev (Tab n .fw [.int c,.int s,.int m,gl]) λd=>∃G,d=.lst (G.map Pl.toD)/\rY m N (1+fZ c*(m-2+gH c m)) G:=by
 obtain⟨k,rfl,z⟩:=bI (c:=8) hn
 have m0:=eJ (c:=c) (p:=9929) (m:=m) (by lia)
 have m1:=eL (c:=c) (p:=9929) (m:=m) (by lia)
 have VZ:=d_ (n:=k) (fu z) (c:=c) (p:=9929) (m:=m) (by decide) (by lia)
 generalize mix c 9929 m=one at m0 m1 VZ
 have V0:=d_ (n:=k) (fu z) (c:=c) (p:=9901) (m:=m-1) (by decide) (by lia)
 generalize mix c 9901 (m-1)=q at V0
 have hmn:=d_ (n:=k) (fu z) (c:=c) (p:=9949) (m:=3) (by decide) (by decide)
 have hw:=zu c
 refine aP (FW (k:=k) (fu z) (c:=c) (fZ c).toNat 0 none (by lia)) λH h1 h2 h3=>?_
 have hlen:H.length=(fZ c).toNat:=by simpa using congrArg og h2
 refine eh (zg (ws:=H) (by lia) (by rw[h2];exact VB (by lia))) λws s1 s2 s3 hr=>?_
 have A:=λx O=>h3 x (s3 x O)
 have f:=Gj (n:=k) (fu z) c m
 have g:=@VX m one q hm m0 m1
 rw[tab];refine i6 (np:=4) (n:=13) (gb:=yS (Tab k)) ?_;unfold yS
 have t:∀{r Q q},r=some (.ai (.int c))::r.tail->kS q Q (.aF (r.set 6 (some (.ai (.lst (ws.map bE))))))->Ev (bp 6 (vH (au ju (ag [bY [none,some 0] (dD (ag [ab aM (cC (.int 1)) (au (Tab k .fo) (ag [aa 0,cC (.int 9949),cC (.int 3)]))])) (gN 0) (λ_=>some true) (au (Tab k .fr) (ag [aa 1,aa 0]))]))) r) (kS q Q):=λ{r Q q} e h=>by
  refine dn (cT (aS (aj (fU (ds:=(qC 0 (fZ c).toNat).map λ(i:Nat)=>D.int (i:Int)) ?_ (small (by simp;lia)) (by rw[e];exact h1)) rfl) s1)) h;rw[<-A1,<-rX,e];exact rW (by ac_nf) (by lia) (by lia)
 cases w:p5 c m with
 | true=>
  rw[w]at f
  have e1:gH c m=1:=by unfold gH;rw[w];rfl
  rw[e1]at Y ⊢
  have V1:m=3\/m=4:=by simp[p5]at w;lia
  have I:s+1+(ws.length:Int)*(m-1)<=N:=by rw[show(ws.length:Int)=fZ c by lia,show m-1=m-2+1 by lia];exact Y
  rw[show 1+fZ c*(m-2+1)=1+(ws.length:Int)*(m-1) by rw[show(ws.length:Int)=fZ c by lia,show m-1=m-2+1 by lia]]
  obtain rfl | rfl:=V1
  ·obtain⟨d,J,hp⟩:=Gi (n:=k) (fu z) (s:=s) (m:=3) (one:=one) (a:=(one+1+(0+q)%(3-1))%3) (bs:=[(one+1+(0+1+q)%(3-1))%3]) (by simp) (.inl rfl) rfl g (by simp only[br,forall_eq];exact⟨g,zx (.inl rfl) (by lia) (by lia) (by lia)⟩) hs U (by lia) (by lia) A hr I
   ac_nf
   refine t rfl ?_
   ac_nf
   refine jy (aS (by ac_nf) J) hp
  ·obtain⟨d,J,hp⟩:=Gi (n:=k) (fu z) (s:=s) (m:=4) (one:=one) (a:=(one+1+(0+q)%(4-1))%4) (bs:=[(one+1+(0+1+q)%(4-1))%4,(one+1+(0+1+1+q)%(4-1))%4]) (by simp;lia) (.inr rfl) rfl g (by simp only[a9,kb,or_false,forall_eq_or_imp,forall_eq];exact⟨⟨g,zx (.inr rfl) (by lia) (by lia) (by lia)⟩,g,zx (.inr rfl) (by lia) (by lia) (by lia)⟩) hs U (by lia) (by lia) A hr I
   ac_nf
   refine t rfl ?_
   ac_nf
   refine jy (aS (by ac_nf) J) hp
 | false=>
  rw[w]at f
  have e1:gH c m=0:=by unfold gH;rw[w];rfl
  rw[e1]at Y ⊢;obtain⟨M,T⟩:∃M:Int,M=m:=⟨m,rfl⟩;obtain⟨z0,V2⟩:∃z0:Int,z0=(one+1+(0+q)%(m-1))%m:=⟨_,rfl⟩
  have g:∀k,iy M one ((one+1+(k+q)%(m-1))%m):=λk=>T▸g
  simp only[show rY m N=rY M N by rw[T]];rcases hm with rfl | rfl | rfl
  all_goals
   ac_nf
   refine t rfl ?_
   ac_nf
   show Ev (c_ _ _ _ [_,_,_,_,_,_,_,_,_,_,_,_,_]) _
   refine kH (λR i r=>∃L cs o9 B C E,r=R.take 7++[some (.own L),some (.own cs),o9,B,C,E]/\AC M N one z0 i L/\(L.length:Int)=i*(M-2)/\AL aI (fV N) cs/\cs.map rP=(ws.take i).map (·.1)) ⟨[],[],_,_,_,_,rfl,.nil,by simp,.nil,by simp⟩ ?_ ?_
   ·rintro i d r J ⟨L,cs,o9,B,C,E,rfl,hR,w,hC,b⟩
    obtain⟨y,hy,rfl⟩:=vk _ _ _ _ J;rw[bJ,bC]at hy;obtain⟨x,O,rfl⟩:=hy;obtain⟨hi,nB⟩:=cA.mp O
    have u:=A x (nB▸AD hi)
    refine aP (U i (by omega)) λv hv hv0 hv1=>?_
    have hc:=congrArg og b
    simp only[aJ,lW]at hc;rw[k1];refine⟨_,rfl,?_⟩;subst T
    ac_nf
    refine⟨_,_,_,_,_,_,rfl,?_,?_,hC.ch u ?_,zt O b⟩
    ·first | exact hR.aF | exact hR.one (ck u (by lia)) (g _) (.inr (by lia)) | exact hR.two (ck u (by lia)) (g _) (.inr (by lia)) (ck u (by lia)) (g _) (.inr (by lia)) (.inr (by lia))
    ·first | assumption | (simp;lia)
    ·lia
   ·rintro r ⟨L,cs,o9,B,C,E,rfl,hR,w,hC,b⟩
    rw[js,aJ]at w b;rw[k0]at b;subst T
    ac_nf
    rw[V2]at hR;exact Gg hR hC b hr ⟨by lia,by lia⟩ (g 0) (by lia) (by simp only[js,aJ];lia) (by lia)
theorem V3{n:Nat}(hn:8<=n){c d m b N:Int}(hm:m=2\/m=3\/m=4)(U:0<=d/\d<N)(C:0<=b/\b<N):∃p:Pl,Tab n .fx [.int c,.int d,.int m,.int b]=some p.toD/\p.OK m N/\p.bt.length<=2:=by
 obtain⟨k,rfl,A⟩:=bI (c:=7) hn
 have H:=eJ (c:=c) (p:=9871) (m:=m) (by lia)
 have I:=eL (c:=c) (p:=9871) (m:=m) (by lia)
 have b0:=eJ (c:=c) (p:=9859) (m:=m-1) (by lia)
 have b1:=eL (c:=c) (p:=9859) (m:=m-1) (by lia)
 have f:=d_ (n:=k) (fu A) (c:=c) (p:=9871) (m:=m) (by decide) (by lia)
 have g:=d_ (n:=k) (fu A) (c:=c) (p:=9859) (m:=m-1) (by decide) (by lia)
 have s:=d_ (n:=k) (fu A) (c:=c) (p:=9931) (m:=3) (by decide) (by decide)
 generalize mix c 9871 m=one at H I f
 generalize mix c 9859 (m-1)=q at b0 b1 g
 generalize mix c 9931 3=r at s
 obtain⟨J,L,w0⟩:=rS (n:=k) A (c+1) 0 ⟨by decide,by decide⟩;obtain⟨M,O,w1⟩:=rS (n:=k) A (c+1) 1 ⟨by decide,by decide⟩
 have Q:(([(dk (c+1) 0,J),(dk (c+1) 1,M)]:List Sd).map (·.1)).Nodup:=by
  simp
  intro e
  have:=y7 (c:=c+1) (i:=0) (j:=1) ⟨by decide,by decide⟩ ⟨by decide,by decide⟩ e
  lia
 refine eh (zg (ws:=[(dk (c+1) 0,J),(dk (c+1) 1,M)]) (by simp) Q) λws e1 e2 e3 e4=>?_
 have B:∀x∈ws,lL x:=λx t=>by
  have:=e3 x t
  simp at this
  rcases this with rfl | rfl
  ·exact w0
  ·exact w1
 obtain⟨x,y,rfl⟩:∃x y,ws=[x,y]:=by
  match ws,e2 with
  | [x,y],_=>exact⟨x,y,rfl⟩
 have t:=B x (by simp)
 have T:=B y (by simp)
 have w:ju [.lst [bE (dk (c+1) 0,J),bE (dk (c+1) 1,M)]]=some (.lst [bE x,bE y]):=e1
 have a:0<=(one+1+q)%m/\(one+1+q)%m<m/\one≠(one+1+q)%m:=by
  rcases hm with rfl | rfl | rfl<;>refine⟨by lia,by lia,by lia⟩
 have z:ej (.int (one+1+q)) (.int m)=some (.int ((one+1+q)%m)):=gF (by lia)
 rw[tab]
 by_cases E:r=1
 ·subst E
  refine⟨.say one ((one+1+q)%m) [(x.1,x.2,b)],?_,⟨H,I,a.1,a.2.1,a.2.2,by simp,by simp,λch G=>?_,rfl⟩,by simp[Pl.bt]⟩
  ·dsimp! [uW,f,g,s,L,O,w,z,eq_int,kK,Pl.toD]
  ·have:ch=(x.1,x.2,b):=by simpa using G
   subst this;exact⟨t.1,t.2.1,t.2.2,C.1,C.2⟩
 ·have CJ:(r==1)=false:=by simpa using E
  have main:∀u v:Int,(0<=u/\u<N)->(0<=v/\v<N)->(Pl.say one ((one+1+q)%m) [(x.1,x.2,u),(y.1,y.2,v)]).OK m N:=λu v Y hv=>by
   refine⟨H,I,a.1,a.2.1,a.2.2,by simp,by simp,λch G=>?_,e4⟩
   simp at G
   rcases G with rfl | rfl
   ·exact⟨t.1,t.2.1,t.2.2,Y.1,Y.2⟩
   ·exact⟨T.1,T.2.1,T.2.2,hv.1,hv.2⟩
  rcases mod2 c with h | h
  ·refine⟨_,?_,main d b U C,by simp[Pl.bt]⟩
   dsimp! [uW,f,g,s,L,O,w,z,eq_int,E,kK,Pl.toD,gF,h]
  ·refine⟨_,?_,main b d C U,by simp[Pl.bt]⟩
   dsimp! [uW,f,g,s,L,O,w,z,eq_int,E,kK,Pl.toD,gF,h]
def b_(m:Int):Int->List Int->List Int
 | a,[]=>[a]
 | a,c::cs=>a::b_ m (a+cJ c m) cs
theorem zy{c m:Int}(a:m=2\/m=3\/m=4):1<=cJ c m/\cJ c m<=11:=by
 have b:=Gm c m
 have hw:=zu c
 have d:=zw c
 unfold cJ
 have e:0<=fZ c*(m-2+gH c m):=Za_ (by lia) (by lia)
 have f:fZ c*(m-2+gH c m)<=3*3:=Int.mul_le_mul (by lia) (by lia) (by lia) (by lia)
 lia
theorem Gn{b:Type}(xs:List b)(a:b):bA (xs++[a]) (-1)=some a:=by
 unfold bA hH;rw[if_neg (by decide)]
 have e:(-1+(((xs++[a]).length:Nat):Int)).toNat=xs.length:=by rw[bQ];simp;lia
 rw[if_pos (by rw[bQ];simp;omega),bj,e]
 simp
theorem n0(m:Int):∀(cs:List Int)(a:Int),(b_ m a cs).length=cs.length+1
 | [],_=>rfl
 | c::cs,a=>by simp only[b_,bR,n0 m cs]
theorem zz{m:Int}(d:m=2\/m=3\/m=4):∀(cs:List Int)(a:Int)(i:Nat)(x:Int),(b_ m a cs)[i]?=some x->a<=x/\x<=(b_ m a cs).getLastD 0
 | [],a,i,x,h=>by
  cases i with
  | zero=>cases h;simp[b_]
  | succ i=>simp[b_]at h
 | c::cs,a,i,x,h=>by
  have g:=zy (c:=c) d
  have b:(b_ m a (c::cs)).getLastD 0=(b_ m (a+cJ c m) cs).getLastD 0:=by
   show(a::b_ m (a+cJ c m) cs).getLastD 0=_
   cases e:b_ m (a+cJ c m) cs with
   | nil=>have:=n0 m cs (a+cJ c m);rw[e]at this;simp at this
   | cons y r=>simp
  rw[b]
  cases i with
  | zero=>
   cases h
   have f:(b_ m (a+cJ c m) cs)[0]?=some (a+cJ c m):=by cases cs<;>rfl
   have:=zz d cs (a+cJ c m) 0 _ f
   lia
  | succ i=>
   have:=zz d cs (a+cJ c m) i x h
   lia
theorem Gp{m:Int}:∀(cs:List Int)(a:Int)(i:Nat)(c:Int),cs[i]?=some c->∃x,(b_ m a cs)[i]?=some x/\(b_ m a cs)[i+1]?=some (x+cJ c m)
 | d::cs,a,0,c,h=>by
  cases h;refine⟨a,rfl,?_⟩
  show(b_ m (a+cJ d m) cs)[0]?=_
  cases cs<;>rfl
 | d::cs,a,i+1,c,h=>Gp cs (a+cJ d m) i c h
theorem Gq{m:Int}:∀(cs:List Int)(a:Int),(b_ m a cs)[cs.length]?=some ((b_ m a cs).getLastD 0)
 | [],a=>rfl
 | c::cs,a=>by
  have h:=Gq (m:=m) cs (a+cJ c m)
  have b:(b_ m a (c::cs)).getLastD 0=(b_ m (a+cJ c m) cs).getLastD 0:=by
   show(a::b_ m (a+cJ c m) cs).getLastD 0=_
   cases e:b_ m (a+cJ c m) cs with
   | nil=>have:=n0 m cs (a+cJ c m);rw[e]at this;simp at this
   | cons y r=>simp
  rw[b];exact h
theorem Gr{m:Int}(d:m=2\/m=3\/m=4):∀(cs:List Int)(a:Int),(b_ m a cs).getLastD 0<=a+11*cs.length/\a<=(b_ m a cs).getLastD 0
 | [],a=>by simp[b_]
 | c::cs,a=>by
  have f:=zy (c:=c) d
  have g:=Gr d cs (a+cJ c m)
  have b:(b_ m a (c::cs)).getLastD 0=(b_ m (a+cJ c m) cs).getLastD 0:=by
   show(a::b_ m (a+cJ c m) cs).getLastD 0=_
   cases e:b_ m (a+cJ c m) cs with
   | nil=>have:=n0 m cs (a+cJ c m);rw[e]at this;simp at this
   | cons y r=>simp
  rw[b];simp only[bR]
  lia
theorem zA{xs:List Int}{i:Nat}{x:Int}(h:xs[i]?=some x):bA (xs.map D.int) (i:Int)=some (.int x):=by
 have a:i<xs.length:=(cA.mp h).1
 rw[pO (by rw[aJ];exact a)];rw[c6 a]at h;cases h
 simp
theorem Gs{m:Int}{c:Int}:∀(cs:List Int)(a:Int),b_ m a (cs++[c])=b_ m a cs++[(b_ m a cs).getLastD 0+cJ c m]
 | [],a=>rfl
 | d::cs,a=>by
  show a::b_ m (a+cJ d m) (cs++[c])=_
  rw[Gs cs]
  show _=a::(_++[(a::b_ m (a+cJ d m) cs).getLastD 0+cJ c m])
  cases e:b_ m (a+cJ d m) cs with
  | nil=>have:=n0 m cs (a+cJ d m);rw[e]at this;simp at this
  | cons y r=>simp
theorem V4{xs:List Int}(h:0<xs.length):bA (xs.map D.int) (-1)=some (.int (xs.getLastD 0)):=by
 obtain⟨ys,y,rfl⟩:∃ys y,xs=ys++[y]:=⟨xs.dropLast,xs.getLast (by intro e;subst e;simp at h),(Ji _).symm⟩;rw[cU]
 simpa using Gn (ys.map D.int) (D.int y)
theorem Gu{n:Nat}(hn:8<=n){c a m b N:Int}(f:m=2\/m=3\/m=4)(g:0<=a/\a<N)(i:0<=b/\b<N):Ev (Tab n .fx [.int c,.int a,.int m,.int b]) λd=>∃p:Pl,d=p.toD/\p.OK m N/\p.bt.length<=2:=by obtain⟨p,e,h⟩:=V3 hn f g i;exact⟨_,e,p,rfl,h⟩
theorem Gv{xs:List Int}{v:Int}(a:0<=v)(b:v<xs.length):bA (xs.map D.int) v=some (.int (xs.getD v.toNat 0))/\xs[v.toNat]?=some (xs.getD v.toNat 0):=by
 have h:xs[v.toNat]?=some (xs.getD v.toNat 0):=by rw[j9,c6 (by lia)];rfl
 have:=zA h
 rw[oG a]at this;exact⟨this,h⟩
theorem BK.mono{k w k' c:Nat}{l:List Pl}(h:BK k w l)(a:k<=k')(b:w<=c):BK k' c l:=⟨λu v=>cj (h.1 u v) a,cj h.2 b⟩
def AB(m N:Int)(i:Nat)(ds:List D):Prop:=∃l:List Pl,ds=l.map Pl.toD/\(∀p∈l,p.OK m N)/\BK (4*i) (14*i) l
theorem AB.rd{m N:Int}{i:Nat}{ds:List D}{l:List Pl}(h:AB m N i ds)(a:∀p∈l,p.OK m N)(c:BK 3 12 l):AB m N (i+1) (ds++l.map Pl.toD):=by
 obtain⟨d,rfl,h,b⟩:=h;exact⟨d++l,by simp,by simpa [or_imp,forall_and]using⟨h,a⟩,(b.app c).mono (by lia) (by lia)⟩
theorem AB.Gw{m N:Int}{i:Nat}{ds:List D}{l:List Pl}{p:Pl}(h:AB m N i ds)(a:∀p∈l,p.OK m N)(c:BK 3 12 l)(d:p.OK m N)(e:p.bt.length<=2):AB m N (i+1) (ds++l.map Pl.toD++[p.toD]):=by
 obtain⟨f,rfl,h,b⟩:=h;exact⟨f++l++[p],by simp,by simpa [or_imp,forall_and]using⟨h,a,d⟩,((b.app c).app (show BK 1 2 [p] from⟨λu v=>A4,by simpa using e⟩)).mono (by lia) (by lia)⟩
theorem AB.V5{m N:Int}{i:Nat}(h:AB m N i ds):cF ds=true:=by obtain⟨l,e,_⟩:=h;exact e▸lP Ge l
theorem V6{n:Nat}(hn:10<=n){m:Int}(B:m=2\/m=3\/m=4){cells:List Int}(h3:cells.length<=3):
  Ev (Tab n .fA [.int m,.lst (cells.map .int)]) (λd=>∃ps,d=aE m ps/\fX m ps/\ps.length<=40/\BK 12 42 ps):=by
 obtain⟨k,rfl,O⟩:=bI (c:=9) hn
 have Q:=Gr B cells 0
 have hsl:=n0 m cells 0
 generalize hT:(b_ m 0 cells).getLastD 0=T at Q
 have b:∀(i:Nat)(y:Int),(b_ m 0 cells)[i]?=some y->0<=y/\y<T+1:=λi y J=>by
  have:=zz B cells 0 i y J
  lia
 all_goals
  rw[tab]
  refine i6 (np:=2) (n:=8) (gb:=yT (Tab k)) ?_;unfold yT
  ac_nf
  first | show Ev (c_ _ _ _ [_,_,_,_,_,_,_,_]) _ | show Ev (c_ _ _ _ [_,_,_,_,_,_,_,_,_]) _
  refine kH (λR i r=>∃t st,r=R.take 2++some (.own st)::t::R.drop 4/\st=(b_ m 0 (cells.take i)).map .int) ⟨_,_,rfl,rfl⟩ ?_ ?_
  ·rintro i d r L ⟨t,st,rfl,rfl⟩
   rw[bJ,bC]at L;obtain⟨c,M,rfl⟩:=L
   have U:=n0 m (cells.take i) 0
   have hla:=V4 (xs:=b_ m 0 (cells.take i)) (by lia)
   have hs:=VW (n:=k) (fu O) (c:=c) (m:=m) (by lia) (by lia)
   have hz:(cells.take i).length<=3:=by rw[lW];lia
   refine⟨_,rfl,?_⟩
   ac_nf
   refine⟨_,_,rfl,?_⟩;rw[l6,M]
   show _=(b_ m 0 (cells.take i++[c])).map D.int
   rw[Gs,cU]
   rfl
  rintro r ⟨t,st,rfl,rfl⟩
  rw[aJ,k0]
  have Y:=λi c=>Gp (m:=m) cells 0 i c
  have V7:(b_ m 0 cells)[0]?=some 0:=by cases cells<;>rfl
  have E:=Gq (m:=m) cells 0
  generalize b_ m 0 cells=st at*
  ac_nf
  first | show Ev (c_ _ _ _ [_,_,_,_,_,_,_,_]) _ | show Ev (c_ _ _ _ [_,_,_,_,_,_,_,_,_]) _
  refine kH (λR i r=>∃t a o5 o6 o7 G x,r=(R.take 3++[t,some (SD.own a),o5,o6,o7,G]).take R.length/\AB m (T+1) i a/\st[i]?=some x/\(a.length:Int)=x) ⟨_,[],_,_,_,none,0,rfl,⟨[],rfl,by simp,by simp[BK]⟩,V7,rfl⟩ ?_ ?_
  ·rintro i d r L ⟨t,a,o5,o6,o7,G,x,rfl,hR,w,U⟩
   obtain⟨y,J,rfl⟩:=vk _ _ _ _ L;rw[bJ,bC]at J;obtain⟨c,M,rfl⟩:=J;obtain⟨_,e,f⟩:=Y i c M;rw[w]at e;cases e
   have hi:=(cA.mp M).1
   have zB:=b _ _ w
   have lx:=b _ _ f
   have Zst:=zA w
   have H:=zA f
   rw[show((i+1:Nat):Int)=(i:Int)+1 by rfl]at H
   have hsz:=zy (c:=c) B
   rw[k1]
   have hL:(st.map D.int).length=st.length:=aJ ..
   have A:=λz=>Gv (xs:=st) (v:=mix z 9907 (st.map D.int).length) (eJ (by lia)) (by have:=eL (c:=z) (p:=9907) (m:=(st.map D.int).length) (by lia);lia)
   have s:=λz=>Gv (xs:=st) (v:=i+1+mix z 9907 ((st.map D.int).length-i-1)) (by have:=eJ (c:=z) (p:=9907) (m:=(st.map D.int).length-i-1) (by lia);lia) (by have:=eL (c:=z) (p:=9907) (m:=(st.map D.int).length-i-1) (by lia);omega)
   have a0:=(A (c+7*0)).1
   have a1:=(A (c+7*(0+1))).1
   have a2:=(A (c+7*(0+1+1))).1
   have e0:=(s (c+7*0)).1
   have e1:=(s (c+7*(0+1))).1
   have e2:=(s (c+7*(0+1+1))).1
   refine⟨_,rfl,?_⟩
   have hex:kN c=if decide (0<mix c 9931 3)=true then 1 else 0:=by simp[kN]
   cases nB:decide (0<mix c 9931 3)
   all_goals
    simp only[nB,kY,if_false,if_true]at hex
    ac_nf
    refine VJ (VO (VP rfl (zo (by ac_nf) ?_)));refine(VY O B zB.1 (N:=T+1) ?_ ?_).imp ?_
    ·intro j hj
     match j,hj with
     | 0,_=>refine⟨_,cG,?_⟩;first | exact b _ _ (A _).2 | exact b _ _ (s _).2 | lia
     | 1,_=>refine⟨_,c5,?_⟩;first | exact b _ _ (A _).2 | exact b _ _ (s _).2
     | 2,_=>refine⟨_,at2,?_⟩;first | exact b _ _ (A _).2 | exact b _ _ (s _).2
    ·have he:=zw c
     have:cJ c m=1+fZ c*(m-2+gH c m)+kN c:=rfl
     lia
    rintro d ⟨I,rfl,g,hp2,q⟩
    have he:=zw c
    have hsI:cJ c m=1+fZ c*(m-2+gH c m)+kN c:=rfl
    refine⟨_,rfl,by rw[aJ];lia,(hR.rd g q).V5,?_⟩
    have hl1:((a++I.map Pl.toD).length:Int)=x+(1+fZ c*(m-2+gH c m)):=by rw[bQ,aJ];omega
    ac_nf
    first
     | exact⟨_,_,_,_,_,G,_,rfl,hR.rd g q,f,by lia⟩
     | refine VL rfl (small (by lia)) (VN (zo (by ac_nf) ((Gu (N:=T+1) (fu O) B (by omega) (b _ _ (A _).2)).imp ?_)))
     | refine VI (VM (zo (by ac_nf) ((Gu (N:=T+1) (by omega) B (b _ _ (s _).2) (b _ _ (s _).2)).imp ?_)))
    try
     rintro d ⟨p,rfl,C⟩
     first | refine⟨Ge p,?_⟩ | skip
     ac_nf
     first | exact⟨_,_,_,_,_,G,_,rfl,hR.Gw g q C.1 C.2,f,by rw[bQ];simp only[bR,gL];omega⟩ | exact⟨_,_,_,_,_,_,_,rfl,hR.Gw g q C.1 C.2,f,by rw[bQ];simp only[bR,gL];omega⟩
  ·rintro r ⟨t,a,o5,o6,o7,G,x,rfl,hR,w,U⟩
   rw[js,aJ]at w;rw[E,hT]at w;cases w
   ac_nf
   obtain⟨l,rfl,hO,hB⟩:=hR;rw[aJ]at U
   have hz:((l++[Pl.fin]).length:Int)=T+1:=by simp;omega
   exact⟨l++[.fin],by simp[aE,Pl.toD],⟨by lia,by lia,by simp,by lia,λp C=>by
    rw[hz];rcases bW.mp C with h | h
    ·exact hO p h
    ·cases br.mp h;trivial⟩,by lia,(hB.app (show BK 0 0 [Pl.fin] from⟨λu v=>by simp[sy],by simp[Pl.bt]⟩)).mono (by simp only[js,aJ];lia) (by simp only[js,aJ];lia)⟩
theorem V8{n:Nat}(hn:10<=n){m:Int}(a:m=2\/m=3\/m=4){cells:List Int}(b:cells.length<=3):∃ps:List Pl,Tab n .fA [.int m,.lst (cells.map .int)]=some (aE m ps)/\fX m ps/\ps.length<=40/\BK 12 42 ps:=by obtain⟨_,e,ps,h,k⟩:=V6 hn a b;exact⟨ps,h▸e,k⟩
theorem V9{n:Nat}(hn:11<=n)(ns:List Int){most:Int}(I:1<=most)(J:most<=3):∃(m:Int)(ps:List Pl),Tab n .fy [.aW ns,.int most]=some (aE m ps)/\fX m ps/\BK 12 42 ps:=by
 obtain⟨k,rfl,q⟩:=bI (c:=10) hn;obtain⟨b,g⟩:=u7 (n:=k) (fu q) (ns:=ns) (i:=0) (by lia)
 have h:=d_ (n:=k) (fu q) (c:=b) (p:=9973) (m:=3) (by decide) (by decide)
 have x:=eJ (c:=b) (p:=9973) (m:=3) (by decide)
 have y:=eL (c:=b) (p:=9973) (m:=3) (by decide)
 have j:=d_ (n:=k) (fu q) (c:=b) (p:=9967) (m:=most) (by decide) (by assumption)
 have b0:=eJ (c:=b) (p:=9967) (m:=most) (by assumption)
 have b1:=eL (c:=b) (p:=9967) (m:=most) (by assumption)
 generalize mix b 9973 3=u at h x y
 generalize mix b 9967 most=v at j b0 b1
 have cells:∀(t a:Nat)(o:Option D),∃cs:List Int,b6 (gN 0) (λ_=>some true) (au (Tab k .fm) (ag [aa 1,ab aM (cC (.int 1)) (aa 0)])) [o,some (.aW ns)] ((qC a t).map λ(i:Nat)=>D.int (0+(i:Int)))=some (cs.map .int)/\cs.length=t:=by
  intro t
  induction t with
  | zero=>intro a o;exact⟨[],rfl,rfl⟩
  | succ t z=>
   intro a o;obtain⟨cs,r,s⟩:=z (a+1) (some (.int (0+(a:Int))));obtain⟨c,A⟩:=u7 (n:=k) (fu q) (ns:=ns) (i:=1+(0+(a:Int))) (by lia);refine⟨c::cs,?_,by simp[s]⟩;rw[A0,a_,a_]
   simp! only[b6,gN,qB,bj,if_true,oH,oD,A,r,wg]
 obtain⟨cs,r,s⟩:=cells (1+v).toNat 0 none
 refine aP (V8 (n:=k) (by omega) (m:=2+u) (by lia) (cells:=cs) (by lia)) λps B C E=>?_
 refine⟨2+u,ps,?_,C,E.2⟩;rw[tab]
 have f:bY [none,some 0] (dD (ag [ab aM (cC (.int 1)) (au (Tab k .fo) (ag [au (Tab k .fm) (ag [aa 0,cC (.int 0)]),cC (.int 9967),aa 1]))])) (gN 0) (λ_=>some true) (au (Tab k .fm) (ag [aa 1,ab aM (cC (.int 1)) (aa 0)])) [some (.aW ns),some (.int most),some (.int (2+u))]=some (.lst (cs.map .int)):=by
  refine fU (ds:=b7 0 (1+v).toNat) ?_ (small (by simp[b7];lia)) ?_
  ·simp! only[oH,oD,bj,g,j]
   exact u3 (by lia) (by lia)
  ·have e:b7 0 (1+v).toNat=(qC 0 (1+v).toNat).map λ(i:Nat)=>D.int (0+(i:Int)):=by
    unfold b7;rw[A1]
   rw[e];exact r
 have G:uX (Tab k) [some (.aW ns),some (.int most),none]=some (.ret (aE (2+u) ps)):=by
  unfold uX
  rw[eT (ρ':=[some (.aW ns),some (.int most),some (.int (2+u))]) (by
   rw[nR (d:=.int (2+u)) (by simp! only[oH,oD,bj,g,h])]
   rfl)]
  refine lJ ?_;unfold au
  have H:ag [aa 2,bY [none,some 0] (dD (ag [ab aM (cC (.int 1)) (au (Tab k .fo) (ag [au (Tab k .fm) (ag [aa 0,cC (.int 0)]),cC (.int 9967),aa 1]))])) (gN 0) (λ_=>some true) (au (Tab k .fm) (ag [aa 1,ab aM (cC (.int 1)) (aa 0)]))] [some (.aW ns),some (.int most),some (.int (2+u))]=some [.int (2+u),.lst (cs.map .int)]:=by
   rw[rm,rm,f]
   rfl
  have w:=H
  unfold au at w;rw[w,bj,B]
 simp only[body,cI,iW,bR,gL,if_true,a_,qt]
 show(uX (Tab k) [some (.aW ns),some (.int most),none]).bind _=_
 rw[G]
 rfl
end PM
namespace PM
section
variable {nx:Int->List Int}{fn:Int->Bool}
variable {p:Int}{L:List (Int × Nat)}{l:Nat}{a:Int × Nat}{ys:List Int}{y:Int}
end
end PM
namespace PM
open PySem L2 DL PT
def mH(ps:List Pl)(i:Int):List Int:=(ax ps i).bt.map (·.2.2)
noncomputable def Pl.iQ:Pl->Bool
 | .fin=>false
 | .say _ _ _=>true
def CW(N:Int)(c:Ch):Prop:=fV N c
structure GW(ps:List Pl):Prop where
 n1:1<=ps.length
 n2:ps.length<=130
 ok:∀p∈ps,p.bt.length<=5/\∀c∈p.bt,CW ps.length c
theorem n4{m:Int}(h:G2 m ps):GW ps:=⟨h.2.2.1,h.2.2.2.1,λp d=>by
 have:=h.2.2.2.2 p d
 cases p with
 | fin=>exact⟨ef _,λc e=>by cases e⟩
 | say a b cs=>exact⟨this.2.2.2.2.2.2.1,this.2.2.2.2.2.2.2.1⟩⟩
theorem p6{ps:List Pl}(h:GW ps)(i:Int):(ax ps i).bt.length<=5/\∀c∈(ax ps i).bt,CW ps.length c:=by
 cases e:ps[i.toNat]? with
 | none=>rw[show ax ps i=.fin by simp[ax,e]];exact⟨ef _,λc a=>by cases a⟩
 | some p=>rw[show ax ps i=p by simp[ax,e]];exact h.ok p (ee e)
theorem Gx{ps:List Pl}(h:GW ps)(i:Int):∀y∈mH ps i,0<=y/\y<ps.length:=λy a=>by
 obtain⟨c,b,rfl⟩:=aO.mp a;exact((p6 h i).2 c b).2.2.2
theorem zC{i:Nat}{r:ar}(k:Q (.aF (r.set i (some (.ow (some []) []))))):Ev (pG i pF r) Q:=⟨_,by simp[pG,pF],k⟩
theorem Gy(p:Pl):a7 64 p.toD (.tup [.str "end"])=some (.bl (match p with | .fin=>true | .say _ _ _=>false)):=FK p
theorem V_(p:Pl):dt 64 p.toD (.tup [.str "end"])=some (.bl p.iQ):=by
 have h:=Gy p
 unfold a7 at h;unfold dt;rw[bC]at h ⊢;obtain⟨b,a,c⟩:=h;refine⟨b,a,?_⟩
 cases p<;>cases c<;>rfl
theorem zD:∀{ks:List Key}{ds:List D},ks.length=ds.length->((atK ks ds j).isSome=true↔j∈ks)
 | [],[],_=>by simp[atK]
 | k::ks,d::ds,h=>by
  show((if k=j then some d else atK ks ds j).isSome=true)↔_
  by_cases e:k=j
  ·rw[if_pos e];simp[e]
  ·rw[if_neg e,zD (by simpa using h),a9]
   exact⟨.inr,λz=>z.resolve_left λq=>e q.symm⟩
theorem zE:∀{ks:List Key}{ds:List D},j∉ks->ks.length=ds.length->fT ks j=ks++[j]/\DL.gk ks ds j d=ds++[d]
 | [],[],_,_=>⟨rfl,rfl⟩
 | k::ks,x::ds,a,h=>by
  have e:¬k=j:=λq=>a (by rw[q];exact bg)
  obtain⟨b,c⟩:=zE (d:=d) (ks:=ks) (ds:=ds) (λq=>a (bV _ q)) (by simpa using h);exact⟨by rw[fT,if_neg e,b];rfl,by rw[DL.gk,if_neg e,c];rfl⟩
noncomputable def kI(x:Int):Key:=.inl x
theorem vl:∀K:Kd,eR K.toD=true
 | .none=>rfl
 | .num _ _=>rfl
 | .name ns=>by
  have:∀l:List Str,gT (l.map D.str)=true:=λl=>by induction l with
   | nil=>rfl
   | cons x l c=>simp[gT,eR,c]
  simp[Kd.toD,eR,gT,this]
 | .pair a b=>by simp[Kd.toD,eR,gT,vl a,vl b]
 | .row a m=>by simp[Kd.toD,eR,gT,vl a]
theorem Gz{b:Type}{f:b->D}(h:∀a,eR (f a)=true):∀l:List b,gT (l.map f)=true
 | []=>rfl
 | a::l=>by simp[gT,h a,Gz h l]
theorem vm{xs:List D}{lo a:Option Int}:mn (.tup xs) lo a=some (.tup (bH xs lo a)):=by
 show(if HT.aV xs.length 0 lo=0/\HT.aV xs.length xs.length a=xs.length then some (D.tup xs)else some (D.tup (bH xs lo a)))=_
 simp_all[bH]
theorem Wa{a:Type}{xs:List a}{i:Int}(b:0<=i)(h:i<xs.length):bH xs none (some i)=xs.take i.toNat:=by
 unfold bH
 show(xs.drop 0).take ((if i<0 then _ else min i.toNat xs.length)-0)=_
 grind
theorem Wb{a:Type}{xs:List a}{i:Int}(b:0<=i)(h:i<=xs.length):bH xs (some i) none=xs.drop i.toNat:=by
 unfold bH
 show(xs.drop (if i<0 then _ else min i.toNat xs.length)).take (xs.length-(if i<0 then _ else min i.toNat xs.length))=_
 simp_all[if_neg,min,Z3,Ac,a5]
theorem Wc{a:Type}{ys:List a}{y:a}:bH (ys++[y]) none (some (-1))=ys:=by
 unfold bH
 show((ys++[y]).drop 0).take (((-1:Int)+((ys++[y]).length:Int)).toNat-0)=_
 rw[show((-1:Int)+((ys++[y]).length:Int)).toNat-0=ys.length by simp;lia]
 simp
theorem Wd{a:Type}{ys:List a}{y:a}:bH (ys++[y]) (some (-1)) none=[y]:=by
 unfold bH
 show((ys++[y]).drop ((-1:Int)+((ys++[y]).length:Int)).toNat).take ((ys++[y]).length-((-1:Int)+((ys++[y]).length:Int)).toNat)=_
 rw[show((-1:Int)+((ys++[y]).length:Int)).toNat=ys.length by simp;lia]
 simp
theorem GA:∀{w:List Nat},1<=w.length->w.length<=3->(∀c∈w,c<=122)->¬w.take 2++[122]<w
 | [a],_,_,_=>by simp
 | [a,b],_,_,_=>by simp
 | [a,b,c],_,_,h=>by
  simp_all[List.cons_lt_cons_iff]
theorem We:("z":Str).cps.toList=[122]:=by decide
def jQ(w:Str):Str:=⟨(bH w.cps.toList none (some 2)).toArray⟩++"z"
theorem vn{w:Str}:(jQ w).cps.toList=w.cps.toList.take 2++[122]:=by
 have:bH w.cps.toList none (some 2)=w.cps.toList.take 2:=by
  unfold bH
  show(w.cps.toList.drop 0).take (min 2 w.cps.toList.length-0)=_
  rw[Y4,Nat.sub_zero,List.take_eq_take_iff]
  lia
 show(((bH w.cps.toList none (some 2)).toArray)++("z":Str).cps).toList=_
 rw[Array.toList_append,this,We]
theorem Wf{w:Str}(h:gU (.str w)=true):gU (.str (jQ w))=true:=by
 simp only[gU,bB,decide_eq_true_eq,ja]at h ⊢
 have b:(jQ w).length=(w.cps.toList.take 2++[122]).length:=by rw[<-vn];rfl
 refine⟨(by grind),λc a=>?_⟩;rw[vn]at a;rcases bW.mp a with q | q
 ·grind
 ·rw[br.mp q];decide
theorem Wg{w:Str}(h:gU (.str w)=true){v:Str}(a:bc v w=true):v≠jQ w:=λe=>by
 subst e;simp only[gU,bB,decide_eq_true_eq,ja]at h
 have a:(jQ w).cps.toList<w.cps.toList:=of_decide_eq_true a
 rw[vn]at a;exact GA (by rw[mQ];exact h.1.1) (by rw[mQ];exact h.1.2) (λc b=>by have:=h.2 c b;simp[mB]at this;exact this.2) a
theorem Wh{w:Str}(h:gU (.str w)=true){v:Str}(a:bc v w=true):bc v (jQ w)=true:=by
 rcases ph v (jQ w)with q | q | q
 ·exact q
 ·exact(Wg h a q).elim
 ·have a:(jQ w).cps.toList<w.cps.toList:=of_decide_eq_true (ml q a)
  rw[vn]at a;simp only[gU,bB,decide_eq_true_eq,ja]at h;exact(GA (by rw[mQ];exact h.1.1) (by rw[mQ];exact h.1.2) (λc b=>by have:=h.2 c b;simp[mB]at this;exact this.2) a).elim
theorem Wi{ps:List Pl}{k w i:Nat}{p c:Pl}(f:BK k w ps)(g:ps[i]?=some p)(j:c.bt.length<=p.bt.length+1):BK (k+1) (w+1) (ps.take i++[c]++ps.drop (i+1)):=by
 obtain⟨h,e⟩:=cA.mp g
 have a:ps=ps.take i++([p]++ps.drop (i+1)):=by
  conv=>lhs;rw[<-Jj i ps,Ap h,e]
  rfl
 obtain⟨b,d⟩:=f;rw[a]at d;refine⟨λu v=>?_,?_⟩
 ·have b:=b u v
  rw[a]at b;simp only[Z7]at b ⊢
  have:=A4 (p:=sy u v) (l:=[c])
  simp only[IF]at this
  lia
 ·simp only[A3,bQ,qD,Zb_,gv]at d ⊢
  lia
theorem Wj{n:Nat}(hn:2<=n){m:Int}{ps:List Pl}(u:fX m ps){bk bw:Nat}(hB:BK bk bw ps)(c:Int):∃q,Tab n .fC [aE m ps,.int c]=some (aE m q)/\fX m q/\BK (bk+1) (bw+1) q/\q.length=ps.length:=by
 obtain⟨k,rfl,hk⟩:=bI (c:=1) hn
 have hW:=n4 (rQ u)
 have Wl:=u.2.2.2.1
 have hN:=hW.n1
 suffices h:Ev (Tab (k+1) .fC [aE m ps,.int c]) λd=>∃q,d=aE m q/\fX m q/\BK (bk+1) (bw+1) q/\q.length=ps.length from by obtain⟨_,e,q,h,k⟩:=h;exact⟨q,h▸e,k⟩
 rw[tab];refine i6 (np:=2) (n:=11) (gb:=yU (Tab k)) ?_;unfold yU
 have J:0<m:=by have:=u.1;lia
 have hL:cV [.tup (ps.map Pl.toD)]=some (.int (ps.length:Nat)):=by show some (D.int ((ps.map Pl.toD).length:Nat))=_;rw[aJ]
 have mx:∀p:Int,0<p->Tab k .fo [.int c,.int p,.int (ps.length:Nat)]=some (.int (mix c p (ps.length:Nat)))/\0<=mix c p (ps.length:Nat)/\mix c p (ps.length:Nat)<ps.length:=λp hp=>⟨d_ hk hp (by lia),eJ (by lia),eL (by lia)⟩
 obtain⟨e1,L,M⟩:=mx 9857 (by decide);obtain⟨e2,b0,b1⟩:=mx 9851 (by decide);obtain⟨e3,d0,d1⟩:=mx 9833 (by decide)
 have e4:=d_ hk (c:=c) (p:=9839) (m:=6) (by decide) (by decide)
 have f0:=eJ (c:=c) (p:=9839) (m:=6) (by decide)
 have f1:=eL (c:=c) (p:=9839) (m:=6) (by decide)
 generalize mix c 9857 (ps.length:Nat)=i at e1 L M
 generalize mix c 9851 (ps.length:Nat)=af at e2 b0 b1
 generalize mix c 9833 (ps.length:Nat)=fr at e3 d0 d1
 generalize mix c 9839 6=H at e4 f0 f1
 have rZ:=jx (m:=m) L M
 have N:ax ps i∈ps:=ee (rR L M)
 refine aZ (zm rfl rfl (aU (aZ (dn (cT (aS (aj rfl (aj rfl (aj (aS (aj rfl rfl) hL) rfl))) e1)) (aU (aZ (dn (cT (aq rfl rfl (aT rZ))) (aU (aZ ?_)))))))));refine Ev.imp (P:=λo=>∃(a b:Int)(cs:List Ch)(E:Option SD),o=.aF [some (.ai (aE m ps)),some (.ai (.int c)),some (.ai (.int m)),some (.ai (.tup (ps.map Pl.toD))),some (.ai (.int i)),some (.ai (Pl.say a b cs).toD),E,none,none,none,none]/\(Pl.say a b cs).OK m ps.length/\cs.length<=(ax ps i).bt.length+1) ?_ ?_
 ·refine da (aN (aq rfl (ba (aj rfl rfl)) (Gy _))) ?_
  cases hp:ax ps i with
  | fin=>
   refine eW rfl (aZ (dn (cT (aS (aj rfl (aj rfl (aj (aS (aj rfl rfl) hL) rfl))) e2)) (aU (dn (cT (ba (aj rfl (aj (aq rfl rfl (gF J)) (aj (aq (aq rfl rfl rfl) rfl (gF J)) (aj (ba (aj (ba (aj rfl (aj (ba (aj rfl rfl)) (aj rfl rfl)))) rfl)) rfl)))))) ?_))));refine⟨c%m,(c+1)%m,[("z",.none,af)],_,rfl,?_,by simp[hp,Pl.bt]⟩
   have hmm:=u.1
   have hm4:=u.2.1
   have I:m=2\/m=3\/m=4:=by lia
   refine⟨by rcases I with rfl | rfl | rfl<;>lia,by rcases I with rfl | rfl | rfl<;>lia,by rcases I with rfl | rfl | rfl<;>lia,by rcases I with rfl | rfl | rfl<;>lia,by rcases I with rfl | rfl | rfl<;>lia,by simp,by simp,λx G=>?_,rfl⟩;rw[br.mp G];exact⟨show gU (.str "z")=true by decide,trivial,ef _,b0,b1⟩
  | say a b cs=>
   have:=u.2.2.2.2 _ N
   rw[hp]at this;exact dX rfl (d5 ⟨a,b,cs,_,rfl,this,by simp[hp,Pl.bt]⟩)
 rintro _ ⟨a,b,cs,E,rfl,⟨q1,q2,q3,q4,q5,l1,h5,O,t⟩,Q⟩
 obtain⟨cs',j,rfl⟩:∃cs' j,cs=cs'++[j]:=⟨cs.dropLast,cs.getLast (λe=>by rw[e]at l1;cases l1),(Ji _).symm⟩;rw[bQ]at h5;simp only[bR,gL]at h5
 have r:=O j (by simp)
 have T:∀x∈cs',fV ps.length x:=λx G=>O x (by simp[G])
 have hnd:=FG t
 have U:∀v∈cs'.map (·.1),bc v j.1=true:=λv hv=>by
  have:=pU t
  rw[cU,Jk]at this;exact this.2.2 v hv j.1 (by simp)
 have fin:∀(s:Pl)(E o7 o8 o9 A:Option SD),s.OK m ps.length->s.bt.length<=(ax ps i).bt.length+1->Ev (dW (aD (ag [aa 2,ab aM (ab il (iX (aa 3) d8 (c8 (aa 4))) (aD (ag [aa 5]))) (iX (aa 3) (c8 (ab aM (aa 4) (cC (.int 1)))) d8)])) [some (.ai (aE m ps)),some (.ai (.int c)),some (.ai (.int m)),some (.ai (.tup (ps.map Pl.toD))),some (.ai (.int i)),some (.ai s.toD),E,o7,o8,o9,A]) (kR λd=>∃q,d=aE m q/\fX m q/\BK (bk+1) (bw+1) q/\q.length=ps.length):=λs E o7 o8 o9 A g1 gc=>by
  have s1:mn (.tup (ps.map Pl.toD)) none (some i)=some (.tup ((ps.take i.toNat).map Pl.toD)):=by rw[vm,Wa L (by simpa using M),IL]
  have s2:mn (.tup (ps.map Pl.toD)) (some (i+1)) none=some (.tup ((ps.drop (i+1).toNat).map Pl.toD)):=by rw[vm,Wb (by lia) (by simp;assumption),Y2]
  have s3:il (.tup ((ps.take i.toNat).map Pl.toD)) (.tup [s.toD])=some (.tup ((ps.take i.toNat++[s]).map Pl.toD)):=by rw[zc (by simp;omega),cU];rfl
  have s4:aM (.tup ((ps.take i.toNat++[s]).map Pl.toD)) (.tup ((ps.drop (i+1).toNat).map Pl.toD))=some (.tup ((ps.take i.toNat++[s]++ps.drop (i+1).toNat).map Pl.toD)):=by rw[vb (by simp) (by simp;omega),<-cU]
  have hl:(ps.take i.toNat++[s]++ps.drop (i+1).toNat).length=ps.length:=by simp;lia
  refine jy (ba (aj rfl (aj (aq (aq (nY rfl rfl (iw rfl) s1) (ba (aj rfl rfl)) s3) (nY rfl (iw (aq rfl rfl rfl)) rfl s2) s4) rfl))) (i5 ⟨_,rfl,⟨u.1,u.2.1,by rw[hl];exact hN,by rw[hl];exact Wl,λp hp=>?_⟩,?_,hl⟩)
  ·rw[hl]
   rcases bW.mp hp with hp | hp
   ·rcases bW.mp hp with hp | hp
    ·exact u.2.2.2.2 p (Z1 hp)
    ·rw[br.mp hp];exact g1
   ·exact u.2.2.2.2 p (Z2 hp)
  ·rw[show(i+1).toNat=i.toNat+1 by lia]
   exact Wi hB (rR L M) gc
 have fin2:=λs E o7 o8 o9 A (g:Pl.OK m ps.length s/\s.bt.length<=(ax ps i).bt.length+1)=>fin s E o7 o8 o9 A g.1 g.2
 have F1:nq (.tup [.str "say",.int a,.int b,.tup ((cs'++[j]).map aI)]) none (some 3)=some (.tup [.str "say",.int a,.int b]):=rfl
 have F3:bA ((cs'++[j]).map aI) (-1)=some (aI j):=by rw[cU];exact Gn (cs'.map aI) (aI j)
 have F4:mn (.tup ((cs'++[j]).map aI)) none (some (-1))=some (.tup (cs'.map aI)):=by rw[vm,cU];exact congrArg (λl=>some (D.tup l)) Wc
 have F5:∀x:Ch,il (.tup (cs'.map aI)) (.tup [aI x])=some (.tup ((cs'++[x]).map aI)):=λx=>by rw[zc (by simp;lia),cU];rfl
 have F6:∀l:List Ch,aM (.tup [.str "say",.int a,.int b]) (.tup [.tup (l.map aI)])=some (Pl.say a b l).toD:=λl=>vb (AY _ _) (by simp)
 have F7:mn (.tup ((cs'++[j]).map aI)) (some (-1)) none=some (.tup [aI j]):=by rw[vm,cU];exact congrArg (λl=>some (D.tup l)) Wd
 have Y:cs'.length+1<=(ax ps i).bt.length+1:=by simpa using Q
 have g5:∀x:Ch,fV ps.length x->x.1=j.1\/x.1=jQ j.1->(Pl.say a b (cs'++[x])).OK m ps.length/\(Pl.say a b (cs'++[x])).bt.length<=(ax ps i).bt.length+1:=λx G hw=>by
  refine⟨⟨q1,q2,q3,q4,q5,by simp,by simp;lia,λy hy=>?_,?_⟩,by simpa [Pl.bt]using Y⟩
  ·rcases bW.mp hy with h | h
   ·exact T y h
   ·rw[br.mp h];exact G
  ·have hp:=pU t
   rw[cU,Jk]at hp;refine FE ?_;rw[cU,Jk];refine⟨hp.1,by simp,λv hv w Wm=>?_⟩
   have ew:w=x.1:=by simpa using Wm
   rw[ew];rcases hw with h | h
   ·rw[h];exact U v hv
   ·rw[h];exact Wh r.1 (U v hv)
 refine aU (aZ (dn (cT (aS (aj rfl (aj rfl (aj rfl rfl))) e4)) (aU (aZ (zm (cT (aq (aq rfl rfl (aT gW)) rfl (aT F3))) rfl (aU ?_))))))
 have ht:H=0\/H=1\/H=2\/H=3\/H=4\/H=5:=by lia
 rcases ht with rfl | rfl | rfl | rfl | rfl | rfl
 ·refine aZ (da (aN (aq rfl rfl eq_int)) (eW rfl (aZ (dn (cT (aS (aj rfl (aj rfl (aj (aS (aj rfl rfl) hL) rfl))) e3)) (aU (dn (cT (aq (mF rfl rfl (iw rfl) F1) (ba (aj (aq (nY (aq rfl rfl (aT gW)) rfl (iw rfl) F4) (ba (aj (ba (aj rfl (aj rfl (aj rfl rfl)))) rfl)) (F5 (j.1,j.2.1,fr))) rfl)) (F6 _))) (aU ?_)))))))
  iterate 5 refine aZ (da (aN (aq rfl rfl eq_int)) (dX rfl (d5 (aU ?_))))
  exact fin2 _ _ _ _ _ _ (g5 (j.1,j.2.1,fr) ⟨r.1,r.2.1,r.2.2.1,d0,d1⟩ (.inl rfl))
 ·refine aZ (da (aN (aq rfl rfl eq_int)) (dX rfl (d5 (aU ?_))))
  refine aZ (da (aN (aq rfl rfl eq_int)) (eW rfl (dn (cT (ba (aj rfl (aj (aq rfl rfl (aT at2)) (aj (aq rfl rfl (aT c5)) (aj (aq rfl rfl (aT gW)) rfl)))))) (aU ?_))))
  iterate 4 refine aZ (da (aN (aq rfl rfl eq_int)) (dX rfl (d5 (aU ?_))))
  exact fin2 (.say b a (cs'++[j])) _ _ _ _ _ (by obtain⟨⟨a,b,c,d,e,f⟩,g⟩:=g5 j r (.inl rfl);exact⟨⟨c,d,a,b,cn e,f⟩,g⟩)
 ·iterate 2 refine aZ (da (aN (aq rfl rfl eq_int)) (dX rfl (d5 (aU ?_))))
  have hl3:(⟨(bH j.1.cps.toList none (some 2)).toArray⟩:Str).length<=3:=by
   show(bH j.1.cps.toList none (some 2)).toArray.size<=3
   have:=xP j.1.cps.toList none (some 2)
   have I:j.1.cps.size<=3:=by
    have:=r.1
    simp only[gU,bB,decide_eq_true_eq]at this;exact this.1.2
   simp at this ⊢
   lia
  have hz:("z":Str).length=1:=by decide
  have Wn:=y8 (x:=⟨(bH j.1.cps.toList none (some 2)).toArray⟩) (y:="z") (by lia)
  refine aZ (da (aN (aq rfl rfl eq_int)) (eW rfl (dn (cT (aq (mF rfl rfl (iw rfl) F1) (ba (aj (aq (nY (aq rfl rfl (aT gW)) rfl (iw rfl) F4) (ba (aj (ba (aj (aq (mF rfl rfl (iw rfl) rfl) rfl Wn) (aj rfl (aj rfl rfl)))) rfl)) (F5 ((⟨(bH j.1.cps.toList none (some 2)).toArray⟩:Str)++"z",j.2.1,j.2.2))) rfl)) (F6 _))) (aU ?_))))
  iterate 3 refine aZ (da (aN (aq rfl rfl eq_int)) (dX rfl (d5 (aU ?_))))
  exact fin2 (.say a b (cs'++[(jQ j.1,j.2.1,j.2.2)])) _ _ _ _ _ (g5 (jQ j.1,j.2.1,j.2.2) ⟨Wf r.1,r.2⟩ (.inr rfl))
 ·iterate 3 refine aZ (da (aN (aq rfl rfl eq_int)) (dX rfl (d5 (aU ?_))))
  refine aZ (da (aN (aq rfl rfl eq_int)) (eW rfl (dn (cT (aq (mF rfl rfl (iw rfl) F1) (ba (aj (nY (aq rfl rfl (aT gW)) (iw rfl) rfl F7) rfl)) (F6 [j]))) (aU ?_))))
  iterate 2 refine aZ (da (aN (aq rfl rfl eq_int)) (dX rfl (d5 (aU ?_))))
  exact fin (.say a b [j]) _ _ _ _ _ ⟨q1,q2,q3,q4,q5,by simp,by simp,λx G=>by rw[br.mp G];exact r,rfl⟩ (by simp[Pl.bt])
 ·iterate 4 refine aZ (da (aN (aq rfl rfl eq_int)) (dX rfl (d5 (aU ?_))))
  refine aZ (da (aN (aq rfl rfl eq_int)) (eW rfl (dn (cT (ba (aj rfl rfl))) (aU ?_))));refine aZ (da (aN (aq rfl rfl eq_int)) (dX rfl (d5 (aU ?_))));exact fin .fin _ _ _ _ _ trivial (by simp[Pl.bt])
 ·have B:ej (.int c) (.int 9)=some (.int (c%9)):=gF (by decide)
  have GC:=F5 (j.1,.num 0 (c%9),j.2.2)
  iterate 5 refine aZ (da (aN (aq rfl rfl eq_int)) (dX rfl (d5 (aU ?_))))
  have hw:(0:Int)<=c%9/\(-1000000:Int)<=0/\c%9<=1000000:=by lia
  have C:=fin2 (.say a b (cs'++[(j.1,.num 0 (c%9),j.2.2)])) (some (.ai (.int j.2.2))) (some (.ai (.int 5))) (some (.ai (.str j.1))) (some (.ai j.2.1.toD)) none (g5 (j.1,.num 0 (c%9),j.2.2) ⟨r.1,hw,ef _,r.2.2.2⟩ (.inl rfl))
  have GD:=F6 (cs'++[(j.1,.num 0 (c%9),j.2.2)])
  generalize c%9=z at B GC GD C
  refine aZ (da (aN (aq rfl rfl eq_int)) (eW rfl (dn (cT (aq (mF rfl rfl (iw rfl) F1) (ba (aj (aq (nY (aq rfl rfl (aT gW)) rfl (iw rfl) F4) (ba (aj (ba (aj rfl (aj (ba (aj rfl (aj rfl (aj (aq rfl rfl B) rfl)))) (aj rfl rfl)))) rfl)) GC) rfl)) GD)) (aU C))))
end PM
namespace PM
section
variable {α:Type}{nx:Int->List (α × Int)}{tu ah:Int->Bool}{ev:Int->Int->Bool}
def Sc(nx:Int->List (α × Int))(x y:Int):Prop:=∃w,(w,y)∈nx x
inductive Ah(nx:Int->List (α × Int))(tu:Int->Bool):Int->Prop
 | t {x:Int} (h:tu x=true):Ah nx tu x
 | s {x y:Int} (h:Sc nx x y) (k:Ah nx tu y):Ah nx tu x
inductive Cs(nx:Int->List (α × Int))(tu:Int->Bool)(p:Int):Int->Int->Prop
 | z:Cs nx tu p p p
 | l {x y x':Int} (h:Cs nx tu p x y) (a:Ah nx tu y) (b:Ah nx tu x) (n:tu x=false) (s:Sc nx x x'):Cs nx tu p x' y
 | r {x y y':Int} (h:Cs nx tu p x y) (a:Ah nx tu y) (n:tu x=true\/¬Ah nx tu x) (m:tu y=false) (s:Sc nx y y'):Cs nx tu p x y'
 | b {x y x' y':Int} {w:α} (h:Cs nx tu p x y) (n:tu x=true) (m:tu y=true) (s:(w,x')∈nx x) (t:(w,y')∈nx y):Cs nx tu p x' y'
inductive Sy(nx:Int->List (α × Int))(tu:Int->Bool)(p:Int):Int->Int->Prop
 | z:Sy nx tu p p p
 | l {x y x':Int} (h:Sy nx tu p x y) (n:tu x=false) (s:Sc nx x x'):Sy nx tu p x' y
 | r {x y y':Int} (h:Sy nx tu p x y) (m:tu y=false) (s:Sc nx y y'):Sy nx tu p x y'
 | b {x y x' y':Int} {w:α} (h:Sy nx tu p x y) (n:tu x=true) (m:tu y=true) (s:(w,x')∈nx x) (t:(w,y')∈nx y):Sy nx tu p x' y'
inductive Ep(nx:Int->List (α × Int))(tu:Int->Bool)(x:Int):Int->Prop
 | z:Ep nx tu x x
 | s {y z:Int} (h:Ep nx tu x y) (n:tu y=false) (s:Sc nx y z):Ep nx tu x z
def Ft(nx:Int->List (α × Int))(tu:Int->Bool)(ev:Int->Int->Bool)(x y:Int):Prop:=tu y=true/\(¬Ah nx tu x\/tu x=true/\ev x y=false)
theorem zF{x y:Int}(h:Ep nx tu x y)(a:Ah nx tu y):Ah nx tu x:=by
 induction h with
 | z=>exact a
 | s _ _ s b=>exact b (.s s a)
theorem zG{p x y z:Int}(c:Cs nx tu p x y)(a:Ah nx tu y)(e:Ep nx tu x z)(b:Ah nx tu z):Cs nx tu p z y:=by
 induction e with
 | z=>exact c
 | s e n s d=>exact .l (d (.s s b)) a (.s s b) n s
theorem zH{p x y z:Int}(c:Cs nx tu p x y)(n:tu x=true\/¬Ah nx tu x)(e:Ep nx tu y z)(b:Ah nx tu z):Cs nx tu p x z:=by
 induction e with
 | z=>exact c
 | s e m s a=>exact .r (a (.s s b)) (.s s b) n m s
theorem Wo{p x y z:Int}(c:Cs nx tu p x y)(a:Ah nx tu y)(e:Ep nx tu x z)(b:¬Ah nx tu z):∃d,Cs nx tu p d y/\¬Ah nx tu d:=by
 induction e with
 | z=>exact⟨_,c,b⟩
 | @s u v e n s f=>
  by_cases h:Ah nx tu u
  ·exact⟨v,.l (zG c a e h) a h n s,b⟩
  ·exact f h
theorem Wq{p:Int}(hn:∀x y,Cs nx tu p x y->¬Ft nx tu ev x y){x y:Int}(h:Sy nx tu p x y):∃e f,Cs nx tu p e f/\Ep nx tu e x/\Ep nx tu f y:=by
 induction h with
 | z=>exact⟨p,p,.z,.z,.z⟩
 | l _ n s d=>refine cM d λe f c a b=>?_;clear d;exact⟨e,f,c,.s a n s,b⟩
 | r _ m s d=>refine cM d λe f c a b=>?_;clear d;exact⟨e,f,c,a,.s b m s⟩
 | b _ n m s t d=>
  refine cM d λe f c a b=>?_;clear d
  have g:=zG c (zF b (.t m)) a (.t n)
  exact⟨_,_,.b (zH g (.inl n) b (.t m)) n m s t,.z,.z⟩
theorem Wr{p:Int}(hn:∀x y,Cs nx tu p x y->¬Ft nx tu ev x y){x y:Int}(h:Sy nx tu p x y):¬Ft nx tu ev x y:=by
 rintro⟨m,f⟩
 refine cM (Wq hn h) λe g c a b=>?_
 rcases f with f | ⟨n,f⟩
 ·obtain⟨z,d,k⟩:=Wo c (zF b (.t m)) a f
  exact hn z y (zH d (.inr k) b (.t m)) ⟨m,.inl k⟩
 ·exact hn x y (zH (zG c (zF b (.t m)) a (.t n)) (.inl n) b (.t m)) ⟨m,.inr ⟨n,f⟩⟩
theorem Ws{p q x y:Int}(h:Sy nx tu p q q)(c:Cs nx tu q x y):Sy nx tu p x y:=by
 induction c with
 | z=>exact h
 | l _ _ _ n s a=>exact .l a n s
 | r _ _ _ m s a=>exact .r a m s
 | b _ n m s t a=>exact .b a n m s t
end
end PM
namespace PM
open PySem L2 DL PT
def aX(ps:List Pl)(i:Int):List (Str × Int):=(ax ps i).bt.map λc=>(c.1,c.2.2)
def aA(ps:List Pl)(h:Int)(i:Int):Bool:=match ax ps i with
 | .say a b _=>a==h||b==h
 | .fin=>false
noncomputable def iz(w:Str):List (Str × Int)->Option Int
 | []=>none
 | c::cs=>match iz w cs with
  | some y=>some y
  | none=>if c.1=w then some c.2 else none
theorem p7{y:Int}:∀{cs:List (Str × Int)},iz w cs=some y->(w,y)∈cs
 | c::cs,h=>by
  unfold iz at h
  cases e:iz w cs with
  | some z=>rw[e]at h;cases h;exact bV _ (p7 e)
  | none=>
   rw[e]at h;simp only at h
   split at h
   ·rename_i q;cases h;rw[<-q];exact bg
   ·cases h
theorem GG{y:Int}:∀{cs:List (Str × Int)},(cs.map (·.1)).Nodup->(w,y)∈cs->iz w cs=some y
 | c::cs,hn,h=>by
  rw[a_,g8]at hn;unfold iz;rcases a9.mp h with e | e
  ·subst e
   cases q:iz w cs with
   | some z=>exact(hn.1 (aO.mpr ⟨_,p7 q,rfl⟩)).elim
   | none=>simp
  ·rw[GG hn.2 e]
def i8(ps:List Pl)(h:Int)(ah:Int->Bool)(x y:Int):List (Int × Int):=
 if ah y=false then []
 else if ah x=true/\aA ps h x=false then(aX ps x).map λc=>(c.2,y)
 else if aA ps h y=false then(aX ps y).map λc=>(x,c.2)
 else(aX ps x).filterMap λc=>(iz c.1 (aX ps y)).map λz=>(c.2,z)
section
variable {ps:List Pl}{h:Int}{ah:Int->Bool}{ev:Int->Int->Bool}{p:Int}
structure PL(ps:List Pl)(h:Int)(ah:Int->Bool)(p:Int)(L:List (Int × Int)):Prop where
 hd:(p,p)∈L
 rc:∀a∈L,Cs (aX ps) (aA ps h) p a.1 a.2
 cl:∀a∈L,∀b∈i8 ps h ah a.1 a.2,b∈L
theorem Wt(j:∀x,ah x=true↔Ah (aX ps) (aA ps h) x){x y:Int}(c:Cs (aX ps) (aA ps h) p x y)(s:¬Ft (aX ps) (aA ps h) ev x y):∀b∈i8 ps h ah x y,Cs (aX ps) (aA ps h) p b.1 b.2:=λb a=>by
 unfold i8 at a
 split at a
 ·cases a
 rename_i t
 have m:Ah (aX ps) (aA ps h) y:=(j y).mp (by simpa using t)
 split at a
 ·rename_i i
  obtain⟨f,g,rfl⟩:=aO.mp a;exact .l c m ((j x).mp i.1) i.2 ⟨f.1,g⟩
 rename_i i
 have n:aA ps h x=true\/¬Ah (aX ps) (aA ps h) x:=by
  cases q:aA ps h x with
  | true=>exact .inl rfl
  | false=>exact .inr λz=>i ⟨(j x).mpr z,q⟩
 split at a
 ·rename_i d
  obtain⟨f,g,rfl⟩:=aO.mp a;exact .r c m n d ⟨f.1,g⟩
 ·rename_i d
  have d:aA ps h y=true:=by simpa using d
  obtain⟨f,g,e⟩:=qi.mp a;obtain⟨z,hz,rfl⟩:=bC.mp e
  have u:aA ps h x=true:=n.resolve_right λz=>s ⟨d,.inl z⟩
  exact .b (w:=f.1) c u d g (p7 hz)
theorem Wu(d:∀x,ah x=true↔Ah (aX ps) (aA ps h) x)(hw:∀i,((aX ps i).map (·.1)).Nodup)(P:PL ps h ah p L){x y:Int}(c:Cs (aX ps) (aA ps h) p x y):(x,y)∈L:=by
 induction c with
 | z=>exact P.hd
 | @l x y g _ a b n s e=>
  obtain⟨w,s⟩:=s;refine P.cl _ e _ ?_;unfold i8;rw[if_neg (by simp[(d y).mpr a]),if_pos ⟨(d x).mpr b,n⟩];exact aO.mpr ⟨_,s,rfl⟩
 | @r x y f _ a n m s e=>
  obtain⟨w,s⟩:=s;refine P.cl _ e _ ?_;unfold i8;rw[if_neg (by simp[(d y).mpr a]),if_neg (λz=>n.elim (λq=>by rw[q]at z;cases z.2) λq=>q ((d x).mp z.1)),if_pos m];exact aO.mpr ⟨_,s,rfl⟩
 | @b x y g f w _ n m s t e=>
  refine P.cl _ e _ ?_;unfold i8;rw[if_neg (by simp[(d y).mpr (.t m)]),if_neg (λz=>by rw[n]at z;cases z.2),if_neg (by simp[m])];exact qi.mpr ⟨_,s,by rw[show iz w (aX ps y)=some f from GG (hw y) t];rfl⟩
theorem Ww(b:∀x,ah x=true↔Ah (aX ps) (aA ps h) x)(hw:∀i,((aX ps i).map (·.1)).Nodup)(P:PL ps h ah p L)(d:∀a∈L,¬Ft (aX ps) (aA ps h) ev a.1 a.2):∀x y,Cs (aX ps) (aA ps h) p x y->¬Ft (aX ps) (aA ps h) ev x y:=λx y c=>d (x,y) (Wu b hw P c)
end
section
variable {ps:List Pl}{os:List Int}{h p:Int}{ev ev':Int->Int->Bool}
variable (cl:∀q∈os,∀y∈mH ps q,y∈os)
include cl
end
theorem vo(ks:List Int)(j:Int):pJ (.int j) (.lst (ks.map .int))=some (.bl (!decide (j∈ks))):=by
 have b:((ks.map D.int).all fR&&!cN (.int j))=true:=by
  rw[bB,ja];exact⟨λd a=>by obtain⟨_,_,rfl⟩:=aO.mp a;rfl,rfl⟩
 show(if((ks.map D.int).all fR&&!cN (.int j))=true then some (D.bl (!((ks.map D.int).any λy=>cu y (.int j))))else none)=_
 rw[if_pos b]
 congr 3
 rw[j6,Jg,decide_eq_true_iff]
 constructor
 ·rintro⟨d,a,e⟩
  obtain⟨i,c,rfl⟩:=aO.mp a
  simp_all[cu]
 ·intro h
  exact⟨.int j,aO.mpr ⟨j,h,rfl⟩,by simp[cu]⟩
theorem vp(ks:List Int):i0 (ks.map D.int)=some ks:=by
 induction ks with
 | nil=>rfl
 | cons k r a=>
  simp_all[i0]
theorem gZ(h:g a=some (.ret d)):aQ g u a=some (.ret d):=by simp[aQ,h]
theorem mI(h:t a=some true):bf t g u a=g a:=by simp[bf,h]
noncomputable def zI(h:Int):Pl->Bool
 | .say a b _=>a==h||b==h
 | .fin=>false
theorem zJ{h i:Int}:aA ps h i=zI h (ax ps i):=by rfl
theorem r0{n:Nat}(hn:1<=n)(p:Pl)(h:Int):Tab n .fc [p.toD,.int h]=some (.bl (zI h p)):=by
 obtain⟨k,rfl,f⟩:=bI (c:=0) hn
 have d:dt 64 p.toD lI=some (.bl p.iQ):=V_ p
 rw[tab]
 cases p with
 | fin=>rfl
 | say a b cs=>simp only[Pl.toD]at d ⊢;cases e:(a==h)<;>dsimp! [E3,d,Pl.iQ,zI,eq_int,e,-beq_iff_eq,-beq_eq_false_iff_ne]
noncomputable def bN(h a b:Int):D:=if(a==h)=true then .tup [.str "says",.int b]else .tup [.str "hears",.int a]
theorem GH{n:Nat}(hn:1<=n)(a b h:Int)(cs:List Ch):Tab n .fd [(Pl.say a b cs).toD,.int h]=some (bN h a b):=by
 obtain⟨k,rfl,e⟩:=bI (c:=0) hn;rw[tab]
 cases d:(a==h)<;>dsimp! [E4,Pl.toD,eq_int,d,bN,-beq_iff_eq,-beq_eq_false_iff_ne]
structure lQ(cs:List Ch):Prop where
 le:cs.length<=5
 nd:(cs.map (·.1)).Nodup
 ok:∀c∈cs,gU (.str c.1)=true/\c.2.1.dp<=2
theorem mJ{m N a b:Int}(h:(Pl.say a b cs).O2 m N):lQ cs:=⟨h.2.2.2.2.2.2.1,h.2.2.2.2.2.2.2.2,λc d=>let q:=h.2.2.2.2.2.2.2.1 c d;⟨q.1,q.2.2.1⟩⟩
noncomputable def kW(c:Ch):Key:=.inr c.1
noncomputable def vW(c:Ch):D:=c.2.1.toD
noncomputable def nW(c:Ch):D:=.int c.2.2
theorem Wx{cs:List Ch}:(.inr w:Key)∈cs.map kW↔w∈cs.map (·.1):=by simp[kW]
theorem GI{g:Ch->D}{fv:ar->Option D}{cs:List Ch}(q:lQ cs){pre:List (Option SD)}{i:Nat}(s:pre.length=i){i1 i2 i3:Nat}{gb:ar->Option aL}{t:D->ar->Option ar}{post:Option SD->Option SD->Option SD->List (Option SD)}{Q:aL->Prop}
  (v:∀(c:Ch)(ks:List Key)(ds:List D)(h o2 m:Option SD),c∈cs->ks.length<=5->∃n,t (aI c) (pre++some (.ow (some ks) ds)::post h o2 m)=some n/\Ev (gb n) (λo=>∃a b e,o=.aF (pre++some (.ow (some (fT ks (kW c))) (DL.gk ks ds (kW c) (g c)))::post a b e)))
  (w:∀h o2 m,Q (.aF (pre++some (.ow (some (cs.map kW)) (cs.map g))::post h o2 m))) (h o2 m:Option SD):Ev (c_ t gb (cs.map aI) (pre++some (.ow (some []) [])::post h o2 m)) Q:=by
 refine kH (λR (j:Nat) r=>∃a b e,r=pre++some (.ow (some ((cs.take j).map kW)) ((cs.take j).map g))::post a b e) ⟨_,_,_,rfl⟩ ?_ ?_
 ·rintro j d r u ⟨a,b,e,rfl⟩
  rw[bJ,bC]at u;obtain⟨c,f,rfl⟩:=u
  have x:=ee f
  obtain⟨n,y,A⟩:=v c ((cs.take j).map kW) ((cs.take j).map g) a b e x (by rw[aJ,lW];have:=q.le;lia);refine⟨n,y,A.imp ?_⟩
  rintro o ⟨B,C,E,rfl⟩
  have p:kW c∉(cs.take j).map kW:=λz=>by
   have z:c.1∈(cs.take j).map (·.1):=Wx.mp z
   obtain⟨J,L⟩:=cA.mp f;rw[IL]at z;obtain⟨i,s,G⟩:=List.getElem_of_mem z;rw[lW,aJ]at s;rw[List.getElem_take]at G
   have:=(ZQ (i:=i) (j:=j) (by grind) q.nd).mp (by grind)
   lia
  obtain⟨H,I⟩:=zE (d:=g c) p (show((cs.take j).map kW).length=((cs.take j).map g).length by simp);rw[H,I];refine eX ⟨B,C,E,?_⟩;rw[l6,f,cU,cU]
  rfl
 ·rintro r ⟨a,b,e,rfl⟩
  rw[aJ,k0];exact w a b e
theorem GJ{n:Nat}(hn:1<=n){a b:Int}{cs:List Ch}(f:lQ cs):Tab n .fe [(Pl.say a b cs).toD]=some (.aH (cs.map kW) (cs.map vW)):=by
 obtain⟨k,rfl,j⟩:=bI (c:=0) hn;refine Ev.eq ?_;rw[tab];refine i6 (np:=1) (n:=5) (gb:=yK (Tab k)) ?_;unfold yK;refine aZ (zC (aU (aZ (lO (by rfl) ?_))));refine GI (g:=vW) f (pre:=[some (.ai (Pl.say a b cs).toD)]) (i:=1) rfl (i1:=0) (i2:=0) (i3:=0) (fv:=λ_=>none) (post:=λd o2 e=>[d,o2,e]) (λc ks ds d o2 e m h=>?_) (λd o2 e=>?_) none none none
 ·exact⟨_,rfl,vj rfl rfl rfl rfl (fo h) ⟨some (.ai (.str c.1)),some (.ai c.2.1.toD),some (.ai (.int c.2.2)),rfl⟩⟩
 ·exact aU ⟨_,rfl,i5 rfl⟩
def r6(c e a b:D)(s:Bool):Option D:=(dt 64 c e).bind λd=>match d with
 | .bl true=>some (.bl false)
 | .bl false=>if s=true then rJ 64 a b else(bY [none,some 3,some 4] (uC (aa 3)) (gN 0) (cB (ab gE (aa 0) (aa 2))) (ab (a7 64) (ab iP (aa 1) (aa 0)) (ab iP (aa 2) (aa 0))) [none,none,none,some a,some b]).bind λl=>nk [l]
 | _=>none
theorem GK{n:Nat}(hn:2<=n){a b f g h:Int}{cs cs':List Ch}(u:lQ cs)(m:lQ cs'){r:Bool}(e:r6 (bN h a b) (bN h f g) (.aH (cs.map kW) (cs.map vW)) (.aH (cs'.map kW) (cs'.map vW)) (a==h)=some (.bl r)):Tab n .ff [(Pl.say a b cs).toD,(Pl.say f g cs').toD,.int h]=some (.bl r):=by
 obtain⟨k,rfl,i⟩:=bI (c:=1) hn
 have v:=GH i a b h cs
 have w:=GH i f g h cs'
 have z:=GJ i (a:=a) (b:=b) u
 have A:=GJ i (a:=f) (b:=g) m
 generalize D.aH (cs.map kW) (cs.map vW)=p at*
 generalize D.aH (cs'.map kW) (cs'.map vW)=q at*
 generalize bN h a b=H at*
 generalize bN h f g=R2 at*
 have B:ak (Pl.say a b cs).toD (.int 1)=some (.int a):=aT c5
 generalize(Pl.say a b cs).toD=x at*
 generalize(Pl.say f g cs').toD=y at*
 have C:uT (Tab k) [some x,some y,some (.int h),none,none]=some (.ret (.bl r)):=by
  unfold uT
  refine bS e λd E e=>?_
  have t:ab (dt 64) (au (Tab k .fd) (ag [aa 0,aa 2])) (au (Tab k .fd) (ag [aa 1,aa 2])) [some x,some y,some (.int h),none,none]=some d:=aq (aS (aj rfl (aj rfl rfl)) v) (aS (aj rfl (aj rfl rfl)) w) E
  split at e
  ·cases e
   exact gZ (by rw[mI (aN t)];rfl)
  ·rw[eT (ρ':=[some x,some y,some (.int h),none,none]) (by rw[kF (aN t)];rfl)]
   rw[eT (nR (aS (aj rfl rfl) z)),eT (nR (aS (aj rfl rfl) A))]
   show aQ _ _ [some x,some y,some (.int h),some p,some q]=_
   have j:cB (ab (a7 64) (ab ak (aa 0) (cC (.int 1))) (aa 2)) [some x,some y,some (.int h),some p,some q]=some (a==h):=aN (aq (aq rfl rfl B) rfl eq_int)
   split at e
   ·rename_i s
    rw[s]at j;exact gZ (by rw[mI j];exact lJ (aq rfl rfl e))
   ·rename_i s
    rw[jE.mpr s]at j;rw[eT (ρ':=[some x,some y,some (.int h),some p,some q]) (by rw[kF j];rfl)]
    refine bS e λl G e=>?_
    exact lJ (aS (aj G rfl) e)
  ·cases e
 rw[tab]
 show((uT (Tab k) [some x,some y,some (.int h),none,none]).bind _)=_
 grind
theorem Wz(h a b h' c d:Int):∃r,dt 64 (bN h a b) (bN h' c d)=some (.bl r):=by
 have f:∀h a b,bZ (bN h a b)=true/\dm (bN h a b)<=60:=λh a b=>by unfold bN;split<;>simp[bZ,eM,dm,d4]
 obtain⟨r,e⟩:=za 64 _ _ (f h a b).1 (f h' c d).1 (by grind);exact⟨!r,by simp[dt,e]⟩
theorem GL{K K':Kd}(h:K.dp<=2):∃r,bM 64 K.toD K'.toD=some r:=za 64 _ _ (rO K) (rO K') (by have:=va K;lia)
theorem zK:∀{cs:List Ch},atK (cs.map kW) (cs.map vW) k=some y->∃c∈cs,y=vW c
 | [],h=>by simp[atK]at h
 | c::cs,h=>by
  have h':(if kW c=k then some (vW c)else atK (cs.map kW) (cs.map vW) k)=some y:=h
  split at h'
  ·cases h';exact⟨c,bg,rfl⟩
  ·obtain⟨d,a,e⟩:=zK (cs:=cs) h'
   exact⟨d,bV _ a,e⟩
theorem GO{cs':List Ch}:∀{cs:List Ch},(∀c∈cs,c.2.1.dp<=2)->∃r,jM 64 (cs'.map kW) (cs'.map vW) (cs.map kW) (cs.map vW)=some r
 | [],_=>⟨true,rfl⟩
 | c::cs,h=>by
  obtain⟨r,e⟩:=GO (cs':=cs') (cs:=cs) (by grind)
  show ∃r,(match atK (cs'.map kW) (cs'.map vW) (kW c)with | none=>some false | some y=>(bM 64 (vW c) y).bind λe=>(jM 64 (cs'.map kW) (cs'.map vW) (cs.map kW) (cs.map vW)).map (e&& ·))=some r
  cases z:atK (cs'.map kW) (cs'.map vW) (kW c)with
  | none=>exact⟨false,rfl⟩
  | some y=>
   obtain⟨d,_,rfl⟩:=zK (cs:=cs') z;obtain⟨q,a⟩:=GL (K:=c.2.1) (K':=d.2.1) (h c bg);exact⟨q&&r,by simp only[e];rw[show bM 64 (vW c) (vW d)=some q from a];rfl⟩
theorem GP{C cs':List Ch}(b:(C.map (·.1)).Nodup):∀(cs:List Ch)(o:Option D),(∀c∈cs,c∈C/\c.2.1.dp<=2)->∃bs:List Bool,b6 (gN 0) (cB (ab gE (aa 0) (aa 2))) (ab (a7 64) (ab iP (aa 1) (aa 0)) (ab iP (aa 2) (aa 0))) [o,some (.aH (C.map kW) (C.map vW)),some (.aH (cs'.map kW) (cs'.map vW))] ((cs.map kW).map kD)=some (bs.map D.bl)
 | [],_,_=>⟨[],rfl⟩
 | c::cs,o,h=>by
  obtain⟨bs,e⟩:=GP (cs':=cs') b cs (some (.str c.1)) (by grind)
  have a:gE (.str c.1) (.aH (cs'.map kW) (cs'.map vW))=some (.bl (atK (cs'.map kW) (cs'.map vW) (kW c)).isSome):=rfl
  show ∃bs:List Bool,b6 _ _ _ _ (.str c.1::(cs.map kW).map kD)=some (bs.map D.bl)
  cases z:atK (cs'.map kW) (cs'.map vW) (kW c)with
  | none=>
   rw[z]at a;refine⟨bs,?_⟩
   have g:cB (ab gE (aa 0) (aa 2)) [some (.str c.1),some (.aH (C.map kW) (C.map vW)),some (.aH (cs'.map kW) (cs'.map vW))]=some false:=aN (aq rfl rfl a)
   simp only[b6,gN,qB,bj,g,kY,if_false];exact e
  | some y=>
   rw[z]at a;obtain⟨d,_,rfl⟩:=zK (cs:=cs') z
   have i:atK (C.map kW) (C.map vW) (kW c)=some (vW c):=by
    obtain⟨f,_⟩:=h c bg
    clear e z a h
    induction C with
    | nil=>cases f
    | cons x C m=>
     rw[a_,g8]at b
     show(if kW x=kW c then some (vW x)else atK (C.map kW) (C.map vW) (kW c))=_
     rcases a9.mp f with q | q
     ·simp_all
     ·rw[if_neg λz=>b.1 (by rw[show x.1=c.1 from Jl z];grind)]
      grind
   obtain⟨q,j⟩:=GL (K:=c.2.1) (K':=d.2.1) (h c bg).2;refine⟨q::bs,kJ (ρ':=[some (.str c.1),some (.aH (C.map kW) (C.map vW)),some (.aH (cs'.map kW) (cs'.map vW))]) rfl (aN (aq rfl rfl a)) (aq (aq rfl rfl (pY rfl i)) (aq rfl rfl (pY rfl z)) ?_) e⟩
   show(bM 64 (vW c) (vW d)).map D.bl=_
   rw[show bM 64 (vW c) (vW d)=some q from j]
   rfl
theorem WA(h a b g i:Int){cs cs':List Ch}(f:lQ cs)(d:lQ cs'):∃r,r6 (bN h a b) (bN h g i) (.aH (cs.map kW) (cs.map vW)) (.aH (cs'.map kW) (cs'.map vW)) (a==h)=some (.bl r):=by
 obtain⟨r,e⟩:=Wz h a b h g i;unfold r6;rw[e,bj]
 cases r with
 | true=>exact⟨false,rfl⟩
 | false=>
  simp only
  split
  ·obtain⟨r,e⟩:=GO (cs':=cs') (cs:=cs) λc d=>(f.ok c d).2
   show ∃r,(if(cs.map kW).length=(cs'.map kW).length then(jM 64 (cs'.map kW) (cs'.map vW) (cs.map kW) (cs.map vW)).map D.bl else some (.bl false))=some (.bl r)
   grind
  ·obtain⟨bs,e⟩:=GP (C:=cs) (cs':=cs') f.nd cs none λc j=>⟨j,(f.ok c j).2⟩
   refine⟨bs.all id,?_⟩;rw[fU (by rfl) (small (by simp;have:=f.le;exact fo this)) e,bj]
   have:=all_map id bs
   simpa using this
def kO(k:Nat)(h:Int)(p q:Pl):Bool:=decide (Tab k .ff [p.toD,q.toD,.int h]=some (.bl true))
theorem GQ{k:Nat}{h:Int}{p q:Pl}{r:Bool}(t:Tab k .ff [p.toD,q.toD,.int h]=some (.bl r)):kO k h p q=r:=by simp_all[kO]
theorem WB{n:Nat}(hn:2<=n){m N h:Int}{p q:Pl}(c:p.O2 m N)(d:q.O2 m N)(sp:p.iQ=true)(f:q.iQ=true):Tab n .ff [p.toD,q.toD,.int h]=some (.bl (kO n h p q)):=by
 cases p with
 | fin=>cases sp
 | say a b cs=>
 cases q with
 | fin=>cases f
 | say g i cs'=>
 obtain⟨r,e⟩:=WA h a b g i (mJ c) (mJ d)
 have t:=GK hn (mJ c) (mJ d) e
 rw[GQ t,t]
theorem big{n:Nat}(h:n<=1000000):n<aB:=by show n<2 ^ 24;lia
section
variable {i:Nat}{r:ar}{Q:aL->Prop}{ds es:List D}{f:ae->Option D}{fi fo:ar->Option D}{x:D}{j:Int}
theorem WC(h:g (fz r)=some ds)(hn:r.all pH=true)(k:Q (.aF (r.set i (some (.xt .n ds))))):Ev (pI i g r) Q:=⟨_,by unfold pI;rw[h,bj,if_pos hn],k⟩
theorem WD(a:fi r=some (.int j))(b:fo r=some x)(c:r[i]?=some (some (.xt .n ds)))(d:0<=j)(e:ds[j.toNat]?=some (.lst es))(g:es.length<aB)(k:Q (.aF (r.set i (some (.xt .n (ds.set j.toNat (.lst (es++[x])))))))):Ev (uM i fi fo r) Q:=⟨_,by
 simp_all[uM,bj,if_pos],k⟩
theorem WE(a:el i r=some ds)(b:f (fz r)=some (.lst es))(c:ds.length+es.length<=aB)(d:cF es=true)(k:Q (.aF (r.set i (some (.own (ds++es)))))):Ev (uN i f r) Q:=⟨_,by
 simp_all[uN,bj,if_pos],k⟩
end
theorem WG(l:List D):∀o:Option D,b6 (gN 0) (λ_=>some true) (cC (.lst [])) [o] l=some (l.map λ_=>.lst []):=by
 induction l with
 | nil=>intro o;rfl
 | cons d l a=>intro o;exact kJ (ρ':=[some d]) rfl rfl rfl (a _)
theorem GR{k:Nat}(d:1<=k){ps:List Pl}{h:Int}:∀(t a:Nat)(o:Option D),a+t=ps.length->∃T:List Int,b6 (gN 0) (cB (au (Tab k .fc) (ag [ab ak (aa 2) (aa 0),aa 1]))) (aa 0) [o,some (.int h),some (.tup (ps.map Pl.toD))] ((qC a t).map λ(i:Nat)=>D.int (i:Int))=some (T.map .int)/\(∀x,x∈T↔(a:Int)<=x/\x<ps.length/\aA ps h x=true)/\T.length<=t
 | 0,a,o,g=>⟨[],rfl,(by grind),a5 _⟩
 | t+1,a,o,g=>by
  refine aP (GR d (ps:=ps) (h:=h) t (a+1) (some (.int (a:Int))) (by lia)) λT e j f=>?_
  have c:=jx (m:=0) (ps:=ps) (i:=(a:Int)) (by lia) (by lia)
  have b:cB (au (Tab k .fc) (ag [ab ak (aa 2) (aa 0),aa 1])) [some (.int (a:Int)),some (.int h),some (.tup (ps.map Pl.toD))]=some (aA ps h a):=by rw[zJ];exact aN (aS (aj (aq rfl rfl (aT c)) (aj rfl rfl)) (r0 d _ _))
  rw[A0,a_]
  cases z:aA ps h a with
  | true=>
   rw[z]at b;refine⟨(a:Int)::T,kJ (ρ':=[some (.int (a:Int)),some (.int h),some (.tup (ps.map Pl.toD))]) rfl b rfl e,λx=>?_,An f⟩
   grind
  | false=>
   rw[z]at b;refine⟨T,?_,λx=>?_,Aq f⟩
   ·simp only[b6,gN,qB,bj,b,kY,if_false]
    exact e
   grind
noncomputable def n5(l:List Int):D:=.lst (l.map .int)
structure vq(ps:List Pl)(S:List (List Int))(P:Int->Int->Prop)(c:Nat):Prop where
 len:S.length=ps.length
 mem:∀(j:Nat)(l:List Int),S[j]?=some l->∀x,x∈l↔P x (j:Int)
 le:∀(j:Nat)(l:List Int),S[j]?=some l->l.length<=c
theorem WH{S:List (List Int)}{c:Nat}{i:Int}{j:Nat}(h:vq ps S P c)(b:S[j]?=some l)(d:∀x y,g x y↔P x y\/x=i/\y=(j:Int)):vq ps (S.set j (l++[i])) g (c+1):=by
 have f:=(cA.mp b).1
 refine⟨by rw[iC];exact h.len,λm n e x=>?_,λm n e=>?_⟩
 ·by_cases a:j=m
  ·subst a
   rw[i_ f]at e;cases e;rw[bW,h.mem _ _ b,d,br]
   simp
  ·rw[dQ a]at e
   rw[h.mem _ _ e,d]
   grind
 ·by_cases a:j=m
  ·subst a
   rw[i_ f]at e;cases e
   have:=h.le _ _ b
   rw[bQ];exact Jh this (a5 _)
  ·rw[dQ a]at e
   exact Aq (h.le _ _ e)
structure WT(ps:List Pl)(h:Int)(K W:List Int):Prop where
 nd:K.Nodup
 kr:∀x∈K,0<=x/\x<ps.length
 wr:∀x∈W,0<=x/\x<ps.length
 ka:∀x∈K,Ah (aX ps) (aA ps h) x
 wa:∀x∈W,Ah (aX ps) (aA ps h) x
 tu:∀x:Int,0<=x->x<ps.length->aA ps h x=true->x∈K\/x∈W
 cl:∀y∈K,∀x:Int,0<=x->x<ps.length->y∈mH ps x->x∈K\/x∈W
theorem GS{x y:Int}:Sc (aX ps) x y↔y∈mH ps x:=by
 constructor
 ·rintro⟨w,s⟩
  obtain⟨c,a,e⟩:=aO.mp s;cases e;exact aO.mpr ⟨c,a,rfl⟩
 ·intro s
  obtain⟨c,a,e⟩:=aO.mp s;exact⟨c.1,aO.mpr ⟨c,a,by rw[<-e]⟩⟩
theorem GU{h x:Int}:Ah (aX ps) (aA ps h) x↔Ah (aX ps) (aA ps h) (x.toNat:Nat):=by
 have b:aX ps ((x.toNat:Nat):Int)=aX ps x:=by unfold aX ax;rw[k4]
 have c:aA ps h ((x.toNat:Nat):Int)=aA ps h x:=by unfold aA ax;rw[k4]
 constructor
 ·intro a
  cases a with
  | t q=>exact .t (by rw[c];exact q)
  | s q k=>exact .s (by obtain⟨w,q⟩:=q;exact⟨w,by rw[b];exact q⟩) k
 ·intro a
  cases a with
  | t q=>exact .t (by rw[<-c];exact q)
  | s q k=>exact .s (by obtain⟨w,q⟩:=q;exact⟨w,by rw[<-b];exact q⟩) k
theorem GV{h:Int}(f:GW ps)(w:WT ps h K []):∀x,decide (((x.toNat:Nat):Int)∈K)=true↔Ah (aX ps) (aA ps h) x:=λx=>by
 rw[decide_eq_true_iff]
 constructor
 ·exactλq=>GU.mpr (w.ka _ q)
 ·intro a
  have:∀x,Ah (aX ps) (aA ps h) x->0<=x->x<ps.length->x∈K:=λx a=>by
   induction a with
   | t q=>exactλb c=>(w.tu _ b c q).resolve_right (by simp)
   | @s u v q _ g=>
    intro b c
    have q:=GS.mp q
    have d:=Gx f u v q
    exact(w.cl v (g d.1 d.2) u b c q).resolve_right (by simp)
  refine this _ (GU.mp a) (by lia) ?_
  have i:x.toNat<ps.length:=by
   have:(ax ps x).iQ=true:=by
    cases a with
    | t q=>unfold aA at q;cases e:ax ps x with | fin=>simp_all | say _ _ _=>rfl
    | s q k=>obtain⟨w,q⟩:=q;unfold aX at q;cases e:ax ps x with | fin=>rw[e]at q;cases q | say _ _ _=>rfl
   by_cases z:x.toNat<ps.length
   ·exact z
   ·rw[show ax ps x=.fin by unfold ax;rw[qz (by lia)];rfl]at this
    cases this
  lia
theorem WI{n:Nat}(hn:2<=n){ps:List Pl}(hG:GW ps)(h:Int):∃K:List Int,Tab n .fg [.tup (ps.map Pl.toD),.int h]=some (.aH (K.map kI) (K.map λ_=>.bl true))/\WT ps h K []:=by
 obtain⟨k,rfl,hk⟩:=bI (c:=1) hn
 have U:=hG.n2
 have hL:cV [.tup (ps.map Pl.toD)]=some (.int (ps.length:Nat)):=by show some (D.int ((ps.map Pl.toD).length:Nat))=_;rw[aJ]
 suffices hh:Ev (Tab (k+1) .fg [.tup (ps.map Pl.toD),.int h]) λd=>∃K:List Int,d=.aH (K.map kI) (K.map λ_=>.bl true)/\WT ps h K [] from by obtain⟨_,e,K,h,k⟩:=hh;exact⟨K,h▸e,k⟩
 rw[tab];refine i6 (np:=2) (n:=8) (gb:=yL (Tab k)) ?_;unfold yL;refine aZ (WC (pX (gG rfl rfl) (small (by grind)) (WG _ _)) rfl (aU (aZ (lO (by rfl) ?_))))
 show Ev (c_ _ _ _ [_,_,_,_,_,_,_,_]) _
 refine kH (λR (i:Nat) r=>∃S E N u,r=[some (.ai (.tup (ps.map Pl.toD))),some (.ai (.int h)),some (.xt .n (S.map n5)),E,N,u,none,none]/\vq ps S (λx y=>0<=x/\x<(i:Int)/\y∈mH ps x) (5*i)) ⟨ps.map λ_=>[],_,_,_,by rw[fQ,fQ];rfl,by rw[aJ],λj l e x=>?_,λj l e=>?_⟩ ?_ ?_
 ·grind
 ·rw[bJ,bC]at e
  obtain⟨_,_,rfl⟩:=e;exact ef _
 ·rintro i d r O ⟨S,E,N,u,rfl,a⟩
  obtain⟨y,Q,rfl⟩:=vk _ _ _ _ O;rw[bJ,bC]at Q;obtain⟨p,hp,rfl⟩:=Q
  have hi:=(cA.mp hp).1
  have Y:ax ps (i:Int)=p:=by unfold ax;rw[k4,hp];rfl
  have G:=p6 hG (i:Int)
  have H:mH ps (i:Int)=(ax ps (i:Int)).bt.map λc:Ch=>c.2.2:=rfl
  rw[Y]at G H;rw[k1];refine⟨_,rfl,lO (gG (aS (aj rfl rfl) (Vw hk p)) rfl) ?_⟩
  generalize p.bt=cs at*
  show Ev (c_ _ _ _ [_,_,_,_,_,_,_,_]) _
  refine kH (λR (t:Nat) r=>∃S u,r=[some (.ai (.tup (ps.map Pl.toD))),some (.ai (.int h)),some (.xt .n (S.map n5)),some (.ai (.int (i:Int))),some (.ai p.toD),u,none,none]/\vq ps S (λx y=>0<=x/\x<(i:Int)/\y∈mH ps x\/x=i/\y∈(cs.take t).map λc:Ch=>c.2.2) (5*i+t)) ⟨S,_,rfl,a.len,λj l e x=>by rw[a.mem j l e];simp,a.le⟩ ?_ ?_
  ·rintro t d r O ⟨S,u,rfl,a⟩
   rw[bJ,bC]at O;obtain⟨c,hc,rfl⟩:=O
   have zL:=ee hc
   have I:=(G.2 c zL).2.2.2
   have ht:=(cA.mp hc).1
   obtain⟨l,v⟩:∃l,S[c.2.2.toNat]?=some l:=⟨_,c6 (by rw[a.len];omega)⟩
   have hz:=a.le _ _ v
   refine⟨_,rfl,WD (es:=l.map .int) (cT (aq rfl rfl (aT at2))) rfl rfl I.1 (by rw[bJ,v];rfl) (small (by grind)) (eX ⟨S.set c.2.2.toNat (l++[(i:Int)]),some (.ai (aI c)),?_,?_⟩)⟩
   ·simp[List.map_set,n5,set,cU]
   ·refine WH a v λx y=>?_
    rw[l6,hc,cU,bW];simp only[Jm,a_,qt,br];rw[oG I.1]
    constructor
    ·rintro(q | ⟨q,q' | q'⟩)
     ·exact .inl (.inl q)
     ·exact .inl (.inr ⟨q,q'⟩)
     ·exact .inr ⟨q,q'⟩
    ·rintro((q | q) | ⟨q,q'⟩)
     ·exact .inl q
     ·exact .inr ⟨q.1,.inl q.2⟩
     ·exact .inr ⟨q,.inr q'⟩
  ·rintro r ⟨S,u,rfl,a⟩
   rw[aJ,k0,<-H]at a;refine eX ⟨S,_,_,_,rfl,a.len,λj l e x=>?_,λj l e=>?_⟩
   ·rw[a.mem j l e]
    grind
   ·have:=a.le j l e
    lia
 ·rintro r ⟨S,E,N,u,rfl,a⟩
  rw[js,aJ]at a
  refine aP (GR (k:=k) hk (ps:=ps) (h:=h) ps.length 0 none (by lia)) λT hT A hTl=>?_
  rw[<-A1,<-rX]at hT;refine aU (aZ (zC (aU (aZ (gY (pW (pX (rW (aS (aj rfl rfl) hL) (by lia) (by lia)) (small (by rw[rX,aJ,sL];exact fo U)) (by rw[k4];exact hT)) (lP (f:=D.int) (λ_=>rfl) T)) (aU (aZ ?_)))))))
  show Ev (eQ _ _ _ [_,_,_,_,_,_,_,_]) _
  refine nZ (λn r=>∃(K W:List Int)(E:Option SD),r=[some (.ai (.tup (ps.map Pl.toD))),some (.ai (.int h)),some (.xt .n (S.map n5)),E,N,u,some (.ow (some (K.map kI)) (K.map λ_=>.bl true)),some (.own (W.map .int))]/\WT ps h K W/\W.length+651*(ps.length-K.length)+1<=n/\n<=99999) ?_ ?_ 99999 _ ⟨[],T,_,rfl,⟨.nil,by simp,λx b=>let q:=(A x).mp b;⟨q.1,q.2.1⟩,by simp,λx b=>.t ((A x).mp b).2.2,λx g m q=>.inr ((A x).mpr ⟨g,m,q⟩),by simp⟩,by lia⟩
  ·lia
  rintro n r ⟨K,W,E,rfl,w,hm,tW⟩
  have hKl:=u0 ps.length w.nd w.kr
  rcases List.eq_nil_or_concat W with rfl | ⟨J,y,rfl⟩
  ·exact .inl ⟨(by rfl),aU ⟨_,rfl,i5 ⟨K,rfl,w⟩⟩⟩
  refine .inr ⟨aN (aq (aS (aj rfl rfl) rfl) rfl (by show some (D.bl (decide _))=_;rw[decide_eq_true (by simp<;>omega)])),?_⟩;rw[List.concat_eq_append]at w hm ⊢;rw[bQ]at hm;simp only[bR,gL]at hm
  have B:=w.wr y (by simp)
  have L:=w.wa y (by simp)
  have WJ:lE (.int y) (.aH (K.map kI) (K.map λ_=>.bl true))=some (.bl (!decide (y∈K))):=by
   show some (D.bl (!(atK (K.map kI) (K.map λ_=>.bl true) (.inl y)).isSome))=_
   rw[show(atK (K.map kI) (K.map λ_=>D.bl true) (.inl y)).isSome=decide (y∈K) from j6.mpr (((zD (by simp)).trans (by simp[kI])).trans decide_eq_true_iff.symm)]
  refine aZ (zq (xs:=J.map .int) (x:=.int y) (by show some _=_;rw[cU];rfl) (aU (F_ (F9 (aN (aq rfl rfl WJ))) ?_)))
  have rest:∀x,x∈J++[y]->x∈J\/x=y:=λx b=>by grind
  by_cases Q:y∈K
  ·refine dX (by grind) (d5 (eX ⟨K,J,_,rfl,⟨w.nd,w.kr,λx b=>w.wr x (by simp[b]),w.ka,λx b=>w.wa x (by simp[b]),λx g m q=>?_,λz hz x g m q=>?_⟩,by lia⟩))
   ·rcases w.tu x g m q with z | z
    ·exact .inl z
    grind
   ·rcases w.cl z hz x g m q with z | z
    ·exact .inl z
    grind
  ·obtain⟨l,v⟩:∃l,S[y.toNat]?=some l:=⟨_,c6 (by rw[a.len];lia)⟩
   have C:∀x,x∈l↔0<=x/\x<(ps.length:Int)/\y∈mH ps x:=λx=>by
    have:=a.mem _ _ v x
    grind
   have hz:=a.le _ _ v
   have rZ:bA (S.map n5) y=some (n5 l):=by
    have:=pO (xs:=S.map n5) (i:=y.toNat) (by rw[aJ,a.len];lia)
    rw[oG B.1]at this;rw[this,Z0,(cA.mp v).2]
   obtain⟨p1,p2⟩:=zE (d:=.bl true) (j:=.inl y) (ks:=K.map kI) (ds:=K.map λ_=>.bl true) (λz=>by obtain⟨_,h,e⟩:=aO.mp z;exact Q (Sum.inl.inj e▸h)) (by simp)
   have M:(K++[y]).length<=ps.length:=u0 ps.length (sS.mpr ⟨w.nd,by simp,(by grind)⟩) λx b=>by
    rcases bW.mp b with q | q
    ·exact w.kr x q
    ·rw[br.mp q];exact B
   rw[bQ]at M;simp only[bR,gL]at M;refine eW (by grind) (aZ (vj rfl rfl rfl rfl (by grind) (aU (WE rfl (aq rfl rfl (i7 rZ)) (f9 (big (by grind))) (lP (f:=D.int) (λ_=>rfl) l) (eX ⟨K++[y],J++l,_,by rw[p1,p2];simp only[cU];rfl,⟨?_,?_,?_,?_,?_,?_,?_⟩,?_⟩)))))
   ·exact sS.mpr ⟨w.nd,by simp,(by grind)⟩
   ·intro x b
    rcases bW.mp b with q | q
    ·exact w.kr x q
    ·rw[br.mp q];exact B
   ·intro x b
    rcases bW.mp b with q | q
    ·exact w.wr x (by simp[q])
    ·have:=(C x).mp q;exact⟨this.1,this.2.1⟩
   ·intro x b
    rcases bW.mp b with q | q
    ·exact w.ka x q
    ·rw[br.mp q];exact L
   ·intro x b
    rcases bW.mp b with q | q
    ·exact w.wa x (by simp[q])
    ·exact .s (GS.mpr ((C x).mp q).2.2) L
   ·intro x g m q
    rcases w.tu x g m q with z | z
    ·exact .inl (by simp[z])
    grind
   ·intro z hz x g m q
    rcases bW.mp hz with hz | hz
    ·rcases w.cl z hz x g m q with z | z
     ·exact .inl (by simp[z])
     grind
    ·rw[br.mp hz]at q
     exact .inr (dR _ ((C x).mpr ⟨g,m,q⟩))
   grind
noncomputable abbrev c0:=Int × Int
noncomputable def bu(a:c0):D:=.tup [.int a.1,.int a.2]
def dN(K:List Int):D:=.aH (K.map kI) (K.map λ_=>.bl true)
theorem GX{K:List Int}{x:Int}:(atK (K.map kI) (K.map λ_=>D.bl true) (.inl x)).isSome=decide (x∈K):=j6.mpr (((zD (by simp)).trans (by simp[kI])).trans decide_eq_true_iff.symm)
theorem WK{x:Int}:gE (.int x) (dN K)=some (.bl (decide (x∈K))):=by
 show some (D.bl (atK (K.map kI) (K.map λ_=>.bl true) (.inl x)).isSome)=_
 rw[GX]
theorem GY{x:Int}:lE (.int x) (dN K)=some (.bl (!decide (x∈K))):=by
 show some (D.bl (!(atK (K.map kI) (K.map λ_=>.bl true) (.inl x)).isSome))=_
 rw[GX]
def jR(k:Nat)(ps:List Pl)(h:Int)(K:List Int)(x y:Int):Bool:=aA ps h y&&(!decide (x∈K)||aA ps h x&&!kO k h (ax ps x) (ax ps y))
theorem r8{h x:Int}(e:aA ps h x=true):(ax ps x).iQ=true:=by
 unfold aA at e
 cases z:ax ps x with
 | fin=>simp_all
 | say _ _ _=>rfl
theorem WL{k:Nat}(i:2<=k){m:Int}{ps:List Pl}(u:G2 m ps){h:Int}{K:List Int}{a:c0}(v:0<=a.1/\a.1<ps.length)(w:0<=a.2/\a.2<ps.length):∃d,Tab (k+1) .fi [.tup (ps.map Pl.toD),.int h,dN K,bu a]=some d/\(d=.ay/\jR k ps h K a.1 a.2=false\/(d=.str "never"/\decide (a.1∈K)=false\/d=.str "unlike"/\aA ps h a.1=true/\kO k h (ax ps a.1) (ax ps a.2)=false)/\jR k ps h K a.1 a.2=true):=by
 have C:=jx (m:=m) v.1 v.2
 have E:=jx (m:=m) w.1 w.2
 have y:=r0 (n:=k) (fu i) (ax ps a.1) h
 have z:=r0 (n:=k) (fu i) (ax ps a.2) h
 have ev:=λj p=>WB (n:=k) i (h:=h) (i4 u a.1) (i4 u a.2) j p
 have G:=GY (K:=K) (x:=a.1)
 rw[<-zJ]at y z
 have j:=λe=>r8 (ps:=ps) (h:=h) (x:=a.1) e
 have p:=λe=>r8 (ps:=ps) (h:=h) (x:=a.2) e
 suffices r:∃d,uU (Tab k) [some (.tup (ps.map Pl.toD)),some (.int h),some (dN K),some (bu a),none,none]=some (.ret d)/\(d=.ay/\jR k ps h K a.1 a.2=false\/(d=.str "never"/\decide (a.1∈K)=false\/d=.str "unlike"/\aA ps h a.1=true/\kO k h (ax ps a.1) (ax ps a.2)=false)/\jR k ps h K a.1 a.2=true) by
  obtain⟨d,e,q⟩:=r;refine⟨d,?_,q⟩;rw[tab]
  show((uU (Tab k) [some (.tup (ps.map Pl.toD)),some (.int h),some (dN K),some (bu a),none,none]).bind _)=_
  grind
 unfold uU;rw[eT (nR (aq rfl (aq rfl rfl (aT cG)) (aT C))),eT (nR (aq rfl (aq rfl rfl (aT c5)) (aT E)))];unfold jR
 generalize ax ps a.1=P at*
 generalize ax ps a.2=Q at*
 show ∃d,aQ _ _ [some (.tup (ps.map Pl.toD)),some (.int h),some (dN K),some (bu a),some P.toD,some Q.toD]=some (.ret d)/\_
 have c:gg (cB (au (Tab k .fc) (ag [aa 5,aa 1]))) [some (.tup (ps.map Pl.toD)),some (.int h),some (dN K),some (bu a),some P.toD,some Q.toD]=some (!aA ps h a.2):=mE (aN (aS (aj rfl (aj rfl rfl)) z))
 cases s:aA ps h a.2 with
 | false=>
  rw[s]at c;exact⟨.ay,gZ (by rw[mI c];rfl),.inl ⟨rfl,rfl⟩⟩
 | true=>
  rw[s]at c;rw[eT (ρ':=[some (.tup (ps.map Pl.toD)),some (.int h),some (dN K),some (bu a),some P.toD,some Q.toD]) (by rw[kF c];rfl)]
  have f:cB (ab lE (ab ak (aa 3) (cC (.int 0))) (aa 2)) [some (.tup (ps.map Pl.toD)),some (.int h),some (dN K),some (bu a),some P.toD,some Q.toD]=some (!decide (a.1∈K)):=aN (aq (aq rfl rfl (aT cG)) rfl G)
  cases A:decide (a.1∈K)with
  | false=>
   rw[A]at f;exact⟨_,gZ (by rw[mI f];rfl),.inr ⟨.inl ⟨rfl,rfl⟩,rfl⟩⟩
  | true=>
   rw[A]at f;rw[eT (ρ':=[some (.tup (ps.map Pl.toD)),some (.int h),some (dN K),some (bu a),some P.toD,some Q.toD]) (by rw[kF f];rfl)]
   have b:cB (au (Tab k .fc) (ag [aa 4,aa 1])) [some (.tup (ps.map Pl.toD)),some (.int h),some (dN K),some (bu a),some P.toD,some Q.toD]=some (aA ps h a.1):=aN (aS (aj rfl (aj rfl rfl)) y)
   cases t:aA ps h a.1 with
   | false=>
    rw[t]at b;rw[eT (ρ':=[some (.tup (ps.map Pl.toD)),some (.int h),some (dN K),some (bu a),some P.toD,some Q.toD]) (by rw[kF (zh b)];rfl)];exact⟨.ay,rfl,.inl ⟨rfl,rfl⟩⟩
   | true=>
    rw[t]at b
    have ev:=ev (j t) (p s)
    have g:gg (cB (au (Tab k .ff) (ag [aa 4,aa 5,aa 1]))) [some (.tup (ps.map Pl.toD)),some (.int h),some (dN K),some (bu a),some P.toD,some Q.toD]=some (!kO k h P Q):=mE (aN (aS (by rfl) ev))
    cases B:kO k h P Q with
    | false=>
     rw[B]at g;exact⟨_,gZ (by rw[mI (vh b g)];rfl),.inr ⟨.inr ⟨rfl,rfl,rfl⟩,rfl⟩⟩
    | true=>
     rw[B]at g;rw[eT (ρ':=[some (.tup (ps.map Pl.toD)),some (.int h),some (dN K),some (bu a),some P.toD,some Q.toD]) (by rw[kF (vh b g)];rfl)];exact⟨.ay,rfl,.inl ⟨rfl,rfl⟩⟩
noncomputable abbrev So:=Option (Str × Kd)
noncomputable def n6:So->D
 | none=>.ay
 | some s=>.tup [.str s.1,s.2.toD]
noncomputable def jS:So->Prop
 | none=>True
 | some s=>s.2.WF/\s.2.dp<=2
noncomputable abbrev n7:=c0 × So × So
def r9(s:So × So):D:=.tup [n6 s.1,n6 s.2]
def lR(e:n7):D:=.tup [bu e.1,r9 e.2]
structure GZ(R:c0->So × So->Prop)(L:List n7)(P:List c0):Prop where
 eq:L.map (·.1)=P
 le:L.length<=5
 ok:∀e∈L,jS e.2.1/\jS e.2.2
 lk:∀e∈L,R e.1 e.2
theorem G1:∀{cs:List Ch},(cs.map (·.1)).Nodup->atK (cs.map kW) (cs.map nW) (.inr w)=(iz w (cs.map λc:Ch=>(c.1,c.2.2))).map .int
 | [],_=>rfl
 | c::cs,hn=>by
  rw[a_,g8]at hn
  have f:=G1 (w:=w) hn.2
  show(if(.inr c.1:Key)=.inr w then some (D.int c.2.2)else atK (cs.map kW) (cs.map nW) (.inr w))=(match iz w (cs.map λc:Ch=>(c.1,c.2.2))with | some y=>some y | none=>if c.1=w then some c.2.2 else none).map .int
  by_cases e:c.1=w
  ·rw[if_pos (by rw[e])]
   have:iz w (cs.map λc:Ch=>(c.1,c.2.2))=none:=by
    cases z:iz w (cs.map λc:Ch=>(c.1,c.2.2))with
    | none=>rfl
    | some y=>
     have:=p7 z
     obtain⟨d,a,b⟩:=aO.mp this;exact(hn.1 (aO.mpr ⟨d,a,by rw[e];exact(Je b).1⟩)).elim
   simp_all
  grind
def p8(cs':List Ch)(c:Ch):Option n7:=(iz c.1 (cs'.map λc:Ch=>(c.1,c.2.2))).map λz=>((c.2.2,z),some (c.1,c.2.1),some (c.1,c.2.1))
theorem G3{cs':List Ch}(hn:(cs'.map (·.1)).Nodup):∀(cs:List Ch)(b d o2:Option D),b6 (ij 3 (b9 (gN 0) (b9 (gN 1) (b9 (gN 2) (ig))))) (cB (ab gE (aa 0) (aa 3))) (aD (ag [aD (ag [aa 2,ab iP (aa 3) (aa 0)]),aD (ag [aD (ag [aa 0,aa 1]),aD (ag [aa 0,aa 1])])])) [b,d,o2,some (.aH (cs'.map kW) (cs'.map nW))] (cs.map aI)=some ((cs.filterMap (p8 cs')).map lR)
 | [],_,_,_=>rfl
 | c::cs,b,d,o2=>by
  have f:=G3 hn cs (some (.str c.1)) (some c.2.1.toD) (some (.int c.2.2))
  have e:=G1 (w:=c.1) hn
  have a:gE (.str c.1) (.aH (cs'.map kW) (cs'.map nW))=some (.bl (atK (cs'.map kW) (cs'.map nW) (.inr c.1)).isSome):=rfl
  rw[e]at a;rw[z4,a_];unfold p8
  cases z:iz c.1 (cs'.map λc:Ch=>(c.1,c.2.2))with
  | none=>
   rw[z]at a
   have g:cB (ab gE (aa 0) (aa 3)) [some (.str c.1),some c.2.1.toD,some (.int c.2.2),some (.aH (cs'.map kW) (cs'.map nW))]=some false:=aN (aq rfl rfl a)
   have h:ij 3 (b9 (gN 0) (b9 (gN 1) (b9 (gN 2) (ig)))) (aI c) [b,d,o2,some (.aH (cs'.map kW) (cs'.map nW))]=some [some (.str c.1),some c.2.1.toD,some (.int c.2.2),some (.aH (cs'.map kW) (cs'.map nW))]:=rfl
   simp only[b6,h,bj,g,kY,if_false];exact f
  | some y=>
   rw[z]at a e;exact kJ (ρ':=[some (.str c.1),some c.2.1.toD,some (.int c.2.2),some (.aH (cs'.map kW) (cs'.map nW))]) rfl (aN (aq rfl rfl a)) (ba (aj (ba (aj rfl (aj (aq rfl rfl (pY rfl e)) rfl))) (by rfl))) f
theorem WM(s:So):eR (n6 s)=true:=by
 cases s with
 | none=>rfl
 | some s=>simp[n6,eR,gT,vl]
theorem WN(e:n7):eR (lR e)=true:=by simp[lR,r9,bu,eR,gT,WM]
theorem WO{n:Nat}(hn:1<=n){a b h j:Int}{cs:List Ch}(m:lQ cs)(d:lQ cs'):Tab n .fk [(Pl.say a b cs).toD,(Pl.say h j cs').toD]=some (.lst ((cs.filterMap (p8 cs')).map lR)):=by
 obtain⟨k,rfl,q⟩:=bI (c:=0) hn;refine Ev.eq ?_;rw[tab];refine i6 (np:=2) (n:=6) (gb:=yN (Tab k)) ?_;unfold yN;refine aZ (zC (aU (aZ (lO (by rfl) ?_))));refine GI (g:=nW) d (pre:=[some (.ai (Pl.say a b cs).toD),some (.ai (Pl.say h j cs').toD)]) (i:=2) rfl (i1:=0) (i2:=0) (i3:=0) (fv:=λ_=>none) (post:=λe o2 f=>[e,o2,f]) (λc ks ds e o2 f r p=>?_) (λe o2 f=>?_) none none none
 ·exact⟨_,rfl,vj rfl rfl rfl rfl (fo p) ⟨some (.ai (.str c.1)),some (.ai c.2.1.toD),some (.ai (.int c.2.2)),rfl⟩⟩
 ·refine aU (Gb (F8 (fU (cap:=[none,none,none,some 2]) (by rfl) (small (by rw[aJ];have:=m.le;exact fo this)) (G3 d.nd cs none none none)) ?_) (i5 rfl))
  simp[eR,Gz WN]
noncomputable def n8(K:List Int)(x:Int):Bool:=decide (((x.toNat:Nat):Int)∈K)
theorem vr{x:Int}(h:0<=x):n8 K x=decide (x∈K):=by unfold n8;rw[oG h]
theorem G4{h x:Int}(a:Ah (aX ps) (aA ps h) x):(ax ps x).iQ=true:=by
 cases a with
 | t q=>exact r8 q
 | s q k=>obtain⟨w,q⟩:=q;unfold aX at q;cases e:ax ps x with | fin=>rw[e]at q;cases q | say _ _ _=>rfl
theorem r_{p:Pl}(h:p.iQ=true):∃a b cs,p=.say a b cs:=by
 cases p with
 | fin=>cases h
 | say a b cs=>exact⟨a,b,cs,rfl⟩
theorem G5{b:Int}(a:ak y (.int 1)=some (.int b)):∀(cs:List Ch)(d e o2:Option D),b6 (ij 3 (b9 (gN 0) (b9 (gN 1) (b9 (gN 2) (ig))))) (λ_=>some true) (aD (ag [aD (ag [aa 2,ab ak (aa 3) (cC (.int 1))]),aD (ag [aD (ag [aa 0,aa 1]),cC .ay])])) [d,e,o2,some y] (cs.map aI)=some ((cs.map λc=>(((c.2.2,b),some (c.1,c.2.1),none):n7)).map lR)
 | [],_,_,_=>rfl
 | c::cs,d,e,o2=>kJ (ρ':=[some (.str c.1),some c.2.1.toD,some (.int c.2.2),some y]) rfl rfl (ba (aj (ba (aj rfl (aj (aq rfl rfl a) rfl))) (aj (ba (aj (ba (aj rfl (aj rfl rfl))) (aj rfl rfl))) rfl))) (G5 a cs _ _ _)
theorem G6{b:Int}(a:ak y (.int 0)=some (.int b)):∀(cs:List Ch)(d e o2:Option D),b6 (ij 3 (b9 (gN 0) (b9 (gN 1) (b9 (gN 2) (ig))))) (λ_=>some true) (aD (ag [aD (ag [ab ak (aa 3) (cC (.int 0)),aa 2]),aD (ag [cC .ay,aD (ag [aa 0,aa 1])])])) [d,e,o2,some y] (cs.map aI)=some ((cs.map λc=>(((b,c.2.2),none,some (c.1,c.2.1)):n7)).map lR)
 | [],_,_,_=>rfl
 | c::cs,d,e,o2=>kJ (ρ':=[some (.str c.1),some c.2.1.toD,some (.int c.2.2),some y]) rfl rfl (ba (aj (ba (aj (aq rfl rfl a) (aj rfl rfl))) (aj (ba (aj rfl (aj (ba (aj rfl (aj rfl rfl))) rfl))) rfl))) (G6 a cs _ _ _)
def Lk(ps:List Pl)(h:Int)(a b:c0)(s:So × So):Prop:=
 (aA ps h a.1=false/\∃c∈(ax ps a.1).bt,s=(some (c.1,c.2.1),none)/\b=(c.2.2,a.2))∨
 (aA ps h a.2=false/\∃c∈(ax ps a.2).bt,s=(none,some (c.1,c.2.1))/\b=(a.1,c.2.2))∨
 (aA ps h a.1=true/\aA ps h a.2=true/\∃c∈(ax ps a.1).bt,∃d∈(ax ps a.2).bt,d.1=c.1/\s=(some (c.1,c.2.1),some (c.1,c.2.1))/\b=(c.2.2,d.2.2))
theorem WQ{k:Nat}(Y:1<=k){k':Nat}{m:Int}{ps:List Pl}(N:G2 m ps){h:Int}{K:List Int}(w:WT ps h K []){a:c0}(A:0<=a.1/\a.1<ps.length)(B:0<=a.2/\a.2<ps.length)(t:jR k' ps h K a.1 a.2=false):∃L,Tab (k+1) .fj [.tup (ps.map Pl.toD),.int h,dN K,bu a]=some (.lst (L.map lR))/\GZ (Lk ps h a) L (i8 ps h (n8 K) a.1 a.2):=by
 have p1:=jx (m:=m) A.1 A.2
 have p2:=jx (m:=m) B.1 B.2
 have O:=r0 (n:=k) (by omega) (ax ps a.1) h
 have Q:=r0 (n:=k) (by omega) (ax ps a.2) h
 have g:=i4 N a.1
 have o2:=i4 N a.2
 rw[<-zJ]at O Q
 suffices C:∃L,uV (Tab k) [some (.tup (ps.map Pl.toD)),some (.int h),some (dN K),some (bu a),none,none]=some (.ret (.lst (L.map lR)))/\GZ (Lk ps h a) L (i8 ps h (n8 K) a.1 a.2) by
  obtain⟨d,e,q⟩:=C;refine⟨d,?_,q⟩;rw[tab]
  show((uV (Tab k) [some (.tup (ps.map Pl.toD)),some (.int h),some (dN K),some (bu a),none,none]).bind _)=_
  rw[e]
  rfl
 unfold uV;rw[eT (nR (aq rfl (aq rfl rfl (aT cG)) (aT p1))),eT (nR (aq rfl (aq rfl rfl (aT c5)) (aT p2)))]
 show ∃L:List n7,aQ _ _ [some (.tup (ps.map Pl.toD)),some (.int h),some (dN K),some (bu a),some (ax ps a.1).toD,some (ax ps a.2).toD]=some (.ret (.lst (L.map lR)))/\_
 unfold i8;rw[vr A.1,vr B.1]
 have u:cB (ab lE (ab ak (aa 3) (cC (.int 1))) (aa 2)) [some (.tup (ps.map Pl.toD)),some (.int h),some (dN K),some (bu a),some (ax ps a.1).toD,some (ax ps a.2).toD]=some (!decide (a.2∈K)):=aN (aq (aq rfl rfl (aT c5)) rfl GY)
 cases E:decide (a.2∈K)with
 | false=>
  rw[E]at u;exact⟨[],gZ (by rw[mI u];rfl),rfl,ef _,by simp,by simp⟩
 | true=>
  rw[E]at u;rw[if_neg (by simp)]
  have k2:=w.ka _ (of_decide_eq_true E)
  rw[eT (ρ':=[some (.tup (ps.map Pl.toD)),some (.int h),some (dN K),some (bu a),some (ax ps a.1).toD,some (ax ps a.2).toD]) (by rw[kF u];rfl)]
  have r:dZ (cB (ab gE (ab ak (aa 3) (cC (.int 0))) (aa 2))) (gg (cB (au (Tab k .fc) (ag [aa 4,aa 1])))) [some (.tup (ps.map Pl.toD)),some (.int h),some (dN K),some (bu a),some (ax ps a.1).toD,some (ax ps a.2).toD]=some (decide (a.1∈K)&&!aA ps h a.1):=nT (aN (aq (aq rfl rfl (aT cG)) rfl WK)) (mE (aN (aS (aj rfl (aj rfl rfl)) O)))
  by_cases i:decide (a.1∈K)=true/\aA ps h a.1=false
  ·rw[if_pos i]
   rw[i.1,i.2]at r
   refine dd (r_ (G4 (w.ka _ (of_decide_eq_true i.1)))) λx y cs j=>?_
   unfold aX;rw[j]at g r ⊢;refine⟨cs.map λc=>((c.2.2,a.2),some (c.1,c.2.1),none),gZ (by rw[mI r];exact lJ (fU (cap:=[none,none,none,some 3]) (gG (aq rfl rfl (aT gW)) rfl) (small (by rw[aJ];have:=g.2.2.2.2.2.2.1;exact fo this)) (G5 (aT c5) cs none none none))),by rw[fQ];show _=List.map _ (cs.map _);rw[fQ];rfl,by rw[aJ];exact g.2.2.2.2.2.2.1,λe b=>?_,λe b=>?_⟩
   ·obtain⟨c,f,rfl⟩:=aO.mp b
    have:=g.2.2.2.2.2.2.2.1 c f
    exact⟨⟨this.2.1,this.2.2.1⟩,trivial⟩
   ·obtain⟨c,f,rfl⟩:=aO.mp b
    exact .inl ⟨i.2,c,by rw[j];exact f,rfl,rfl⟩
  ·rw[if_neg i]
   have G:(decide (a.1∈K)&&!aA ps h a.1)=false:=by
    cases v:decide (a.1∈K)<;>cases H:aA ps h a.1<;>first | rfl | exact(i ⟨v,H⟩).elim
   rw[G]at r;rw[eT (ρ':=[some (.tup (ps.map Pl.toD)),some (.int h),some (dN K),some (bu a),some (ax ps a.1).toD,some (ax ps a.2).toD]) (by rw[kF r];rfl)]
   have s:gg (cB (au (Tab k .fc) (ag [aa 5,aa 1]))) [some (.tup (ps.map Pl.toD)),some (.int h),some (dN K),some (bu a),some (ax ps a.1).toD,some (ax ps a.2).toD]=some (!aA ps h a.2):=mE (aN (aS (aj rfl (aj rfl rfl)) Q))
   cases p:aA ps h a.2 with
   | false=>
    rw[p]at s;rw[if_pos rfl]
    refine dd (r_ (G4 k2)) λx y cs j=>?_
    unfold aX;rw[j]at o2 s ⊢;refine⟨cs.map λc=>((a.1,c.2.2),none,some (c.1,c.2.1)),gZ (by rw[mI s];exact lJ (fU (cap:=[none,none,none,some 3]) (gG (aq rfl rfl (aT gW)) rfl) (small (by rw[aJ];have:=o2.2.2.2.2.2.2.1;exact fo this)) (G6 (aT cG) cs none none none))),by rw[fQ];show _=List.map _ (cs.map _);rw[fQ];rfl,by rw[aJ];exact o2.2.2.2.2.2.2.1,λe b=>?_,λe b=>?_⟩
    ·obtain⟨c,f,rfl⟩:=aO.mp b
     have:=o2.2.2.2.2.2.2.2.1 c f
     exact⟨trivial,⟨this.2.1,this.2.2.1⟩⟩
    ·obtain⟨c,f,rfl⟩:=aO.mp b
     exact .inr (.inl ⟨p,c,by rw[j];exact f,rfl,rfl⟩)
   | true=>
    rw[p]at s;rw[if_neg (by simp)];rw[eT (ρ':=[some (.tup (ps.map Pl.toD)),some (.int h),some (dN K),some (bu a),some (ax ps a.1).toD,some (ax ps a.2).toD]) (by rw[kF s];rfl)]
    have T:aA ps h a.1=true:=by
     unfold jR at t;rw[p]at t
     cases v:decide (a.1∈K)with
     | false=>rw[v]at t;simp at t
     | true=>
      cases H:aA ps h a.1 with
      | true=>rfl
      | false=>exact(i ⟨v,H⟩).elim
    refine dd (r_ (r8 T)) λx y cs j=>?_
    refine dd (r_ (r8 p)) λx' y' cs' U=>?_
    unfold aX;rw[j]at g ⊢;rw[U]at o2 ⊢
    have I:(cs.filterMap (p8 cs')).length<=5:=cj (List.length_filterMap_le _ _) g.2.2.2.2.2.2.1
    refine⟨cs.filterMap (p8 cs'),lJ (aS (aj rfl (aj rfl rfl)) (WO Y (mJ g) (mJ o2))),?_,I,λe b=>?_,λe b=>?_⟩
    ·show _=List.filterMap _ (cs.map _)
     rw[List.map_filterMap,Yr]
     congr 1
     funext c
     unfold p8;rw[ZV]
     rfl
    ·obtain⟨c,f,q⟩:=qi.mp b
     obtain⟨z,_,rfl⟩:=bC.mp q
     have:=g.2.2.2.2.2.2.2.1 c f
     exact⟨⟨this.2.1,this.2.2.1⟩,⟨this.2.1,this.2.2.1⟩⟩
    ·obtain⟨c,f,q⟩:=qi.mp b
     obtain⟨z,hz,rfl⟩:=bC.mp q;obtain⟨c',J,M⟩:=aO.mp (p7 hz);rw[wm]at M;exact .inr (.inr ⟨T,p,c,by rw[j];exact f,c',by rw[U];exact J,M.1,rfl,by rw[<-M.2]⟩)
noncomputable abbrev Ent:=c0 × Option (c0 × So × So)
def sa:Option (c0 × So × So)->D
 | none=>.ay
 | some q=>.tup [bu q.1,r9 q.2]
def dh(E:List Ent):List D:=E.map λe=>bu e.1
def gn(E:List Ent):List D:=E.map λe=>sa e.2
structure CM(R:c0->c0->So × So->Prop)(E:List Ent):Prop where
 nd:(E.map (·.1)).Nodup
 hd:E[0]?=some ((0,0),none)
 bk:∀(i:Nat)(e:Ent),E[i]?=some e->0<i->∃q s,e.2=some (q,s)/\jS s.1/\jS s.2/\∃(j:Nat)(e':Ent),j<i/\E[j]?=some e'/\e'.1=q/\R q e.1 s
theorem G7(h:bu a=bu b):a=b:=by
 obtain⟨c,d⟩:=a;obtain⟨b1,b2⟩:=b
 simp[bu]at h
 rw[h.1,h.2]
theorem G8{E:List Ent}:bu a∈dh E↔a∈E.map (·.1):=by
 unfold dh
 constructor
 ·intro h
  obtain⟨e,b,q⟩:=aO.mp h;exact aO.mpr ⟨e,b,G7 q⟩
 ·intro h
  obtain⟨e,b,rfl⟩:=aO.mp h;exact aO.mpr ⟨e,b,rfl⟩
theorem G9:∀{E:List Ent}{e:Ent},(E.map (·.1)).Nodup->e∈E->atT (dh E) (gn E) (bu e.1)=some (sa e.2)
 | [],_,_,h=>nomatch h
 | x::E,e,hn,h=>by
  rw[a_,g8]at hn
  show(if bu x.1=bu e.1 then some (sa x.2)else atT (dh E) (gn E) (bu e.1))=_
  rcases a9.mp h with q | q
  ·rw[q,if_pos rfl]
  ·rw[if_neg λz=>hn.1 (by rw[G7 z];exact aO.mpr ⟨e,q,rfl⟩)]
   exact G9 hn.2 q
theorem G_(a:c0):cR 8 (bu a)=true:=rfl
theorem WR(a:CM R E)(h:e∈E):nK (.tab (dh E) (gn E)) (bu e.1)=some (sa e.2):=by
 show(if cR 8 (bu e.1)=true/\(dh E).length=(gn E).length then atT (dh E) (gn E) (bu e.1)else none)=_
 rw[if_pos ⟨G_ _,by simp[dh,gn]⟩,G9 a.nd h]
theorem WU{E:List Ent}:uI (bu a) (.tab (dh E) (gn E))=some (.bl (!decide (a∈E.map (·.1)))):=by
 show(if cR 8 (bu a)=true/\(dh E).length=(gn E).length then some (D.bl (!decide (bu a∈dh E)))else none)=_
 rw[if_pos ⟨G_ _,by simp[dh,gn]⟩,decide_eq_decide.mpr G8]
section
variable {i:Nat}{r:ar}{Q:aL->Prop}{ks ds kk:List D}{fk fv:ae->Option D}{fi fo:ar->Option D}{d:D}
theorem WV(h:fk (pv r)=some (.tup kk))(a:fv (pv r)=some d)(b:cR 8 (.tup kk)=true)(c:cQ d=true)(hn:r.all pH=true)(k:Q (.aF (r.set i (some (.xt (.t [.tup kk]) [d]))))):Ev (uK i fk fv r) Q:=⟨_,by
 unfold uK uJ;rw[h,bj,a,bj,if_pos ⟨b,c⟩]
 show(if r.all pH=true then _ else _)=_
 rw[if_pos hn],k⟩
theorem WW(a:fo r=some d)(b:fi r=some (.tup kk))(c:r[i]?=some (some (.xt (.t ks) ds)))(e:cR 8 (.tup kk)=true)(hn:.tup kk∉ks)(f:ks.length<aB)(k:Q (.aF (r.set i (some (.xt (.t (ks++[.tup kk])) (ds++[d])))))):Ev (uL i fi fo r) Q:=⟨_,by
 unfold uL;rw[a,bj,b,bj,c]
 simp only[if_pos (And.intro e (And.intro hn f))],k⟩
end
noncomputable def sv:So->List Wv
 | none=>[]
 | some p=>[(p.1,p.2.first)]
inductive Bk(R:c0->c0->So × So->Prop)(E:List Ent):Nat->Ent->List Wv->List Wv->Prop
 | z (h:E[0]?=some ((0,0),none)):Bk R E 0 ((0,0),none) [] []
 | s {i j:Nat} {e e':Ent} {s:So × So} {V W:List Wv} (h:E[i]?=some e) (h2:e.2=some (e'.1,s)) (h3:jS s.1) (h4:jS s.2) (h5:j<i) (h6:Bk R E j e' V W) (h7:R e'.1 e.1 s):Bk R E i e (V++sv s.1) (W++sv s.2)
theorem Ha(a:CM R E):∀(t i:Nat)(e:Ent),i<=t->E[i]?=some e->∃V W,Bk R E i e V W
 | t,0,e,_,h=>by
  rw[a.hd]at h;cases h;exact⟨[],[],.z a.hd⟩
 | t+1,i+1,e,r,h=>by
  obtain⟨q,s,c,d,f,j,g,m,n,rfl,p⟩:=a.bk _ _ h (Nat.succ_pos _);obtain⟨V,W,b⟩:=Ha a t j g (by lia) n;exact⟨_,_,.s h c d f m b p⟩
theorem Hb{R:c0->c0->So × So->Prop}{E:List Ent}{i:Nat}{e:Ent}{V W:List Wv}(b:Bk R E i e V W):E[i]?=some e:=by
 cases b with
 | z h=>exact h
 | s h=>exact h
noncomputable def pk{c:Type}(side:Int)(a b:c):c:=if side=0 then a else b
theorem Hc{R:c0->c0->So × So->Prop}{n:Nat}(hn:4<=n){E:List Ent}(B:CM R E)(Q:E.length<=20000){i:Nat}{e:Ent}{V W:List Wv}(y:Bk R E i e V W){side:Int}(C:side=0\/side=1):Tab n .fl [.tab (dh E) (gn E),bu e.1,.int side]=some (.tup ((pk side V W).map bU)):=by
 obtain⟨k,rfl,U⟩:=bI (c:=3) hn;refine Ev.eq ?_;rw[tab];refine i6 (np:=3) (n:=5) (gb:=yO (Tab k)) ?_;unfold yO;refine aZ (gY (nX rfl) (aU (aZ ?_)))
 show Ev (eQ _ _ _ [_,_,_,_,_]) _
 have G:=(cA.mp (Hb y)).1
 generalize H:(pk side V W).map bU=T
 refine nZ (λn r=>∃(i:Nat)(e:Ent)(V W:List Wv)(A:List D)(a:Option SD),r=[some (.ai (.tab (dh E) (gn E))),some (.ai (bu e.1)),some (.ai (.int side)),some (.own A),a]/\Bk R E i e V W/\(pk side V W).map bU++A.reverse=T/\i+1<=n/\A.length+n<=99999) ?_ ?_ 99999 _ ⟨i,e,V,W,[],_,rfl,y,by simpa using H,by lia,by simp⟩
 ·rintro r ⟨i,e,V,W,A,a,rfl,v,f,I,J⟩
  lia
 rintro n r ⟨i,e,V,W,A,a,rfl,v,f,I,J⟩
 have g:=WR B (ee (Hb v))
 cases v with
 | z h=>
  refine .inl ⟨aN (aq (aq rfl rfl g) rfl rfl),aU (jy (show uP (aa 3) _=some (.tup A.reverse) from rfl) (i5 ?_))⟩;rw[<-f];unfold pk;rw[ite_self]
  rfl
 | @s _ j _ L s V W h M N o2 Y b hR=>
  rw[M]at g;refine .inr ⟨aN (aq (aq rfl rfl g) rfl rfl),?_⟩
  obtain⟨m,w,q,x⟩:∃m,bA [n6 s.1,n6 s.2] side=some (n6 m)/\jS m/\pk side (V++sv s.1) (W++sv s.2)=pk side V W++sv m:=by
   rcases C with rfl | rfl
   ·exact⟨s.1,cG,N,rfl⟩
   ·exact⟨s.2,c5,o2,rfl⟩
  rw[x,cU]at f;refine aZ (dn (cT (aq (aq (aq rfl rfl g) rfl (aT c5)) rfl (aT w))) (aU (aZ ?_)))
  have t:∀(u:List D)(a:Option SD),u.length<=A.length+1->(pk side V W).map bU++u.reverse=T->Ev (bp 1 (vH (ab ak (ab nK (aa 0) (aa 1)) (cC (.int 0)))) [some (.ai (.tab (dh E) (gn E))),some (.ai (bu e.1)),some (.ai (.int side)),some (.own u),a]) (kL (λr=>∃(i:Nat)(e:Ent)(V W:List Wv)(A:List D)(a:Option SD),r=[some (.ai (.tab (dh E) (gn E))),some (.ai (bu e.1)),some (.ai (.int side)),some (.own A),a]/\Bk R E i e V W/\(pk side V W).map bU++A.reverse=T/\i+1<=n/\A.length+n<=99999) (kS (dW (uP (aa 3))) (kR λd=>d=.tup T))):=λu a hw O=>dn (cT (aq (aq rfl rfl g) rfl (aT cG))) (eX ⟨j,L,V,W,u,a,rfl,b,O,by lia,by lia⟩)
  cases m with
  | none=>exact da (aN (aq rfl rfl rfl)) (dX rfl (d5 (aU (t A _ (iS _) (by simpa [sv]using f)))))
  | some p=>
   refine da (aN (aq rfl rfl rfl)) (eW rfl (kG rfl (cT (ba (aj (aq rfl rfl (aT cG)) (aj (aS (aj (aq rfl rfl (aT c5)) rfl) (U_ p.2 (pR q.1) (by have:=q.2;lia))) rfl)))) (big (by lia)) (aU (t (A++[_]) _ (by simp) (by rw[<-f];simp[sv,bU])))))
def g6(k:Nat)(ps:List Pl)(h x y:Int):Bool:=aA ps h x&&aA ps h y&&kO k h (ax ps x) (ax ps y)
noncomputable abbrev vt(ps:List Pl)(h:Int):Int->Int->Prop:=Cs (aX ps) (aA ps h) 0
noncomputable abbrev n9(k:Nat)(ps:List Pl)(h:Int):Int->Int->Prop:=Ft (aX ps) (aA ps h) (g6 k ps h)
theorem zM{k:Nat}{h:Int}(a:GW ps)(w:WT ps h K []){x y:Int}(b:0<=x):jR k ps h K x y=true↔n9 k ps h x y:=by
 have c:=GV a w x
 rw[show decide (((x.toNat:Nat):Int)∈K)=decide (x∈K) from vr b]at c;unfold jR n9 Ft g6
 grind
theorem WX{N:Nat}{l:List c0}(hn:l.Nodup)(h:∀a∈l,(0<=a.1/\a.1<N)/\0<=a.2/\a.2<N):l.length<=N*N:=by
 have i:∀a b:c0,(0<=a.2/\a.2<(N:Int))->(0<=b.2/\b.2<(N:Int))->a.1*N+a.2=b.1*N+b.2->a=b:=λa b f j e=>by
  have m:(N:Int)≠0:=by lia
  have d:∀c:c0,0<=c.2/\c.2<(N:Int)->(c.1*N+c.2) / N=c.1:=λc g=>by
   rw[Z_,Int.add_mul_ediv_right _ _ m,Int.ediv_eq_zero_of_lt g.1 g.2,Z6]
  grind
 have n:(l.map λa=>a.1*(N:Int)+a.2).Nodup:=by
  unfold oI at hn ⊢;rw[AZ]
  exact hn.imp_of_mem λ{a b} f j r e=>(by grind)
 have:=u0 (N*N) n λx p=>by
  obtain⟨a,f,rfl⟩:=aO.mp p;obtain⟨⟨q,s⟩,b0,b1⟩:=h a f
  have t:0<=a.1*(N:Int):=Za_ q (by lia)
  have u:a.1*(N:Int)<=((N:Int)-1)*N:=Int.mul_le_mul_of_nonneg_right (by lia) (by lia)
  grind
 rwa [aJ]at this
def Rr(k:Nat)(ps:List Pl)(h:Int)(q a:c0)(s:So × So):Prop:=Lk ps h q a s/\(aA ps h q.1=true->aA ps h q.2=true->g6 k ps h q.1 q.2=true)
inductive Wy(R:c0->c0->So × So->Prop):c0->List Wv->List Wv->Prop
 | z:Wy R (0,0) [] []
 | s {q a:c0} {s:So × So} {V W:List Wv} (h:Wy R q V W) (hr:R q a s) (h1:jS s.1) (h2:jS s.2):Wy R a (V++sv s.1) (W++sv s.2)
theorem Hd(s:So):(sv s).length<=1:=by cases s<;>simp[sv]
theorem WY{i:Nat}{V W:List Wv}(b:Bk R E i e V W):Wy R e.1 V W/\V.length<=i/\W.length<=i:=by
 induction b with
 | z=>exact⟨.z,a5 _,a5 _⟩
 | @s i j e g s V W _ _ a c h _ d f=>
  have:=Hd s.1
  have:=Hd s.2
  exact⟨.s f.1 d a c,by rw[bQ];lia,by rw[bQ];lia⟩
structure RS(k:Nat)(ps:List Pl)(h:Int)(K:List Int)(E:List Ent)(l:Nat):Prop where
 cm:CM (Rr k ps h) E
 rg:∀e∈E,(0<=e.1.1/\e.1.1<ps.length)/\0<=e.1.2/\e.1.2<ps.length
 rc:∀e∈E,vt ps h e.1.1 e.1.2
 nf:∀e∈E.take l,jR k ps h K e.1.1 e.1.2=false
 cl:∀e∈E.take l,∀b∈i8 ps h (n8 K) e.1.1 e.1.2,b∈E.map (·.1)
 le:l<=E.length
theorem He{k:Nat}{ps:List Pl}{h:Int}{E:List Ent}{l:Nat}(s:RS k ps h K E l):E.length<=ps.length*ps.length:=by
 have:=WX (N:=ps.length) s.cm.nd λa b=>by
  obtain⟨e,c,rfl⟩:=aO.mp b;exact s.rg e c
 rwa [aJ]at this
theorem WZ{m:Int}{ps:List Pl}(n:GW ps){h:Int}{ah:Int->Bool}{a:c0}(q:0<=a.1/\a.1<(ps.length:Int))(r:0<=a.2/\a.2<(ps.length:Int)):∀b∈i8 ps h ah a.1 a.2,(0<=b.1/\b.1<(ps.length:Int))/\0<=b.2/\b.2<(ps.length:Int):=λb f=>by
 have j:∀{i:Int}{c:Str × Int},c∈aX ps i->0<=c.2/\c.2<(ps.length:Int):=λ{i c} g=>by
  obtain⟨d,p,rfl⟩:=aO.mp g;exact Gx n i d.2.2 (aO.mpr ⟨d,p,rfl⟩)
 unfold i8 at f
 split at f
 ·cases f
 split at f
 ·grind
 split at f
 ·grind
 ·obtain⟨c,g,e⟩:=qi.mp f
  obtain⟨z,hz,rfl⟩:=bC.mp e;exact⟨j g,j (p7 hz)⟩
theorem W0{E:List Ent}(h:CM R E){i:Nat}(n:E[i]?=some e)(p:a∉E.map (·.1))(r:jS s.1)(u:jS s.2)(hR:R e.1 a s):CM R (E++[(a,some (e.1,s))]):=by
 have v:=(cA.mp n).1
 refine⟨?_,by rw[jC (fu v)];exact h.hd,λj x d w=>?_⟩
 ·rw[cU]
  exact sS.mpr ⟨h.nd,by simp,λb m c y q=>by rw[q,br.mp y]at m;exact p m⟩
 ·by_cases f:j<E.length
  ·rw[jC f]at d
   obtain⟨q,t,A,B,o2,C,G,g,J,H,I⟩:=h.bk j x d w;exact⟨q,t,A,B,o2,C,G,g,by grind,H,I⟩
  ·rw[v7 (by lia)]at d
   have:j-E.length=0:=by
    cases q:j-E.length with
    | zero=>rfl
    | succ z=>simp_all
   rw[this]at d;cases d;exact⟨e.1,s,rfl,r,u,i,e,by lia,by grind,rfl,hR⟩
theorem W2(a:c0):cQ (bu a)=true:=rfl
theorem W3{k:Nat}(hk:3<=k){m:Int}(hG:G2 m ps)(h:Int):∃d,Tab (k+2) .fh [aE m ps,.int h]=some d/\(d=.ay/\(∀x y,vt ps h x y->¬n9 k ps h x y)\/∃(str:Str)(a:c0)(V W:List Wv),d=.tup [.str str,.tup (V.map bU),.tup (W.map bU)]/\vt ps h a.1 a.2/\n9 k ps h a.1 a.2/\(str="never"/\¬Ah (aX ps) (aA ps h) a.1\/str="unlike"/\aA ps h a.1=true/\g6 k ps h a.1 a.2=false)/\Wy (Rr k ps h) a V W/\V.length<=16900/\W.length<=16900):=by
 have B:=n4 hG
 have T:=B.n2
 have hN:=B.n1
 have hsq:ps.length*ps.length<=16900:=Nat.mul_le_mul T T
 obtain⟨K,hK,w⟩:=WI (n:=k+1) (by lia) B h
 have ha:=GV B w
 have U:RS k ps h K [((0,0),none)] 0:=by
  refine⟨⟨by simp,rfl,λi e q hi=>?_⟩,λe g=>?_,λe g=>?_,by simp,by simp,ef _⟩
  ·cases i with
   | zero=>lia
   | succ i=>simp at q
  ·rw[br.mp g]
   exact⟨⟨Jn _,by show(0:Int)<_;lia⟩,Jn _,by show(0:Int)<_;lia⟩
  ·rw[br.mp g]
   exact .z
 show Ev _ _
 rw[tab];refine i6 (np:=2) (n:=11) (gb:=yM (Tab (k+1))) ?_;unfold yM;refine aZ (dn (cT (aq rfl rfl (aT c5))) (aU (aZ (dn (cT (aS (aj rfl (aj rfl rfl)) hK)) (aU (aZ (WV (ba (aj rfl (aj rfl rfl))) rfl rfl rfl rfl (aU (aZ (gY (nX (aj (ba (aj rfl (aj rfl rfl))) rfl)) (aU (aZ (dn rfl (aU (aZ ?_)))))))))))))))
 show Ev (eQ _ _ _ [_,_,_,_,_,_,_,_,_,_,_]) _
 refine nZ (λn r=>∃(E:List Ent)(l:Nat)(o7 o8 G j:Option SD),r=[some (.ai (aE m ps)),some (.ai (.int h)),some (.ai (.tup (ps.map Pl.toD))),some (.ai (dN K)),some (.xt (.t (dh E)) (gn E)),some (.own (dh E)),some (.ai (.int (l:Int))),o7,o8,G,j]/\RS k ps h K E l/\16901<=l+n) ?_ ?_ 99999 _ ⟨[((0,0),none)],0,_,_,_,_,rfl,U,by lia⟩
 ·rintro r ⟨E,l,o7,o8,G,j,rfl,s,H⟩
  have:=He s
  have:=s.le
  lia
 rintro n r ⟨E,l,o7,o8,G,j,rfl,s,H⟩
 have hEl:=He s
 have hlen:cV [.lst (dh E)]=some (.int (E.length:Nat)):=by show some (D.int ((dh E).length:Nat))=_;rw[show(dh E).length=E.length from aJ ..]
 by_cases I:l<E.length
 ·refine .inr ⟨aN (aq rfl (aS (aj rfl rfl) hlen) (by show some (D.bl (decide _))=_;rw[decide_eq_true (by lia)])),?_⟩
  obtain⟨e,g⟩:∃e,E[l]?=some e:=⟨_,c6 I⟩
  have J:=ee g
  have rZ:bA (dh E) (l:Int)=some (bu e.1):=by
   rw[pO (by rw[show(dh E).length=E.length from aJ ..];exact I)]
   have:=(cA.mp g).2
   simp[dh,this]
  obtain⟨O,g2⟩:=s.rg e J;obtain⟨d,hd,v⟩:=WL (k:=k) (fu hk) hG (h:=h) (K:=K) O g2;refine aZ (dn (nV (aq rfl rfl (i7 rZ)) (W2 _)) (aU (aZ (dn (cT (aS (aj rfl (aj rfl (aj rfl (aj rfl rfl)))) hd)) (aU (aZ ?_))))));rcases v with⟨rfl,v⟩ | ⟨Y,v⟩
  ·refine da (aN (aq rfl rfl rfl)) (dX rfl (d5 (aU (aZ ?_))))
   obtain⟨L,hL,Q⟩:=WQ (k:=k) (fu hk) hG w O g2 v;refine lO (gG (aS (aj rfl (aj rfl (aj rfl (aj rfl rfl)))) hL) rfl) ?_
   have W4:¬n9 k ps h e.1.1 e.1.2:=λz=>by rw[(zM B w O.1).mpr z]at v;cases v
   have W5:=Wt (ev:=g6 k ps h) ha (s.rc e J) W4
   have W6:=WZ (m:=m) B (h:=h) (ah:=n8 K) O g2
   show Ev (c_ _ _ _ [_,_,_,_,_,_,_,_,_,_,_]) _
   refine kH (λR (t:Nat) r=>∃(X:List Ent)(G j:Option SD),r=[some (.ai (aE m ps)),some (.ai (.int h)),some (.ai (.tup (ps.map Pl.toD))),some (.ai (dN K)),some (.xt (.t (dh (E++X))) (gn (E++X))),some (.own (dh (E++X))),some (.ai (.int (l:Int))),some (.ai (bu e.1)),some (.ai .ay),G,j]/\CM (Rr k ps h) (E++X)/\(∀x∈X,((0<=x.1.1/\x.1.1<(ps.length:Int))/\0<=x.1.2/\x.1.2<(ps.length:Int))/\vt ps h x.1.1 x.1.2)/\(∀x∈L.take t,x.1∈(E++X).map (·.1))/\X.length<=t) ⟨[],_,_,by first | (rw[gv];done) | (rw[gv];rfl),by rw[gv];exact s.cm,by simp,by simp,ef _⟩ ?_ ?_
   ·rintro t d r Hf ⟨X,G,j,rfl,c,M,N,q3⟩
    rw[bJ,bC]at Hf;obtain⟨st,u,rfl⟩:=Hf
    have p:=ee u
    have C:st.1∈i8 ps h (n8 K) e.1.1 e.1.2:=by rw[<-Q.eq];exact aO.mpr ⟨st,p,rfl⟩
    have htl:=(cA.mp u).1
    have hL5:=Q.le
    refine⟨_,rfl,da (aN (aq rfl rfl WU)) ?_⟩
    by_cases A:st.1∈(E++X).map (·.1)
    ·refine dX (by simpa using A) (d5 (eX ⟨X,_,_,rfl,c,M,λx f=>?_,by lia⟩))
     rw[l6,u]at f;rcases bW.mp f with z | z
     ·exact N x z
     ·have:x=st:=by simpa using z
      rw[this];exact A
    ·have hl2:(E++X).length<=16905:=by rw[bQ];lia
     have hkl:(dh (E++X)).length=(E++X).length:=aJ ..
     have eK:dh (E++X)++[bu st.1]=dh (E++(X++[(st.1,some (e.1,st.2))])):=by simp[dh]
     have eV:gn (E++X)++[.tup [bu e.1,r9 st.2]]=gn (E++(X++[(st.1,some (e.1,st.2))])):=by simp[gn,sa]
     refine eW (by simpa using A) (aZ (WW (kk:=[.int st.1.1,.int st.1.2]) (cT (ba (aj rfl (aj rfl rfl)))) rfl rfl rfl (λz=>A (G8.mp z)) (big (by lia)) (aU (kG rfl rfl (big (by lia)) (eX ⟨X++[(st.1,some (e.1,st.2))],some (.ai (bu st.1)),some (.ai (r9 st.2)),?_,?_,λx f=>?_,λx f=>?_,by simp<;>omega⟩)))))
     ·rw[<-eK,<-eV]
      rfl
     ·rw[<-j8]
      exact W0 c (by rw[jC I];exact g) A (Q.ok st p).1 (Q.ok st p).2 ⟨Q.lk st p,λu1 u2=>by unfold jR at v;unfold g6;simp only[u1,u2,ot]at v ⊢;simpa using(Zc_.mp v).2⟩
     ·rcases bW.mp f with z | z
      ·exact M x z
      ·rw[br.mp z]
       exact⟨W6 st.1 C,W5 st.1 C⟩
     ·rw[<-j8,cU]
      rw[l6,u]at f;rcases bW.mp f with z | z
      ·exact gK _ (N x z)
      ·have:x=st:=by simpa using z
       rw[this];exact dR _ (by simp)
   ·rintro r ⟨X,G,j,rfl,c,M,N,q3⟩
    rw[aJ,k0]at N
    have Hg:(E++X).take (l+1)=E.take l++[e]:=by rw[List.take_append_of_le_length (by assumption),l6,g];rfl
    refine aU (Ga rfl rfl (eX ⟨E++X,l+1,_,_,_,_,rfl,⟨c,λx f=>?_,λx f=>?_,λx f=>?_,λx f b C=>?_,by rw[bQ];lia⟩,by lia⟩))
    ·exact(bW.mp f).elim (s.rg x) λz=>(M x z).1
    ·exact(bW.mp f).elim (s.rc x) λz=>(M x z).2
    ·rw[Hg]at f
     rcases bW.mp f with z | z
     ·exact s.nf x z
     ·rw[br.mp z];exact v
    ·rw[Hg]at f
     rcases bW.mp f with z | z
     ·rw[cU];exact gK _ (s.cl x z b C)
     ·rw[br.mp z,<-Q.eq]at C
      obtain⟨st,u,rfl⟩:=aO.mp C;exact N st u
  ·obtain⟨V,W,b⟩:=Ha s.cm l l e (a5 _) g
   obtain⟨y1,y2,y3⟩:=WY b
   have zB:=Hc (n:=k+1) (by lia) s.cm (by lia) b (side:=0) (.inl rfl)
   have lx:=Hc (n:=k+1) (by lia) s.cm (by lia) b (side:=1) (.inr rfl)
   have W7:=(zM B w O.1).mp v
   obtain⟨str,rfl,W8⟩:∃str:Str,d=.str str/\(str="never"/\¬Ah (aX ps) (aA ps h) e.1.1\/str="unlike"/\aA ps h e.1.1=true/\g6 k ps h e.1.1 e.1.2=false):=by
    rcases Y with⟨rfl,q⟩ | ⟨rfl,M,N⟩
    ·exact⟨_,rfl,.inl ⟨rfl,λz=>by
      have:=(ha e.1.1).mpr z
      rw[show decide (((e.1.1.toNat:Nat):Int)∈K)=decide (e.1.1∈K) from vr O.1,q]at this
      cases this⟩⟩
    ·exact⟨_,rfl,.inr ⟨rfl,M,by unfold g6;rw[N,qr]⟩⟩
   refine da (aN (aq rfl rfl rfl)) (eW rfl ?_);exact jy (ba (aj rfl (aj (aS (aj rfl (aj rfl (aj rfl rfl))) zB) (aj (aS (aj rfl (aj rfl (aj rfl rfl))) lx) rfl)))) (rV (zi (rV (i5 (.inr ⟨str,e.1,V,W,rfl,s.rc e J,W7,W8,y1,by lia,by lia⟩)))))
 ·refine .inl ⟨aN (aq rfl (aS (aj rfl rfl) hlen) (by show some (D.bl (decide _))=_;rw[decide_eq_false (by lia)])),aU (jy rfl (i5 (.inl ⟨rfl,?_⟩)))⟩
  have hle:l=E.length:=by have:=s.le;lia
  have Hh:=s.nf
  have iJ:=s.cl
  rw[hle,k0]at Hh iJ
  refine Ww (L:=E.map (·.1)) ha (λi=>?_) ⟨aO.mpr ⟨_,ee s.cm.hd,rfl⟩,λa H=>?_,λa H b C=>?_⟩ λa H=>?_
  ·have:=i4 hG i
   unfold aX;rw[fQ]
   cases z:ax ps i with
   | fin=>exact .nil
   | say x y cs=>rw[z]at this;exact this.2.2.2.2.2.2.2.2
  ·obtain⟨e,g,rfl⟩:=aO.mp H
   exact s.rc e g
  ·obtain⟨e,g,rfl⟩:=aO.mp H
   exact iJ e g b C
  ·obtain⟨e,g,rfl⟩:=aO.mp H
   intro z
   have:=Hh e g
   rw[(zM B w (s.rg e g).1.1).mpr z]at this;cases this
theorem W9(d:D)(h:bZ d=true)(a:∀xs,d≠ .tup xs):cu d d=true:=by
 cases d with
 | tup xs=>simp_all
 | lst xs=>simp[bZ]at h
 | aW | aH | tab=>simp[bZ]at h
 | ay=>rfl
 | bl b=>cases b<;>rfl
 | int i=>simp[cu]
 | str x=>simp[cu]
theorem Hi{n:Nat}(a:∀d,bZ d=true->dm d<=n->bM n d d=some true):∀xs:List D,eM xs=true->d4 xs<=n->cy n xs xs=some true
 | [],_,_=>by simp[cy]
 | x::xs,h,b=>by
  simp only[eM,bB]at h
  have c:max (dm x) (d4 xs)<=n:=b
  simp[cy,a x h.1 (by lia),Hi a xs h.2 (by lia)]
theorem Hj:∀(n:Nat)(d:D),bZ d=true->dm d<=n->bM n d d=some true
 | 0,d,h,a=>by
  have c:∀xs,d≠ .tup xs:=λxs e=>by subst e;simp[dm]at a
  have:=W9 d h c
  cases d with
  | tup xs=>exact absurd rfl (c xs)
  | lst xs=>simp[bZ]at h
  | aW | aH | tab=>simp[bZ]at h
  | _=>simp[bM,pd,gh,cN,this]
 | n+1,d,h,a=>by
  cases d with
  | tup xs=>
   have f:d4 xs+1<=n+1:=a
   simp[bM,Hi (λd=>Hj n d) xs (by simpa [bZ]using h) (by lia)]
  | lst xs=>simp[bZ]at h
  | aW | aH | tab=>simp[bZ]at h
  | ay=>rfl
  | bl b=>cases b<;>rfl
  | int i=>simp[bM,pd,gh,cN,cu]
  | str x=>simp[bM,pd,gh,cN,cu]
theorem W_(h:bZ d=true)(a:dm d<=60):dt 64 d d=some (.bl false):=by
 have:=Hj 64 d h (fo a)
 simp[dt,this]
theorem Xa{m:Int}(a:G2 m ps):∀{W:List Wv}{o:Option Int},vd ps o->vd ps (iu ps o W):=by
 intro W
 induction W with
 | nil=>intro o h;cases o<;>exact h
 | cons x r b=>
  intro o h
  cases o with
  | none=>trivial
  | some i=>exact b (ze a i x.1 x.2)
end PM
namespace PM
section
variable {α:Type}{nx:Int->List (α × Int)}{tu:Int->Bool}{ev:Int->Int->Bool}{p:Int}
theorem Hk{x y a c:Int}(h:Sy nx tu p x y)(e:Ep nx tu x a)(d:Ep nx tu y c):Sy nx tu p a c:=by
 have f:Sy nx tu p a y:=by
  induction e with
  | z=>exact h
  | s _ n s b=>exact .l b n s
 induction d with
 | z=>exact f
 | s _ n s b=>exact .r b n s
structure Gk(nx:Int->List (α × Int))(tu:Int->Bool)(ev:Int->Int->Bool)(Ks:List (List Int))(i:Nat):Prop where
 hd:∃G,Ks[0]?=some G/\∀z,Ep nx tu 0 z->z∈G
 sd:∀G∈Ks,∀p∈G,∀q∈G,Sy nx tu 0 p q
 cl:∀G∈Ks,∀p∈G,tu p=false->∀y,Sc nx p y->y∈G
 on:∀j,j<i->∀G,Ks[j]?=some G->∀w,∃G'∈Ks,∀p∈G,tu p=true->∀y,(w,y)∈nx p->y∈G'
 ev:∀j,j<i->∀G,Ks[j]?=some G->∀p∈G,∀q∈G,tu q=true->Ah nx tu p/\(tu p=true->ev p q=true)
theorem Xb{Ks:List (List Int)}(h:Gk nx tu ev Ks Ks.length){x y:Int}(s:Sy nx tu 0 x y):∃G∈Ks,x∈G/\y∈G:=by
 induction s with
 | z=>obtain⟨G,a,c⟩:=h.hd;exact⟨G,ee a,c 0 .z,c 0 .z⟩
 | l _ n s d=>obtain⟨G,a,c,e⟩:=d;exact⟨G,a,h.cl G a _ c n _ s,e⟩
 | r _ n s d=>obtain⟨G,a,c,e⟩:=d;exact⟨G,a,c,h.cl G a _ e n _ s⟩
 | b _ n m s t d=>
  obtain⟨G,a,c,e⟩:=d;obtain⟨j,f⟩:=Zd_ a;obtain⟨i,q,g⟩:=h.on j (cA.mp f).1 G f _;exact⟨i,q,g _ c n _ s,g _ e m _ t⟩
theorem Xc{Ks:List (List Int)}(h:Gk nx tu ev Ks Ks.length){x y:Int}(s:Sy nx tu 0 x y):¬Ft nx tu ev x y:=by
 rintro⟨m,f⟩
 obtain⟨G,d,e,g⟩:=Xb h s;obtain⟨j,c⟩:=Zd_ d;obtain⟨a,b⟩:=h.ev j (cA.mp c).1 G c x e y g m;rcases f with f | ⟨n,f⟩
 ·exact f a
 ·rw[b n]at f;cases f
theorem Xd{G:List Int}(f:∀p∈G,∀q∈G,Sy nx tu 0 p q){w:α}{x y c d z e:Int}(g:x∈G)(h:y∈G)(i:tu x=true)(j:tu y=true)(m:(w,c)∈nx x)(sy:(w,d)∈nx y)(n:Ep nx tu c z)(a:Ep nx tu d e):Sy nx tu 0 z e:=Hk (.b (f x g y h) i j m sy) n a
end
noncomputable def subs{a:Type}:List a->List (List a)
 | []=>[[]]
 | x::l=>subs l++(subs l).map (x:: ·)
theorem Hl{a:Type}:∀l:List a,(subs l).length=2 ^ l.length
 | []=>rfl
 | x::l=>by simp[subs,Hl l,Nat.pow_succ];lia
theorem Xe{c:Type}{T l:List c}(h:T.Sublist l):T∈subs l:=by
 induction h with
 | slnil=>exact br.mpr rfl
 | cons a _ b=>exact gK _ b
 | cons_cons a _ b=>exact dR _ (aO.mpr ⟨_,b,rfl⟩)
theorem p9{e:Type}:∀{l m:List e},l.Nodup->(∀x∈l,x∈m)->l.length<=m.length
 | [],_,_,_=>ef _
 | x::l,m,hn,c=>by
  rw[g8]at hn;obtain⟨a,b,rfl⟩:=List.append_of_mem (c x bg)
  have:=p9 (l:=l) (m:=a++b) hn.2 λy d=>by
   rcases bW.mp (c y (bV _ d))with q | q
   ·exact gK _ q
   ·rcases a9.mp q with rfl | q
    ·exact(hn.1 d).elim
    ·exact dR _ q
  simp at this ⊢
  lia
end PM
namespace PM
open PySem L2 DL PT
theorem mK{np n:Nat}{ds:List D}(h:g (iW n ds)=some (.ret d))(a:ds.length=np):cI np n g ds=some d:=by unfold cI;rw[if_pos a,h];rfl
theorem se{b:Type}{g h:b->D}{c:ae->Option D}{tl:ae}:∀(l:List b)(o:Option D),(∀a∈l,c (some (g a)::tl)=some (h a))->b6 (gN 0) (λ_=>some true) c (o::tl) (l.map g)=some (l.map h)
 | [],_,_=>rfl
 | a::r,o,d=>kJ (ρ':=some (g a)::tl) rfl rfl (d a bg) (se r (some (g a)) λx e=>d x (bV _ e))
theorem Xf{xs ys:List D}(b:fa a=some (.lst xs))(c:d a=some (.lst ys))(e:xs.length+ys.length<=aB):lC fa d a=some (xs++ys):=by simp[lC,b,c,ug,e]
def lS(h:Int):Pl->D
 | .say a b _=>if(a==h||b==h)=true then bN h a b else .ay
 | .fin=>.ay
theorem Hm{h x:Int}:eA (lS h (ax ps x)) .ay=!aA ps h x:=by
 unfold aA lS
 cases ax ps x with
 | fin=>rfl
 | say a b cs=>
  simp only
  cases e:(a==h||b==h)with
  | true=>unfold bN;simp only[if_true];split<;>rfl
  | false=>rfl
theorem Hn{h x:Int}:jo (lS h (ax ps x)) .ay=some (.bl (!aA ps h x)):=by rw[pP,Hm]
theorem zN{h x:Int}:hZ (lS h (ax ps x)) .ay=some (.bl (aA ps h x)):=by rw[y_,Hm,Ze_]
theorem Xg(h a b:Int):nO (.int h) (.tup [.int a,.int b])=some (.bl (!(a==h||b==h))):=by
 simp[nO,fR,cN,cu]
theorem mL{n:Nat}(hn:1<=n){m:Int}{ps:List Pl}{h x:Int}(j:0<=x)(p:x<ps.length):Tab n .fE [aE m ps,.int h,.int x]=some (lS h (ax ps x)):=by
 obtain⟨k,rfl,r⟩:=bI (c:=0) hn
 have d:=jx (m:=m) j p
 rw[tab]
 cases e:ax ps x with
 | fin=>
  rw[e]at d;exact mK (n:=4) (dM (lN (aq (aq rfl rfl (aT c5)) rfl (aT d))) (gZ (by rw[pV (VC (aN (aq (aq rfl rfl (aT cG)) rfl rfl)))];rfl))) rfl
 | say a b cs=>
  rw[e]at d
  have i:∀o,cB (ab (a7 64) (ab ak (aa 3) (cC (.int 0))) (cC (.str "end"))) [some (aE m ps),some (.int h),o,some (Pl.say a b cs).toD]=some false:=λo=>aN (aq (aq rfl rfl (aT cG)) rfl rfl)
  have f:∀o,cB (ab nO (aa 1) (eO (aa 3) (c8 (cC (.int 1))) (c8 (cC (.int 3))))) [some (aE m ps),some (.int h),o,some (Pl.say a b cs).toD]=some (!(a==h||b==h)):=λo=>aN (aq rfl (mF (z:=.tup [.int a,.int b]) rfl (iw rfl) (iw rfl) rfl) (Xg h a b))
  refine mK (n:=4) (dM (lN (aq (aq rfl rfl (aT c5)) rfl (aT d))) ?_) rfl
  show aQ _ _ [some (aE m ps),some (.int h),some (.int x),some (Pl.say a b cs).toD]=some (.ret (if(a==h||b==h)=true then bN h a b else .ay))
  cases z:(a==h||b==h)with
  | false=>
   have f:=f (some (.int x))
   rw[z]at f;exact gZ (by rw[pV (rT (i _) f)];rfl)
  | true=>
   have f:=f (some (.int x))
   rw[z]at f;refine dM (gX (rT (i _) f) rfl) ?_
   show _=some (Out.ret (if(a==h)=true then .tup [.str "says",.int b]else .tup [.str "hears",.int a]))
   have g:cB (ab (a7 64) (ab ak (aa 3) (cC (.int 1))) (aa 1)) [some (aE m ps),some (.int h),some (.int x),some (Pl.say a b cs).toD]=some (a==h):=aN (aq (aq rfl rfl (aT c5)) rfl eq_int)
   cases q:(a==h)with
   | true=>rw[q]at g;exact gZ (by rw[pV g];rfl)
   | false=>rw[q]at g;exact dM (gX g rfl) (VH (ba (aj rfl (aj (aq rfl rfl (aT c5)) rfl))))
theorem Xh(h:f a=some (.tup xs)):nG f a=some (iK 0 xs):=by simp[nG,h,Ej]
theorem Xi{i:Nat}(h:(iK 0 ds)[i]?=some d):∃y,ds[i]?=some y/\d=.tup [.int (i:Int),y]:=by
 obtain⟨y,a,b⟩:=ua ds 0 i d h;exact⟨y,a,by rw[b,k1]⟩
def gq(ps:List Pl)(h:Int)(S:List Int):List Int:=((dY ps.length).map λ(i:Nat)=>(i:Int)).filter λz=>@decide (∃s∈S,Ep (aX ps) (aA ps h) s z) (sF _)
theorem iA{ps:List Pl}{h:Int}{z:Int}:z∈gq ps h S↔(0<=z/\z<ps.length)/\∃s∈S,Ep (aX ps) (aA ps h) s z:=by
 unfold gq;rw[d6,aO]
 constructor
 ·rintro⟨⟨i,b,rfl⟩,a⟩
  exact⟨⟨by lia,by have:=l8.mp b;lia⟩,@of_decide_eq_true _ (sF _) a⟩
 ·rintro⟨c,a⟩
  exact⟨⟨z.toNat,l8.mpr (by omega),by lia⟩,@decide_eq_true _ (sF _) a⟩
theorem Xj(n:Nat):((dY n).map λ(i:Nat)=>(i:Int)).Pairwise (· < ·):=AZ.mpr ((List.pairwise_lt_range (n:=n)).imp λh=>by lia)
theorem Ho(ps:List Pl)(h:Int)(S:List Int):(gq ps h S).Pairwise (· < ·):=(Xj _).filter _
theorem Xk(ps:List Pl)(h:Int)(S:List Int):(gq ps h S).Nodup:=(Ho ps h S).imp λh=>by lia
theorem Xl{h:Int}{F:List Int}(hn:F.Nodup)(a:∀z,z∈F↔z∈gq ps h S):jO F=gq ps h S:=yF (yE F) ((Ho ps h S).imp λh=>by lia) ((uS F).trans ((List.perm_ext_iff_of_nodup hn (Xk ps h S)).mpr a))
theorem zO{m:Int}{ps:List Pl}(a:G2 m ps){h x y:Int}(b:0<=x/\x<ps.length)(e:Ep (aX ps) (aA ps h) x y):0<=y/\y<ps.length:=by
 induction e with
 | z=>exact b
 | @s u v _ _ s f=>
  obtain⟨w,s⟩:=s;obtain⟨c,d,e⟩:=aO.mp s;cases e
  have:=(p6 (n4 a) u).2 c d
  exact⟨this.2.2.2.1,this.2.2.2.2⟩
theorem Hq{n:Nat}(hn:2<=n){m:Int}{ps:List Pl}(hG:G2 m ps)(hp:ps.length<64){h:Int}{S:List Int}(hS:∀s∈S,0<=s/\s<ps.length)(hl:S.length<=900):Tab n .fF [aE m ps,.int h,.lst (S.map .int)]=some (.tup ((gq ps h S).map .int)):=by
 obtain⟨k,rfl,hk⟩:=bI (c:=1) hn;refine Ev.eq ?_;rw[tab];refine i6 (np:=3) (n:=6) (gb:=yW (Tab k)) ?_;unfold yW;refine aZ (gY (ds:=[]) rfl (aU (aZ (gY (ds:=S.map .int) rfl (aU (aZ ?_))))))
 show Ev (eQ _ _ _ [_,_,_,_,_,_]) _
 refine nZ (λn r=>∃(F L:List Int)(H:Option SD),r=[some (.ai (aE m ps)),some (.ai (.int h)),some (.ai (.lst (S.map .int))),some (.own (F.map .int)),some (.own (L.map .int)),H]/\F.Nodup/\(∀z∈F,z∈gq ps h S)/\(∀z∈L,z∈gq ps h S)/\(∀s∈S,s∈F\/s∈L)/\(∀z∈F,aA ps h z=false->∀y,Sc (aX ps) z y->y∈F\/y∈L)/\L.length+6*(ps.length-F.length)+1<=n/\L.length<=900+5*F.length) ?_ ?_ 99999 _ ⟨[],S,none,rfl,ZP,by simp,λz hz=>iA.mpr ⟨hS z hz,z,hz,.z⟩,λs g=>.inr g,by simp,by simp;lia,by simpa using hl⟩
 ·rintro r ⟨F,L,H,rfl,_,_,_,_,_,I,_⟩
  lia
 rintro n r ⟨F,L,H,rfl,u,A,C,J,M,I,h7⟩
 have hFl:F.length<=ps.length:=by
  have:=p9 u (m:=(dY ps.length).map λ(i:Nat)=>(i:Int)) λz hz=>by
   have:=(iA.mp (A z hz)).1
   exact aO.mpr ⟨z.toNat,l8.mpr (by lia),by lia⟩
  simpa using this
 by_cases E:L=[]
 ·subst E
  refine .inl ⟨nU rfl rfl,?_⟩
  have p:∀z,z∈F↔z∈gq ps h S:=λz=>⟨A z,λhz=>by
   obtain⟨q0,s,g,e⟩:=iA.mp hz
   clear hz q0
   induction e with
   | z=>exact(J s g).resolve_right (by simp)
   | s _ n s ih=>exact(M _ ih n _ s).resolve_right (by simp)⟩
  have N:yH [.lst (F.map .int)]=some (.lst ((gq ps h S).map .int)):=by
   show(if(F.map D.int).length<64 then(i0 (F.map D.int)).map (λns=>D.lst ((jO ns).map .int))else none)=_
   rw[if_pos (by rw[aJ];lia),vp,wg,Xl u p]
  exact aU (jy (aS (aj (aS (aj rfl rfl) N) rfl) rfl) (i5 rfl))
 ·obtain⟨d,y,rfl⟩:∃d y,L=d++[y]:=⟨L.dropLast,L.getLast E,(Ji E).symm⟩
  clear E
  have em:(d++[y]).map D.int=d.map D.int++[.int y]:=by rw[cU]<;>rfl
  rw[em]
  have hy:=C y (by simp)
  obtain⟨⟨O,Q⟩,T⟩:=iA.mp hy;rw[bQ]at I h7;simp only[IF]at I h7
  have f:=jx (m:=m) O Q
  have U:=mL (n:=k) (m:=m) (h:=h) hk O Q
  refine .inr ⟨nU rfl (by show rA (.lst (d.map D.int++[.int y]))=_;cases d<;>rfl),aZ (zq rfl (aU (da (aN (aq rfl rfl (vo F y))) ?_)))⟩
  by_cases p:y∈F
  ·refine dX (by simpa using p) (d5 (eX ⟨F,d,some (.ai (.int y)),rfl,u,A,λz hz=>C z (by simp[hz]),λs g=>(J s g).elim .inl λq=>?_,λz hz j v sv=>(M z hz j v sv).elim .inl λq=>?_,by lia,by lia⟩))
   all_goals
    rcases bW.mp q with q | q
    ·exact .inr q
    ·rw[br.mp q];exact .inl p
  ·have lu:F.length<ps.length:=by
    have:=p9 (l:=y::F) (m:=(dY ps.length).map λ(i:Nat)=>(i:Int)) (g8.mpr ⟨p,u⟩) λz hz=>by
     have hz:0<=z/\z<ps.length:=(a9.mp hz).elim (λe=>e▸⟨O,Q⟩) λq=>(iA.mp (A z q)).1
     exact aO.mpr ⟨z.toNat,l8.mpr (by omega),by lia⟩
    simp at this
    assumption
   have nd:(F++[y]).Nodup:=sS.mpr ⟨u,by simp,λa ha b hb e=>p (by rw[<-br.mp hb,<-e];exact ha)⟩
   have f2:∀z∈F++[y],z∈gq ps h S:=λz hz=>(bW.mp hz).elim (A z) λq=>by rw[br.mp q];exact hy
   have f4:∀X:List Int,∀s∈S,s∈F++[y]\/s∈d++X:=λX s g=>(J s g).elim (λq=>.inl (gK _ q)) λq=>(bW.mp q).elim (λq=>.inr (gK _ q)) λq=>.inl (dR _ q)
   have f5:∀X:List Int,∀z∈F,aA ps h z=false->∀v,Sc (aX ps) z v->v∈F++[y]\/v∈d++X:=λX z hz j v sv=>(M z hz j v sv).elim (λq=>.inl (gK _ q)) λq=>(bW.mp q).elim (λq=>.inr (gK _ q)) λq=>.inl (dR _ q)
   have eF:F.map D.int++[.int y]=(F++[y]).map D.int:=by rw[cU]<;>rfl
   refine eW (by simpa using p) (aZ (kG rfl (x:=.int y) rfl (small (by rw[aJ];lia)) (aU ?_)))
   have cS:cB (ab jo (au (Tab k .fE) (ag [aa 0,aa 1,aa 5])) (cC .ay)) (fz [some (.ai (aE m ps)),some (.ai (.int h)),some (.ai (.lst (S.map .int))),some (.own (F.map .int++[.int y])),some (.own (d.map .int)),some (.ai (.int y))])=some (!aA ps h y):=aN (aq (aS (aj rfl (aj rfl (aj rfl rfl))) U) rfl Hn)
   have cP:cB (ab (a7 64) (ab ak (ab ak (ab ak (aa 0) (cC (.int 1))) (aa 5)) (cC (.int 0))) (cC (.str "say"))) (fz [some (.ai (aE m ps)),some (.ai (.int h)),some (.ai (.lst (S.map .int))),some (.own (F.map .int++[.int y])),some (.own (d.map .int)),some (.ai (.int y))])=some (ax ps y).iQ:=by
    cases q:ax ps y with
    | fin=>rw[q]at f;exact aN (aq (aq (aq (aq rfl rfl (aT c5)) rfl (aT f)) rfl (aT cG)) rfl rfl)
    | say a b cs=>rw[q]at f;exact aN (aq (aq (aq (aq rfl rfl (aT c5)) rfl (aT f)) rfl (aT cG)) rfl rfl)
   refine da (nT cP cS) ?_
   cases q:((ax ps y).iQ&&!aA ps h y)with
   | false=>
    refine dX rfl (d5 (eX ⟨F++[y],d,some (.ai (.int y)),by rw[<-eF]<;>rfl,nd,f2,λz hz=>C z (by simp[hz]),λs g=>by simpa using f4 [] s g,λz hz j v sv=>?_,by rw[bQ];simp;omega,by rw[bQ];simp;lia⟩));rcases bW.mp hz with hz | hz
    ·simpa using f5 [] z hz j v sv
    ·rw[br.mp hz]at j sv
     obtain⟨w,sv⟩:=sv;rw[j]at q;unfold aX at sv
     cases e:ax ps y with
     | fin=>rw[e]at sv;cases sv
     | say a b cs=>rw[e]at q;cases q
   | true=>
    rw[bB,mS]at q;obtain⟨a,b,cs,e⟩:=r_ q.1
    have Y:=i4 hG y
    rw[e]at f Y
    have zP:=Y.2.2.2.2.2.2.1
    have t:b6 (gN 0) (λ_=>some true) (ab ak (aa 0) (cC (.int 2))) [none] (cs.map aI)=some ((cs.map λc=>c.2.2).map .int):=by
     rw[se (tl:=[]) (h:=λc:Ch=>D.int c.2.2) _ _ λc _=>aq rfl rfl (aT at2),fQ]<;>rfl
    have B:lZ (lC (aa 4) (bY [none] (bo (ab ak (ab ak (ab ak (aa 0) (cC (.int 1))) (aa 5)) (cC (.int 3)))) (gN 0) (λ_=>some true) (ab ak (aa 0) (cC (.int 2))))) [some (.ai (aE m ps)),some (.ai (.int h)),some (.ai (.lst (S.map .int))),some (.own (F.map .int++[.int y])),some (.own (d.map .int)),some (.ai (.int y))]=some ((d++cs.map λc=>c.2.2).map .int):=by
     rw[cU];exact pW (Xf rfl (fU (gG (aq (aq (aq rfl rfl (aT c5)) rfl (aT f)) rfl (aT gW)) rfl) (small (by rw[aJ];exact fo zP)) t) (f9 (big (by simp;lia)))) (by rw[<-cU];exact lP (λ_=>rfl) _)
    refine eW rfl (gY B (eX ⟨F++[y],d++cs.map λc=>c.2.2,some (.ai (.int y)),by rw[<-eF]<;>rfl,nd,f2,λz hz=>?_,f4 _,λz hz j v sv=>?_,by simp;lia,by simp;lia⟩))
    ·rcases bW.mp hz with hz | hz
     ·exact C z (by simp[hz])
     ·obtain⟨c,G,rfl⟩:=aO.mp hz
      obtain⟨s,g,es⟩:=T
      have sc:Sc (aX ps) y c.2.2:=⟨c.1,by unfold aX;rw[e];exact aO.mpr ⟨c,G,rfl⟩⟩
      have:=Y.2.2.2.2.2.2.2.1 c G
      exact iA.mpr ⟨⟨this.2.2.2.1,this.2.2.2.2⟩,s,g,.s es q.2 sc⟩
    ·rcases bW.mp hz with hz | hz
     ·exact f5 _ z hz j v sv
     ·rw[br.mp hz]at sv
      obtain⟨w,sv⟩:=sv;unfold aX at sv;rw[e]at sv;obtain⟨c,G,e2⟩:=aO.mp sv;cases e2;exact .inr (dR _ (aO.mpr ⟨c,G,rfl⟩))
theorem Xm(ks:List Int)(j:Int):nj (.int j) (.lst (ks.map .int))=some (.bl (decide (j∈ks))):=by
 have b:((ks.map D.int).all fR&&!cN (.int j))=true:=by
  rw[bB,ja];exact⟨λd a=>by obtain⟨_,_,rfl⟩:=aO.mp a;rfl,rfl⟩
 show(if((ks.map D.int).all fR&&!cN (.int j))=true then some (D.bl ((ks.map D.int).any λy=>cu y (.int j)))else none)=_
 rw[if_pos b]
 congr 2
 rw[j6,Jg,decide_eq_true_iff]
 constructor
 ·rintro⟨d,a,e⟩
  obtain⟨i,c,rfl⟩:=aO.mp a
  have:i=j:=by simpa [cu]using e
  rw[<-this];exact c
 ·intro h
  exact⟨.int j,aO.mpr ⟨j,h,rfl⟩,by simp[cu]⟩
theorem n_{b:Type}{g:b->D}{f:b->Bool}{c:ae->Option Bool}{tl:ae}:∀(l:List b)(o:Option D),(∀a∈l,c (some (g a)::tl)=some (f a))->b6 (gN 0) c (aa 0) (o::tl) (l.map g)=some ((l.filter f).map g)
 | [],_,_=>rfl
 | a::r,o,d=>by
  have h:=n_ r (some (g a)) λx i=>d x (bV _ i)
  have j:=d a bg
  rw[a_];simp only[b6,gN,qB,bj,j]
  cases e:f a with
  | true=>rw[if_pos rfl,List.filter_cons_of_pos e];show Option.map _ (b6 _ _ _ _ _)=_;rw[h];rfl
  | false=>rw[if_neg bP,List.filter_cons_of_neg (by simp[e])];exact h
theorem vu(xs:List D):rA (.lst xs)=some (!xs.isEmpty):=by cases xs<;>rfl
theorem Hr{n:Nat}(hn:2<=n){m:Int}{ps:List Pl}(T:G2 m ps)(hp:ps.length<64)(h:Int):∃F:List Int,Tab n .fG [aE m ps,.int h]=some (.lst (F.map .int))/\∀z:Int,0<=z->z<ps.length->(z∈F↔Ah (aX ps) (aA ps h) z):=by
 obtain⟨k,rfl,hk⟩:=bI (c:=1) hn
 have hN:=(n4 T).n1
 have hL:cV [.tup (ps.map Pl.toD)]=some (.int (ps.length:Nat)):=by show some (D.int ((ps.map Pl.toD).length:Nat))=_;rw[aJ]
 suffices hh:Ev (Tab (k+1) .fG [aE m ps,.int h]) λd=>∃F:List Int,d=.lst (F.map .int)/\∀z:Int,0<=z->z<ps.length->(z∈F↔Ah (aX ps) (aA ps h) z) from by obtain⟨_,e,F,B,u⟩:=hh;exact⟨F,B▸e,u⟩
 have E:b6 (gN 0) (cB (ab hZ (au (Tab k .fE) (ag [aa 1,aa 2,aa 0])) (cC .ay))) (aa 0) [none,some (aE m ps),some (.int h)] (b7 0 ps.length)=some (((dY ps.length).filter λ(i:Nat)=>aA ps h i).map λ(i:Nat)=>D.int (i:Int)):=by
  rw[rX]
  refine n_ (tl:=[some (aE m ps),some (.int h)]) _ _ λi N=>?_
  have N:=l8.mp N
  have hs:=mL (n:=k) (m:=m) (ps:=ps) (h:=h) (x:=(i:Int)) hk (by lia) (by lia)
  exact aN (aq (aS (aj rfl (aj rfl (aj rfl rfl))) hs) rfl zN)
 have U:∀(F:List Int),(∀z∈F,0<=z/\z<ps.length)->(∀z:Int,0<=z->z<ps.length->aA ps h z=true->z∈F)->(∀j:Int,0<=j->j<ps.length->(∃y,Sc (aX ps) j y/\y∈F)->j∈F)->∀z:Int,Ah (aX ps) (aA ps h) z->0<=z->z<ps.length->z∈F:=λF B u H z a=>by
  induction a with
  | t q=>exactλa b=>u _ a b q
  | @s x y s _ ih=>
   intro a b;obtain⟨w,sc⟩:=s;obtain⟨c,E,e⟩:=aO.mp sc;cases e
   have:=(p6 (n4 T) x).2 c E
   exact H x a b ⟨c.2.2,⟨c.1,sc⟩,ih this.2.2.2.1 this.2.2.2.2⟩
 rw[tab];refine i6 (np:=2) (n:=6) (gb:=yX (Tab k)) ?_;unfold yX;refine aZ (gY (nX (pX (ds:=b7 0 ps.length) (rW (aS (aj (aq rfl rfl (aT c5)) rfl) hL) (by lia) (by lia)) (small (by simp[b7];lia)) E)) (aU (aZ (dn (x:=.int (-1)) rfl (aU (aZ ?_))))))
 show Ev (eQ _ _ _ [_,_,_,_,_,_]) _
 refine nZ (λn r=>∃(F:List Int)(z:Int)(f g:Option SD),r=[some (.ai (aE m ps)),some (.ai (.int h)),some (.own (F.map .int)),some (.ai (.int z)),f,g]/\F.Nodup/\(∀z∈F,(0<=z/\z<ps.length)/\Ah (aX ps) (aA ps h) z)/\(∀z:Int,0<=z->z<ps.length->aA ps h z=true->z∈F)/\(z<=F.length/\(z=F.length->∀j:Int,0<=j->j<ps.length->(∃y,Sc (aX ps) j y/\y∈F)->j∈F))/\(ps.length:Int)-z+1<=n) ?_ ?_ 99 _ ⟨((dY ps.length).filter λ(i:Nat)=>aA ps h i).map λ(i:Nat)=>(i:Int),-1,none,none,by rw[fQ]<;>rfl,?_,?_,?_,⟨by lia,λz=>by omega⟩,by lia⟩
 ·rintro r ⟨F,z,f,g,rfl,B,u,H,h4,h5⟩
  have:=p9 B (m:=(dY ps.length).map λ(i:Nat)=>(i:Int)) λz hz=>aO.mpr ⟨z.toNat,l8.mpr (by have:=(u z hz).1;lia),by have:=(u z hz).1;lia⟩
  simp at this
  lia
 ·rintro n r ⟨F,z,f,g,rfl,B,u,H,⟨h4,Y⟩,h5⟩
  have hlen:∀G:List Int,cV [.lst (G.map .int)]=some (.int (G.length:Nat)):=λG=>by rw[Fc,aJ]
  have Xn:∀G:List Int,G.Nodup->(∀z∈G,(0<=z/\z<ps.length)/\Ah (aX ps) (aA ps h) z)->G.length<=ps.length:=λG I C=>by
   have:=p9 I (m:=(dY ps.length).map λ(i:Nat)=>(i:Int)) λz hz=>aO.mpr ⟨z.toNat,l8.mpr (by have:=(C z hz).1;lia),by have:=(C z hz).1;lia⟩
   simpa using this
  by_cases hz:z=F.length
  ·refine .inl ⟨aN (aq rfl (aS (aj rfl rfl) (hlen F)) (by show some (D.bl (decide _))=_;rw[decide_eq_false (by lia)])),aU (jy rfl (i5 ⟨F,rfl,λz a b=>⟨λq=>(u z q).2,λq=>U F (λz q=>(u z q).1) H (Y hz) z q a b⟩⟩))⟩
  ·refine .inr ⟨aN (aq rfl (aS (aj rfl rfl) (hlen F)) (by show some (D.bl (decide _))=_;rw[decide_eq_true (by lia)])),aZ (dn (nV (aS (aj rfl rfl) (hlen F)) rfl) (aU (lO (Xh (aq rfl rfl (aT c5))) ?_)))⟩
   show Ev (c_ _ _ _ [_,_,_,_,_,_]) _
   refine kH (λR (i:Nat) r=>∃(X:List Int)(f g:Option SD),r=[some (.ai (aE m ps)),some (.ai (.int h)),some (.own ((F++X).map .int)),some (.ai (.int (F.length:Nat))),f,g]/\(F++X).Nodup/\(∀z∈F++X,(0<=z/\z<ps.length)/\Ah (aX ps) (aA ps h) z)/\(X=[]->∀j:Int,0<=j->j<i->(∃y,Sc (aX ps) j y/\y∈F)->j∈F)) ⟨[],f,g,by rw[gv]<;>rfl,by simpa using B,by simpa using u,λ_ j a b=>by lia⟩ ?_ ?_
   ·rintro i d r hd ⟨X,f,g,rfl,I,C,Q⟩
    obtain⟨y,O,rfl⟩:=Xi hd;rw[bJ,bC]at O;obtain⟨p,J,rfl⟩:=O
    have N:=(cA.mp J).1
    have L:ax ps (i:Int)=p:=by unfold ax;rw[k4,J];rfl
    refine⟨_,rfl,?_⟩
    have v:(X=[]->(∃y,Sc (aX ps) i y/\y∈F)->(i:Int)∈F)->∀(f g:Option SD),kL (λr=>∃(X:List Int)(f g:Option SD),r=[some (.ai (aE m ps)),some (.ai (.int h)),some (.own ((F++X).map .int)),some (.ai (.int (F.length:Nat))),f,g]/\(F++X).Nodup/\(∀z∈F++X,(0<=z/\z<ps.length)/\Ah (aX ps) (aA ps h) z)/\(X=[]->∀j:Int,0<=j->j<(i+1:Nat)->(∃y,Sc (aX ps) j y/\y∈F)->j∈F)) (kL (λr=>∃(F:List Int)(z:Int)(f g:Option SD),r=[some (.ai (aE m ps)),some (.ai (.int h)),some (.own (F.map .int)),some (.ai (.int z)),f,g]/\F.Nodup/\(∀z∈F,(0<=z/\z<ps.length)/\Ah (aX ps) (aA ps h) z)/\(∀z:Int,0<=z->z<ps.length->aA ps h z=true->z∈F)/\(z<=F.length/\(z=F.length->∀j:Int,0<=j->j<ps.length->(∃y,Sc (aX ps) j y/\y∈F)->j∈F))/\(ps.length:Int)-z+1<=n) (kS (dW (aa 2)) (kR λd=>∃F:List Int,d=.lst (F.map .int)/\∀z:Int,0<=z->z<ps.length->(z∈F↔Ah (aX ps) (aA ps h) z)))) (.aF [some (.ai (aE m ps)),some (.ai (.int h)),some (.own ((F++X).map .int)),some (.ai (.int (F.length:Nat))),f,g]):=λhq f g=>eX ⟨X,f,g,rfl,I,C,λA j a b q=>by
     by_cases e:j=i
     ·subst e;exact hq A q
     ·exact Q A j a (by lia) q⟩
    cases p with
    | fin=>
     refine da (b:=false) (zh (aN (aq (aq rfl rfl (aT cG)) rfl rfl))) (dX rfl (d5 (v (by rintro _ ⟨y,⟨w,sc⟩,_⟩;unfold aX at sc;rw[L]at sc;cases sc) _ _)))
    | say a b cs=>
     have ho:=T.2.2.2.2 _ (ee J)
     have zP:=ho.2.2.2.2.2.2.1
     have zL:b6 (gN 0) (cB (ab nj (ab ak (aa 0) (cC (.int 2))) (aa 1))) (aa 0) [none,some (.lst ((F++X).map .int))] (cs.map aI)=some ((cs.filter λc=>decide (c.2.2∈F++X)).map aI):=n_ (tl:=[some (.lst ((F++X).map .int))]) _ _ λc _=>aN (aq (aq rfl rfl (aT at2)) rfl (Xm _ _))
     refine da (nT (b:=true) (aN (aq (aq rfl rfl (aT cG)) rfl rfl)) (nT (aN (aq rfl rfl (vo (F++X) i))) (nU (fU (cap:=[none,some 2]) (gG (aq rfl rfl (aT gW)) rfl) (small (by rw[aJ];exact fo zP)) zL) (vu _)))) ?_
     have hex:(∃y,Sc (aX ps) i y/\y∈F++X)↔(!((cs.filter λc=>decide (c.2.2∈F++X)).map aI).isEmpty)=true:=by
      rw[mS,List.isEmpty_eq_false_iff,ne_eq,Zf_,Jo]
      constructor
      ·rintro⟨y,⟨w,sc⟩,hy⟩ z
       unfold aX at sc;rw[L]at sc;obtain⟨c,E,e⟩:=aO.mp sc;cases e;exact z c E (by simpa using hy)
      ·intro z
       apply qE
       intro q
       refine z λc E M=>q ⟨c.2.2,⟨c.1,?_⟩,by simpa using M⟩
       unfold aX;rw[L];exact aO.mpr ⟨c,E,rfl⟩
     generalize(!((cs.filter λc=>decide (c.2.2∈F++X)).map aI).isEmpty)=bb at hex
     by_cases M:(i:Int)∈F++X
     ·refine dX (by simp[M]) (d5 (v (λA _=>by rw[A,gv]at M;exact M) _ _))
     ·cases bb with
      | false=>refine dX (by simp) (d5 (v (λA q=>by
        rw[A,gv]at hex
        exact absurd (hex.mp q) (by simp)) _ _))
      | true=>
       obtain⟨y,sc,hy⟩:=hex.mpr rfl
       have UE:=Xn _ I C
       refine eW (by simp[M]) (kG rfl rfl (small (by rw[aJ];lia)) (eX ⟨X++[(i:Int)],some (.ai (.int (i:Int))),some (.ai (Pl.say a b cs).toD),by rw[<-j8,cU (l₁:=F++X)]<;>rfl,?_,λz hz=>?_,λA=>by simp at A⟩))
       ·rw[<-j8]
        exact sS.mpr ⟨I,by simp,λa ha b hb e=>M (by rw[<-br.mp hb,<-e];exact ha)⟩
       ·rw[<-j8]at hz
        rcases bW.mp hz with hz | hz
        ·exact C z hz
        ·rw[br.mp hz];exact⟨⟨by lia,by lia⟩,.s sc (C y hy).2⟩
   ·rintro r ⟨X,f,g,rfl,I,C,Q⟩
    rw[js,aJ]at Q;refine eX ⟨F++X,(F.length:Nat),f,g,rfl,I,C,λz a b c=>gK _ (H z a b c),⟨by rw[bQ];lia,λe=>?_⟩,by lia⟩
    have A:X=[]:=by
     cases X with
     | nil=>rfl
     | cons x X=>simp at e;lia
    subst A
    simpa using Q rfl
 ·exact(AZ.mpr ((Z5 (n:=ps.length)).filter _ |>.imp λh e=>h (by lia)))
 ·intro z hz
  obtain⟨i,N,rfl⟩:=aO.mp hz;obtain⟨B,u⟩:=d6.mp N;exact⟨⟨by omega,by have:=l8.mp B;lia⟩,.t u⟩
 ·intro z B u H
  exact aO.mpr ⟨z.toNat,d6.mpr ⟨l8.mpr (by lia),by rw[show((z.toNat:Nat):Int)=z by lia];exact H⟩,by omega⟩
def zQ(x:Option Bool)(p:Prop):Prop:=∃b,x=some b/\(b=true↔p)
theorem zR:∀(k:Nat)(x y:D),cR k x=true->cR k y=true->zQ (bM k x y) (x=y):=by
 intro k
 induction k with
 | zero=>intro x y a d;cases x<;>cases a
 | succ k i=>
  have lst:∀xs ys:List D,(∀x∈xs,cR k x=true)->(∀y∈ys,cR k y=true)->∃c,cy k xs ys=some c/\((c&&xs.length==ys.length)=true↔xs=ys):=by
   intro xs
   induction xs with
   | nil=>intro ys _ _;cases ys<;>exact⟨true,by simp[cy],by simp⟩
   | cons x xs e=>
    intro ys a d
    cases ys with
    | nil=>exact⟨true,by simp[cy],by simp⟩
    | cons y ys=>
     obtain⟨b,b1,b2⟩:=i x y (a x bg) (d y bg)
     obtain⟨c,f,g⟩:=e ys (λz hz=>a z (bV _ hz)) λz hz=>d z (bV _ hz)
     refine⟨b&&c,by simp[cy,b1,f],?_⟩;rw[bR,bR,Jf,show(xs.length+1==ys.length+1)=(xs.length==ys.length) by simp,bB,b2,g,List.cons.injEq]
  intro x y a d
  by_cases h:(d2 x&&d2 y)=true
  ·rw[bB]at h
   obtain⟨xs,rfl⟩:=jl h.1;obtain⟨ys,rfl⟩:=jl h.2;obtain⟨c,f,g⟩:=lst xs ys (by simpa [cR]using a) (by simpa [cR]using d);exact⟨_,by show(cy k xs ys).map _=_;rw[f];rfl,by rw[g];simp⟩
  ·cases x<;>cases y<;>first | exact absurd a bP | exact absurd d bP | exact absurd rfl h | exact⟨_,by rw[xf (k+1) _ _ rfl];rfl,by simp[cu]⟩
theorem sf:∀{a b:Kd},a.toD=b.toD->a=b:=by
 intro a
 induction a with
 | none=>intro b h;cases b<;>simp[Kd.toD]at h<;>rfl
 | num lo g=>intro b h;cases b<;>simp[Kd.toD]at h<;>first | exact absurd h.1 (by decide) | simp[h]
 | name ns=>intro b h;cases b<;>simp[Kd.toD]at h<;>first | (rw[Zg_ λ_ _ e=>D.str.inj e]at h;rw[h]) | skip
 | pair a b d f=>intro c h;cases c<;>simp[Kd.toD]at h<;>first | exact absurd h.1 (by decide) | rw[d h.1,f h.2]
 | row a m d=>intro c h;cases c<;>simp[Kd.toD]at h<;>first | exact absurd h.1 (by decide) | rw[d h.1,h.2]
theorem vv:∀(a:Kd){n:Nat},a.dp+3<=n->cR n a.toD=true:=by
 intro a
 induction a with
 | none=>intro n h;obtain⟨n,rfl⟩:∃k,n=k+3:=⟨n-3,by lia⟩;simp[Kd.toD,cR]
 | num lo e=>intro n h;obtain⟨n,rfl⟩:∃k,n=k+3:=⟨n-3,by lia⟩;simp[Kd.toD,cR]
 | name ns=>intro n h;obtain⟨n,rfl⟩:∃k,n=k+3:=⟨n-3,by lia⟩;simp[Kd.toD,cR]
 | pair a b c d=>intro n h;obtain⟨n,rfl⟩:∃k,n=k+3:=⟨n-3,by lia⟩;have h':max a.dp b.dp+1+3<=n+3:=h;have:=c (n:=n+2) (by lia);have:=d (n:=n+2) (by lia);simp_all[Kd.toD,cR]
 | row a m c=>intro n h;obtain⟨n,rfl⟩:∃k,n=k+3:=⟨n-3,by lia⟩;have h':a.dp+1+3<=n+3:=h;have:=c (n:=n+2) (by lia);simp_all[Kd.toD,cR]
theorem Xo{a b:Kd}(f:a.dp<=2)(g:b.dp<=2):zQ (bM 64 a.toD b.toD) (a=b):=by
 obtain⟨e,c,d⟩:=zR 64 a.toD b.toD (vv a (by lia)) (vv b (by lia));exact⟨e,c,d.trans ⟨sf,λh=>by rw[h]⟩⟩
theorem Hs(h a b:Int):cR 64 (bN h a b)=true:=by unfold bN;split<;>rfl
theorem Xp(h a b c d:Int):zQ (bM 64 (bN h a b) (bN h c d)) (bN h a b=bN h c d):=zR 64 _ _ (Hs h a b) (Hs h c d)
noncomputable def wk(c:Ch):Str × Kd:=(c.1,c.2.1)
noncomputable def dO(x:Str × Kd):D:=.tup [.str x.1,x.2.toD]
theorem Xq(h:dO x=dO y):x=y:=by
 simp[dO]at h
 exact Ip h.1 (sf h.2)
def jz(h:Int):Pl->Pl->Prop
 | .say a b cs,.say e f cs'=>bN h a b≠bN h e f\/(a=h/\cs.map wk≠cs'.map wk)\/∃c∈cs,∃d∈cs',d.1=c.1/\d.2.1≠c.2.1
 | _,_=>False
def kq(a b:Kd):Bool:=(bM 64 a.toD b.toD).getD false
theorem vw{a b:Kd}(c:a.dp<=2)(d:b.dp<=2):bM 64 a.toD b.toD=some (kq a b)/\(kq a b=true↔a=b):=by
 obtain⟨e,f,g⟩:=Xo c d;unfold kq;rw[f];exact⟨rfl,g⟩
theorem Xr{a b:Kd}(c:a.dp<=2)(d:b.dp<=2):dt 64 a.toD b.toD=some (.bl (!kq a b)):=by
 show(bM 64 a.toD b.toD).map _=_
 rw[(vw c d).1]
 rfl
def kP(c a:Ch):Bool:=a.1==c.1&&!kq a.2.1 c.2.1
theorem Ht{cs':List Ch}(h':∀c∈cs',c.2.1.dp<=2)(t:cs'.length<=5):∀(cs:List Ch)(f g h:Option D),(∀c∈cs,c.2.1.dp<=2)->∃o,fS (ij 3 (b9 (gN 6) (b9 (gN 7) (b9 (gN 8) (ig))))) (bf (kA (bY [none,some 6,some 7] (bo (aa 5)) (gN 0) (dZ (cB (ab (a7 64) (ab ak (aa 0) (cC (.int 0))) (aa 1))) (cB (ab (dt 64) (ab ak (aa 0) (cC (.int 1))) (aa 2)))) (aa 0))) (aY (cC (.bl true))) (bD)) (cs.map aI) [b0,b1,b2,b3,b4,some (.tup (cs'.map aI)),f,g,h]=some o/\(o=.ret (.bl true)/\(∃c∈cs,∃i∈cs',kP c i=true)\/(∃f g h,o=.aF [b0,b1,b2,b3,b4,some (.tup (cs'.map aI)),f,g,h])/\¬ ∃c∈cs,∃i∈cs',kP c i=true)
 | [],f,g,h,_=>⟨_,rfl,.inr ⟨⟨f,g,h,rfl⟩,by simp⟩⟩
 | c::cs,f,g,h,u=>by
  have v:ij 3 (b9 (gN 6) (b9 (gN 7) (b9 (gN 8) (ig)))) (aI c) [b0,b1,b2,b3,b4,some (.tup (cs'.map aI)),f,g,h]=some [b0,b1,b2,b3,b4,some (.tup (cs'.map aI)),some (.str c.1),some c.2.1.toD,some (.int c.2.2)]:=rfl
  have j:b6 (gN 0) (dZ (cB (ab (a7 64) (ab ak (aa 0) (cC (.int 0))) (aa 1))) (cB (ab (dt 64) (ab ak (aa 0) (cC (.int 1))) (aa 2)))) (aa 0) [none,some (.str c.1),some c.2.1.toD] (cs'.map aI)=some ((cs'.filter (kP c)).map aI):=n_ (tl:=[some (.str c.1),some c.2.1.toD]) _ _ λx m=>nT (aN (aq (aq rfl rfl (aT cG)) rfl eq_str)) (aN (aq (aq rfl rfl (aT c5)) rfl (Xr (h' x m) (u c bg))))
  have n:kA (bY [none,some 6,some 7] (bo (aa 5)) (gN 0) (dZ (cB (ab (a7 64) (ab ak (aa 0) (cC (.int 0))) (aa 1))) (cB (ab (dt 64) (ab ak (aa 0) (cC (.int 1))) (aa 2)))) (aa 0)) [b0,b1,b2,b3,b4,some (.tup (cs'.map aI)),some (.str c.1),some c.2.1.toD,some (.int c.2.2)]=some (!((cs'.filter (kP c)).map aI).isEmpty):=nU (fU (cap:=[none,some 6,some 7]) (gG rfl rfl) (small (by rw[aJ];exact fo t)) j) (vu _)
  rw[a_]
  cases q:cs'.filter (kP c)with
  | nil=>
   rw[q]at n
   obtain⟨o,w,y⟩:=Ht (b0:=b0) (b1:=b1) (b2:=b2) (b3:=b3) (b4:=b4) h' t cs (some (.str c.1)) (some c.2.1.toD) (some (.int c.2.2)) λx m=>u x (bV _ m)
   have A:¬ ∃i∈cs',kP c i=true:=by rintro⟨i,r,p⟩;have:=Jo.mp q i r;exact this p
   refine⟨o,?_,y.imp (by rintro⟨a,s,b,d⟩;exact⟨a,s,bV _ b,d⟩)<|by rintro⟨a,b⟩;exact⟨a,by rintro⟨s,r,p⟩;exact(a9.mp r).elim (λe=>A (e▸p)) λz=>b ⟨s,z,p⟩⟩⟩;simp only[fS,v,bj,gX n (show bD _=_ from rfl)];exact w
  | cons x l=>
   rw[q]at n
   have m:x∈cs'.filter (kP c):=by rw[q];exact bg
   refine⟨_,?_,.inl ⟨rfl,c,bg,x,(d6.mp m).1,(d6.mp m).2⟩⟩;simp only[fS,v,bj,FX n (show aY (cC (.bl true)) _=some (.ret (.bl true)) from rfl)]
theorem Xs(k:Nat):∀xs ys:List D,(∀x∈xs,cR k x=true)->(∀y∈ys,cR k y=true)->∃c,cy k xs ys=some c/\((c&&xs.length==ys.length)=true↔xs=ys):=λxs ys a d=>by
 have f:cR (k+1) (.tup xs)=true:=by simpa [cR]using a
 have g:cR (k+1) (.tup ys)=true:=by simpa [cR]using d
 obtain⟨b,e,h⟩:=zR (k+1) _ _ f g;obtain⟨c,i,rfl⟩:=bC.mp (show(cy k xs ys).map (λb=>b&&xs.length==ys.length)=some b from e);exact⟨c,i,h.trans ⟨λz=>D.tup.inj z,λz=>by rw[z]⟩⟩
theorem Hu(h a b c d:Int):∃e:Bool,dt 64 (bN h a b) (bN h c d)=some (.bl (!e))/\(e=true↔bN h a b=bN h c d):=by
 obtain⟨e,f,g⟩:=Xp h a b c d;exact⟨e,by show(bM 64 _ _).map _=_;rw[f];rfl,g⟩
theorem Hv(h:c.2.1.dp<=2)(h':a.2.1.dp<=2):kP c a=true↔a.1=c.1/\a.2.1≠c.2.1:=by
 unfold kP
 have:=(vw h' h).2
 rw[bB,beq_iff_eq,mS,<-Bool.not_eq_true,this]
theorem Xt(h a b:Int):ak (bN h a b) (.int 0)=some (.str (if(a==h)=true then "says" else "hears")):=by
 unfold bN
 split<;>rfl
theorem Hw(cs:List Ch)(a:cs.length<=5){i:Nat}(b:d[i]?=some (some (.tup (cs.map aI)))):bY [none] (bo (aa i)) (gN 0) (λ_=>some true) (eO (aa 0) d8 (c8 (cC (.int 2)))) d=some (.lst ((cs.map wk).map dO)):=by
 refine fU (ds:=cs.map aI) (gG (x:=.tup (cs.map aI)) (by simp[aa,b]) rfl) (small (by rw[aJ];exact fo a)) ?_;rw[fQ]
 exact se (tl:=[]) _ _ λc _=>mF rfl rfl (iw rfl) rfl
theorem Hy{n:Nat}(hn:2<=n){m:Int}{ps:List Pl}(hG:G2 m ps){h x y:Int}(t:0<=x/\x<ps.length)(A:0<=y/\y<ps.length)(d:aA ps h x=true)(f:aA ps h y=true):∃r,Tab n .fH [aE m ps,.int h,.int x,.int y]=some (.bl r)/\(r=true↔jz h (ax ps x) (ax ps y)):=by
 obtain⟨k,rfl,hk⟩:=bI (c:=1) hn
 have a1:=jx (m:=m) t.1 t.2
 have a2:=jx (m:=m) A.1 A.2
 have B:=mL (n:=k) (m:=m) (h:=h) hk t.1 t.2
 have J:=mL (n:=k) (m:=m) (h:=h) hk A.1 A.2
 have L:=i4 hG x
 have o2:=i4 hG y
 unfold aA at d f
 cases e1:ax ps x with
 | fin=>rw[e1]at d;cases d
 | say a b cs=>
 cases e2:ax ps y with
 | fin=>rw[e2]at f;cases f
 | say C E cs'=>
 rw[e1]at d a1 B L;rw[e2]at f a2 J o2;rw[show lS h (.say a b cs)=bN h a b from if_pos d]at B;rw[show lS h (.say C E cs')=bN h C E from if_pos f]at J
 have l1:=L.2.2.2.2.2.2.1
 have l2:=o2.2.2.2.2.2.2.1
 have G:∀c∈cs,c.2.1.dp<=2:=λc M=>(L.2.2.2.2.2.2.2.1 c M).2.2.1
 have H:∀c∈cs',c.2.1.dp<=2:=λc M=>(o2.2.2.2.2.2.2.2.1 c M).2.2.1
 obtain⟨e,n1,n2⟩:=Hu h a b C E
 obtain⟨c,N,O⟩:=Xs 64 ((cs.map wk).map dO) ((cs'.map wk).map dO) (λz hz=>by
  obtain⟨u,Q,rfl⟩:=aO.mp hz;obtain⟨v,T,rfl⟩:=aO.mp Q
  have:=vv v.2.1 (n:=63) (by have:=G v T;lia)
  simp[dO,wk,cR,this]) (λz hz=>by
  obtain⟨u,Q,rfl⟩:=aO.mp hz;obtain⟨v,T,rfl⟩:=aO.mp Q
  have:=vv v.2.1 (n:=63) (by have:=H v T;omega)
  simp[dO,wk,cR,this])
 have g:rK 64 (.lst ((cs.map wk).map dO)) (.lst ((cs'.map wk).map dO))=some (.bl (!(c&&((cs.map wk).map dO).length==((cs'.map wk).map dO).length))):=by
  show(if((cs.map wk).map dO).length=((cs'.map wk).map dO).length then(cy 64 ((cs.map wk).map dO) ((cs'.map wk).map dO)).map (λc=>D.bl (!c))else some (.bl true))=_
  rw[N]
  by_cases z:((cs.map wk).map dO).length=((cs'.map wk).map dO).length
  ·rw[if_pos z,show(((cs.map wk).map dO).length==((cs'.map wk).map dO).length)=true by simpa using z,Bool.and_true]
   rfl
  ·rw[if_neg z,show(((cs.map wk).map dO).length==((cs'.map wk).map dO).length)=false by simpa using z,qr]
   rfl
 have U:(c&&((cs.map wk).map dO).length==((cs'.map wk).map dO).length)=true↔cs.map wk=cs'.map wk:=O.trans ⟨λz=>(Zg_ λ_ _ e=>Xq e).mp z,λz=>by rw[z]⟩
 generalize(c&&((cs.map wk).map dO).length==((cs'.map wk).map dO).length)=c at g U
 have hb:(∃u∈cs,∃v∈cs',kP u v=true)↔∃c∈cs,∃i∈cs',i.1=c.1/\i.2.1≠c.2.1:=⟨by rintro⟨u,j,v,p,Y⟩;exact⟨u,j,v,p,(Hv (G u j) (H v p)).mp Y⟩,by rintro⟨u,j,v,p,Y⟩;exact⟨u,j,v,p,(Hv (G u j) (H v p)).mpr Y⟩⟩
 have S4:∀o,ab ak (ab ak (ab ak (aa 0) (cC (.int 1))) (aa 2)) (cC (.int 3)) [some (aE m ps),some (.int h),some (.int x),some (.int y),o,none,none,none,none]=some (.tup (cs.map aI)):=λo=>aq (aq (aq rfl rfl (aT c5)) rfl (aT a1)) rfl (aT gW)
 have S5:∀o,ab ak (ab ak (ab ak (aa 0) (cC (.int 1))) (aa 3)) (cC (.int 3)) [some (aE m ps),some (.int h),some (.int x),some (.int y),o,none,none,none,none]=some (.tup (cs'.map aI)):=λo=>aq (aq (aq rfl rfl (aT c5)) rfl (aT a2)) rfl (aT gW)
 have I:cB (ab (dt 64) (au (Tab k .fE) (ag [aa 0,aa 1,aa 2])) (au (Tab k .fE) (ag [aa 0,aa 1,aa 3]))) [some (aE m ps),some (.int h),some (.int x),some (.int y),some (.tup (cs.map aI)),some (.tup (cs'.map aI)),none,none,none]=some (!e):=aN (aq (aS (aj rfl (aj rfl (aj rfl rfl))) B) (aS (aj rfl (aj rfl (aj rfl rfl))) J) n1)
 have run:∀r,aQ (bf (cB (ab (dt 64) (au (Tab k .fE) (ag [aa 0,aa 1,aa 2])) (au (Tab k .fE) (ag [aa 0,aa 1,aa 3])))) (aY (cC (.bl true))) (bD)) _ [some (aE m ps),some (.int h),some (.int x),some (.int y),some (.tup (cs.map aI)),some (.tup (cs'.map aI)),none,none,none]=some (.ret (.bl r))->Tab (k+1) .fH [aE m ps,.int h,.int x,.int y]=some (.bl r):=λr hr=>by
  rw[tab];exact mK (n:=9) (dM (lN (S4 none)) (dM (lN (S5 _)) hr)) rfl
 show ∃r,_/\(r=true↔bN h a b≠bN h C E\/(a=h/\cs.map wk≠cs'.map wk)\/∃c∈cs,∃i∈cs',i.1=c.1/\i.2.1≠c.2.1)
 cases e with
 | false=>exact⟨true,run true (gZ (by rw[pV I];rfl)),⟨λ_=>.inl λz=>(nomatch n2.mpr z),λ_=>rfl⟩⟩
 | true=>
  have er:=n2.mp rfl
  have C2:cB (ab (a7 64) (ab ak (au (Tab k .fE) (ag [aa 0,aa 1,aa 2])) (cC (.int 0))) (cC (.str "says"))) [some (aE m ps),some (.int h),some (.int x),some (.int y),some (.tup (cs.map aI)),some (.tup (cs'.map aI)),none,none,none]=some (a==h):=by
   have:a7 64 (.str (if(a==h)=true then "says" else "hears")) (.str "says")=some (.bl (a==h)):=by cases(a==h)<;>rfl
   exact aN (aq (aq (aS (aj rfl (aj rfl (aj rfl rfl))) B) rfl (Xt h a b)) rfl this)
  have C3:cB (ab (rK 64) (bY [none] (bo (aa 4)) (gN 0) (λ_=>some true) (eO (aa 0) d8 (c8 (cC (.int 2))))) (bY [none] (bo (aa 5)) (gN 0) (λ_=>some true) (eO (aa 0) d8 (c8 (cC (.int 2)))))) [some (aE m ps),some (.int h),some (.int x),some (.int y),some (.tup (cs.map aI)),some (.tup (cs'.map aI)),none,none,none]=some (!c):=aN (aq (Hw cs l1 rfl) (Hw cs' l2 rfl) g)
  by_cases z:(a==h&&!c)=true
  ·rw[bB,beq_iff_eq,mS]at z
   refine⟨true,run true (dM (gX I rfl) (gZ (by rw[pV (vh (by rw[C2];simpa using z.1) (by rw[C3,z.2];rfl))];rfl))),⟨λ_=>.inr (.inl ⟨z.1,λq=>?_⟩),λ_=>rfl⟩⟩
   have:=U.mpr q
   rw[z.2]at this;cases this
  ·have C4:=nT C2 C3
   rw[show(a==h&&!c)=false by simpa using z]at C4
   have nz:¬(a=h/\cs.map wk≠cs'.map wk):=λ⟨N,O⟩=>z (by
    rw[bB,beq_iff_eq,mS]
    exact⟨N,jE.mpr λw=>O (U.mp w)⟩)
   obtain⟨o,f1,s⟩:=Ht (b0:=some (aE m ps)) (b1:=some (.int h)) (b2:=some (.int x)) (b3:=some (.int y)) (b4:=some (.tup (cs.map aI))) H l2 cs none none none G;rcases s with⟨rfl,s⟩ | ⟨⟨o6,o7,o8,rfl⟩,s⟩
   ·exact⟨true,run true (dM (gX I rfl) (dM (gX C4 rfl) (gZ (by unfold eC;rw[show bo (aa 4) _=some (cs.map aI) from rfl,bj];exact f1)))),⟨λ_=>.inr (.inr (hb.mp s)),λ_=>rfl⟩⟩
   ·refine⟨false,run false (dM (gX I rfl) (dM (gX C4 rfl) (dM (by unfold eC;rw[show bo (aa 4) _=some (cs.map aI) from rfl,bj];exact f1) rfl))),⟨λw=>(nomatch w),λw=>?_⟩⟩
    rcases w with w | w | w
    ·exact(w er).elim
    ·exact(nz w).elim
    ·exact(s (hb.mpr w)).elim
theorem mM:∀{cs:List Ch},(cs.map (·.1)).Nodup->∀c∈cs,c.1=w->atK (cs.map kW) (cs.map vW) (.inr w)=some (vW c)
 | [],_,_,a,_=>nomatch a
 | x::cs,hn,c,a,e=>by
  rw[a_,g8]at hn
  show(if kW x=.inr w then some (vW x)else atK (cs.map kW) (cs.map vW) (.inr w))=_
  rcases a9.mp a with q | q
  ·rw[if_pos (by rw[<-q,<-e];rfl),q]
  ·rw[if_neg λz=>hn.1 (by rw[show x.1=w from Jl z,<-e];exact aO.mpr ⟨c,q,rfl⟩)]
   exact mM hn.2 c q e
theorem zS:∀{cs:List Ch},(¬ ∃d∈cs,d.1=w)->atK (cs.map kW) (cs.map vW) (.inr w)=none
 | [],_=>rfl
 | x::cs,q=>by
  show(if kW x=.inr w then some (vW x)else atK (cs.map kW) (cs.map vW) (.inr w))=none
  rw[if_neg λz:kW x=.inr w=>q ⟨x,bg,Jl z⟩]
  exact zS<|by rintro⟨d,a,e⟩;exact q ⟨d,bV _ a,e⟩
theorem Hz{cs':List Ch}(hn:(cs'.map (·.1)).Nodup)(d':∀c∈cs',c.2.1.dp<=2):∀{cs:List Ch},(∀c∈cs,c.2.1.dp<=2)->∃r,jM 64 (cs'.map kW) (cs'.map vW) (cs.map kW) (cs.map vW)=some r/\(r=true↔∀c∈cs,wk c∈cs'.map wk)
 | [],_=>⟨true,rfl,⟨λ_ c j=>(nomatch j),λ_=>rfl⟩⟩
 | c::cs,h=>by
  obtain⟨r,e,m⟩:=Hz hn d' (cs:=cs) λx n=>h x (bV _ n)
  show ∃r,(match atK (cs'.map kW) (cs'.map vW) (kW c)with | none=>some false | some y=>(bM 64 (vW c) y).bind λe=>(jM 64 (cs'.map kW) (cs'.map vW) (cs.map kW) (cs.map vW)).map (e&& ·))=some r/\_
  have i:(∀x∈c::cs,wk x∈cs'.map wk)↔wk c∈cs'.map wk/\∀x∈cs,wk x∈cs'.map wk:=Jp
  by_cases q:∃d∈cs',d.1=c.1
  ·obtain⟨d,a,q⟩:=q
   have z:=mM hn d a q
   obtain⟨p,s⟩:=vw (h c bg) (d' d a);refine⟨kq c.2.1 d.2.1&&r,?_,?_⟩
   ·rw[show atK (cs'.map kW) (cs'.map vW) (kW c)=_ from z]
    show(bM 64 c.2.1.toD d.2.1.toD).bind _=_
    rw[p,e]
    rfl
   ·rw[bB,s,m,i]
    refine and_congr_left λ_=>⟨λw=>aO.mpr ⟨d,a,by unfold wk;rw[q,w]⟩,λw=>?_⟩
    obtain⟨f,g,b⟩:=aO.mp w
    have b:(f.1,f.2.1)=(c.1,c.2.1):=b
    rw[wm]at b
    have:=mM hn f g b.1
    rw[z]at this;rw[<-b.2];exact(sf (gr this)).symm
  ·refine⟨false,by rw[show atK (cs'.map kW) (cs'.map vW) (kW c)=none from zS q],⟨λw=>(nomatch w),λw=>?_⟩⟩
   obtain⟨d,a,e⟩:=aO.mp (i.mp w).1
   have e:(d.1,d.2.1)=(c.1,c.2.1):=e
   rw[wm]at e;exact(q ⟨d,a,e.1⟩).elim
theorem HA{C cs':List Ch}(i:(C.map (·.1)).Nodup)(hn:(cs'.map (·.1)).Nodup)(d':∀c∈cs',c.2.1.dp<=2):∀(cs:List Ch)(o:Option D),(∀c∈cs,c∈C/\c.2.1.dp<=2)->∃bs:List Bool,b6 (gN 0) (cB (ab gE (aa 0) (aa 2))) (ab (a7 64) (ab iP (aa 1) (aa 0)) (ab iP (aa 2) (aa 0))) [o,some (.aH (C.map kW) (C.map vW)),some (.aH (cs'.map kW) (cs'.map vW))] ((cs.map kW).map kD)=some (bs.map D.bl)/\(bs.all id=true↔∀c∈cs,∀d∈cs',d.1=c.1->d.2.1=c.2.1)
 | [],_,_=>⟨[],rfl,⟨λ_ c m=>(nomatch m),λ_=>rfl⟩⟩
 | c::cs,o,h=>by
  obtain⟨bs,e,j⟩:=HA i hn d' cs (some (.str c.1)) λx n=>h x (bV _ n)
  have a:gE (.str c.1) (.aH (cs'.map kW) (cs'.map vW))=some (.bl (atK (cs'.map kW) (cs'.map vW) (kW c)).isSome):=rfl
  have p:(∀x∈c::cs,∀d∈cs',d.1=x.1->d.2.1=x.2.1)↔(∀d∈cs',d.1=c.1->d.2.1=c.2.1)/\∀x∈cs,∀d∈cs',d.1=x.1->d.2.1=x.2.1:=Jp
  show ∃bs:List Bool,b6 _ _ _ _ (.str c.1::(cs.map kW).map kD)=some (bs.map D.bl)/\_
  rw[p]
  by_cases q:∃d∈cs',d.1=c.1
  ·obtain⟨d,b,q⟩:=q
   have z:=mM hn d b q
   rw[show atK (cs'.map kW) (cs'.map vW) (kW c)=_ from z]at a;obtain⟨r,s⟩:=vw (h c bg).2 (d' d b);refine⟨kq c.2.1 d.2.1::bs,kJ (ρ':=[some (.str c.1),some (.aH (C.map kW) (C.map vW)),some (.aH (cs'.map kW) (cs'.map vW))]) rfl (aN (aq rfl rfl a)) (aq (aq rfl rfl (pY rfl (mM i c (h c bg).1 rfl))) (aq rfl rfl (pY rfl z)) ?_) e,?_⟩
   ·show(bM 64 c.2.1.toD d.2.1.toD).map D.bl=_
    rw[r]
    rfl
   ·rw[e_,bB,j]
    refine and_congr_left λ_=>(show id (kq c.2.1 d.2.1)=true↔_ from s).trans ⟨λw t f g=>?_,λw=>(w d b q).symm⟩
    have:=mM hn t f g
    rw[z]at this;rw[w];exact(sf (gr this)).symm
  ·have u:cB (ab gE (aa 0) (aa 2)) [some (.str c.1),some (.aH (C.map kW) (C.map vW)),some (.aH (cs'.map kW) (cs'.map vW))]=some false:=aN (aq rfl rfl (by rw[a,show atK (cs'.map kW) (cs'.map vW) (kW c)=none from zS q];rfl))
   refine⟨bs,?_,j.trans ⟨λw=>⟨λd b g=>(q ⟨d,b,g⟩).elim,w⟩,λw=>w.2⟩⟩;simp only[b6,gN,qB,bj,u,kY,if_false];exact e
theorem HB{j c:Type}{f:j->c}{lt:c->c->Prop}(a:∀x,¬lt x x)(m:∀x y,lt x y->lt y x->False):∀{xs ys:List j},(xs.map f).Pairwise lt->(ys.map f).Pairwise lt->(∀x∈xs,x∈ys)->ys.length<=xs.length->xs=ys
 | [],[],_,_,_,_=>rfl
 | [],y::ys,_,_,_,h=>by simp at h
 | x::xs,[],_,_,h,_=>nomatch h x bg
 | x::xs,y::ys,d,g,h,n=>by
  rw[a_,gw]at d g
  have b:∀z∈xs,lt (f x) (f z):=λz hz=>d.1 _ (aO.mpr ⟨z,hz,rfl⟩)
  have i:∀z∈ys,lt (f y) (f z):=λz hz=>g.1 _ (aO.mpr ⟨z,hz,rfl⟩)
  have p:∀z∈xs,z∈ys:=λz hz=>by
   rcases a9.mp (h z (bV _ hz))with q | q
   ·subst q
    rcases a9.mp (h x bg)with r | r
    ·exact(a _ (r▸b z hz)).elim
    ·exact(m _ _ (b z hz) (i x r)).elim
   ·exact q
  have e:=HB a m d.2 g.2 p (by simpa using n)
  subst e;rcases a9.mp (h x bg)with r | r
  ·rw[r]
  ·exact(a _ (b x r)).elim
theorem Xu{cs cs':List Ch}(r:d3 (cs.map (·.1))=true)(d:d3 (cs'.map (·.1))=true)(m:cs.length=cs'.length)(h:∀c∈cs,wk c∈cs'.map wk):cs.map wk=cs'.map wk:=by
 have hw:∀l:List Ch,(l.map wk).map (·.1)=l.map (·.1):=λl=>by rw[fQ];rfl
 refine HB (f:=(·.1)) (lt:=λa b=>bc a b=true) (λx h=>zb h rfl) (λx y e g=>zb (ml e g) rfl) (by rw[hw];exact pU r) (by rw[hw];exact pU d) (λx i=>?_) (by rw[aJ,aJ];lia);obtain⟨c,j,rfl⟩:=aO.mp i;exact h c j
theorem zT{n:Nat}(hn:2<=n){m N h:Int}{p q:Pl}(G:p.OK m N)(H:q.OK m N)(sp:p.iQ=true)(Q:q.iQ=true):kO n h p q=true↔¬jz h p q:=by
 cases p with
 | fin=>cases sp
 | say a b cs=>
 cases q with
 | fin=>cases Q
 | say u v cs'=>
 have j:=mJ G.o2
 have y:=mJ H.o2
 have I:∀c∈cs,c.2.1.dp<=2:=λc f=>(j.ok c f).2
 have J:∀c∈cs',c.2.1.dp<=2:=λc f=>(y.ok c f).2
 have T:=G.2.2.2.2.2.2.2.2
 have U:=H.2.2.2.2.2.2.2.2
 obtain⟨e,n1,n2⟩:=Hu h a b u v
 have A:∃r,r6 (bN h a b) (bN h u v) (.aH (cs.map kW) (cs.map vW)) (.aH (cs'.map kW) (cs'.map vW)) (a==h)=some (.bl r)/\(r=true↔¬jz h (.say a b cs) (.say u v cs')):=by
  unfold r6;rw[n1,bj]
  show ∃r,_/\(r=true↔¬(bN h a b≠bN h u v\/(a=h/\cs.map wk≠cs'.map wk)\/∃c∈cs,∃g∈cs',g.1=c.1/\g.2.1≠c.2.1))
  cases e with
  | false=>exact⟨false,rfl,⟨λw=>(nomatch w),λw=>(w (.inl λz=>nomatch n2.mpr z)).elim⟩⟩
  | true=>
   have L:=n2.mp rfl
   simp only[Ak]
   by_cases z:(a==h)=true
   ·rw[if_pos z]
    have z:=beq_iff_eq.mp z
    obtain⟨r,e,B⟩:=Hz y.nd J I
    have Y:rJ 64 (.aH (cs.map kW) (cs.map vW)) (.aH (cs'.map kW) (cs'.map vW))=(if(cs.map kW).length=(cs'.map kW).length then(jM 64 (cs'.map kW) (cs'.map vW) (cs.map kW) (cs.map vW)).map D.bl else some (.bl false)):=rfl
    rw[Y,e,aJ,aJ]
    by_cases l:cs.length=cs'.length
    ·rw[if_pos l]
     refine⟨r,rfl,B.trans ⟨λw=>?_,λw c f=>?_⟩⟩
     ·have w:=Xu T U l w
      rintro(q | ⟨_,q⟩ | ⟨c,f,g,i,E,s⟩)
      ·exact q L
      ·exact q w
      ·have:wk g∈cs.map wk:=w▸aO.mpr ⟨g,i,rfl⟩
       obtain⟨x,hx,t⟩:=aO.mp this
       have t:(x.1,x.2.1)=(g.1,g.2.1):=t
       rw[wm]at t
       have M:=mM j.nd x hx (t.1.trans E)
       rw[mM j.nd c f rfl]at M;exact s (t.2▸(sf (gr M)).symm)
     ·have w:cs.map wk=cs'.map wk:=qE λq=>w (.inr (.inl ⟨z,q⟩))
      exact w▸aO.mpr ⟨c,f,rfl⟩
    ·rw[if_neg l]
     refine⟨false,rfl,⟨λw=>(nomatch w),λw=>(w (.inr (.inl ⟨z,λq=>l ?_⟩))).elim⟩⟩
     have:=congrArg og q
     simpa using this
   ·rw[if_neg z]
    obtain⟨bs,e,hb⟩:=HA (C:=cs) j.nd y.nd J cs none λc O=>⟨O,I c O⟩
    refine⟨bs.all id,?_,hb.trans ⟨λw=>?_,λw c f d hd q=>qE λs=>w (.inr (.inr ⟨c,f,d,hd,q,s⟩))⟩⟩
    ·rw[fU (by rfl) (small (by simp;have:=j.le;exact fo this)) e,bj]
     have:=all_map id bs
     simpa using this
    ·rintro(q | ⟨q,_⟩ | ⟨c,f,g,i,E,s⟩)
     ·exact q L
     ·exact z (beq_iff_eq.mpr q)
     ·exact s (w c f g i E)
 obtain⟨r,e,B⟩:=A;rw[GQ (GK hn j y e)];exact B
def FA{b:Type}(l:List b)(P:b->Prop)(I:ae->Prop)(v:D)(o:Out):Prop:=(o=.ret v/\∃a∈l,P a)\/∃r,o=.aF r/\I r/\∀a∈l,¬P a
theorem HC{c:Type}{f:c->D}{g:D->ae->Option ae}{gb:ae->Option Out}{I:ae->Prop}{P:c->Prop}{v:D}:∀(l:List c){b:ae},I b->(∀a∈l,∀b,I b->∃r,g (f a) b=some r/\Ev (gb r) λo=>(o=.ret v/\P a)\/∃r,o=.aF r/\I r/\¬P a)->Ev (fS g gb (l.map f) b) (FA l P I v)
 | [],b,i,_=>⟨_,rfl,.inr ⟨b,rfl,i,λ_ h=>nomatch h⟩⟩
 | a::l,b,i,j=>by
  obtain⟨y,m,o,n,h | ⟨z,rfl,i2,h⟩⟩:=j a bg b i
  ·exact⟨_,by simp only[a_,fS,m,n,bj,h.1],.inl ⟨rfl,a,bg,h.2⟩⟩
  ·obtain⟨o,q,s⟩:=HC l i2 λx d=>j x (bV _ d)
   exact⟨o,by simpa only[a_,fS,m,n,bj]using q,s.imp (by rintro⟨e,x,d,p⟩;exact⟨e,x,bV _ d,p⟩)<|by rintro⟨t,e,u,w⟩;exact⟨t,e,u,Jp.mpr ⟨h,w⟩⟩⟩
theorem HD{c:Type}{f:c->D}{l:List c}{fi:ae->Option (List D)}{d:D->ae->Option ae}{gb:ae->Option Out}{b:ae}(I:ae->Prop)(P:c->Prop){v:D}(h:fi b=some (l.map f))(i:I b)(s:∀a∈l,∀b,I b->∃r,d (f a) b=some r/\Ev (gb r) λo=>(o=.ret v/\P a)\/∃r,o=.aF r/\I r/\¬P a):Ev (eC fi d gb b) (FA l P I v):=by
 unfold eC;rw[h];exact HC l i s
theorem Xv{n:Nat}(hn:3<=n){m:Int}{ps:List Pl}(C:G2 m ps){h:Int}{S T F:List Int}(L:S.length<64)(e:∀s∈T,(0<=s/\s<ps.length)/\aA ps h s=true):∃r,Tab n .fI [aE m ps,.int h,.tup (S.map .int),.lst (T.map .int),.lst (F.map .int)]=some (.bl r)/\(r=true↔(∀x∈T,∀y∈T,¬jz h (ax ps x) (ax ps y))/\(T=[]\/∀z∈S,z∈F)):=by
 obtain⟨k,rfl,E⟩:=bI (c:=2) hn;rw[tab]
 obtain⟨o,g,i⟩:Ev (eC _ (gN 5) (eC _ (gN 6) (bf _ _ _)) (iW 7 [aE m ps,.int h,.tup (S.map .int),.lst (T.map .int),.lst (F.map .int)])) _:=HD (gb:=eC (bo (aa 3)) (gN 6) (bf (cB (au (Tab k .fH) (ag [aa 0,aa 1,aa 5,aa 6]))) (aY (cC (.bl false))) (bD))) (fi:=bo (aa 3)) (l:=T) (f:=.int) (v:=.bl false) (λj=>∃p a,j=[some (aE m ps),some (.int h),some (.tup (S.map .int)),some (.lst (T.map .int)),some (.lst (F.map .int)),p,a]) (λx=>∃y∈T,jz h (ax ps x) (ax ps y)) rfl ⟨_,_,rfl⟩ (by
  rintro x d _ ⟨p,a,rfl⟩
  refine⟨_,rfl,(HD (l:=T) (f:=.int) (λj=>∃a,j=[some (aE m ps),some (.int h),some (.tup (S.map .int)),some (.lst (T.map .int)),some (.lst (F.map .int)),some (.int x),a]) (λy=>jz h (ax ps x) (ax ps y)) rfl ⟨_,rfl⟩ ?_).imp λo h=>h.imp id<|by rintro⟨r,G,⟨a,H⟩,I⟩;exact⟨r,G,⟨_,a,H⟩,by rintro⟨y,b,u⟩;exact I y b u⟩⟩
  rintro y b _ ⟨a,rfl⟩
  obtain⟨r,q,A⟩:=Hy E C (e x d).1 (e y b).1 (e x d).2 (e y b).2;refine⟨_,rfl,?_⟩
  cases r with
  | true=>exact⟨_,FX (aN (aS (aj rfl (aj rfl (aj rfl (aj rfl rfl)))) q)) rfl,.inl ⟨rfl,A.mp rfl⟩⟩
  | false=>exact⟨_,gX (aN (aS (aj rfl (aj rfl (aj rfl (aj rfl rfl)))) q)) rfl,.inr ⟨_,rfl,⟨_,rfl⟩,λz=>nomatch A.mpr z⟩⟩)
 rcases i with⟨rfl,x,d,y,b,J⟩ | ⟨_,rfl,⟨p,a,rfl⟩,i⟩
 ·exact⟨false,mK (n:=7) (gZ g) rfl,⟨λw=>(nomatch w),λw=>(w.1 x d y b J).elim⟩⟩
 ·have B:∀x∈T,∀y∈T,¬jz h (ax ps x) (ax ps y):=λx d y b u=>i x d ⟨y,b,u⟩
  cases T with
  | nil=>exact⟨true,mK (n:=7) (dM g rfl) rfl,⟨λ_=>⟨B,.inl rfl⟩,λ_=>rfl⟩⟩
  | cons t T=>
   refine⟨((S.filter λz=>!decide (z∈F)).map D.int).isEmpty,mK (n:=7) (dM g (lJ ?_)) rfl,?_⟩
   ·show rB _ _=_
    unfold rB;rw[nU (fU (gG (x:=.tup (S.map .int)) rfl rfl) (small (by rw[aJ];lia)) (n_ (tl:=[some (.lst (F.map .int))]) _ _ λx d=>aN (aq rfl rfl (vo F x)))) (vu _),bj,Ze_]
   ·rw[List.isEmpty_iff,Zf_,Jo]
    refine⟨λw=>⟨B,.inr λz hz=>?_⟩,λw z hz=>?_⟩
    ·have:=w z hz;simpa using this
    ·have:=w.2.resolve_left (by simp) z hz;simpa using this
noncomputable def gD(G:List Int):D:=.tup (G.map .int)
def cg(ps:List Pl)(T:List Int):List Ch:=T.flatMap λx=>(ax ps x).bt
def gI(ps:List Pl)(T:List Int)(w:Str):List Ch:=(cg ps T).filter λc=>c.1==w
def dv(ps:List Pl)(h:Int)(T:List Int)(w:Str):List Int:=gq ps h ((gI ps T w).map (·.2.2))
def dP(ps:List Pl)(T:List Int):List Str:=dV (du ((cg ps T).map (·.1)))
def cK(ps:List Pl)(h:Int)(T:List Int)(s:List (List Int) × List D)(w:Str):List (List Int) × List D:=
 let K:=if dv ps h T w∈s.1 then s.1 else s.1++[dv ps h T w]
 (K,s.2++[.tup [.str w,(((gI ps T w).head?).map vW).getD .ay,.int (K.idxOf (dv ps h T w):Nat)]])
noncomputable def kM(u:ar->Option (D × Addr × List D))(Q:D × Addr × List D->Prop):aL->Prop
 | .aF r=>Ev (u r) Q
 | _=>False
theorem vz(h:Ev (u r) Q):kM u Q (.aF r):=h
theorem vA(h:Ev (g r) (kM u Q)):Ev (nM g u r) Q:=by
 obtain⟨o,e,k⟩:=h
 cases o with
 | aF b=>obtain⟨x,a,q⟩:=k;exact⟨x,by simp[nM,e,a],q⟩
 | _=>exact k.elim
theorem Xw{r:ar}{i:Nat}{ds es:List D}(a:el i r=some ds)(b:f r=some es)(c:ds.length+es.length<=aB)(k:Q (.aF (r.set i (some (.own (ds++es)))))):Ev (ui i f r) Q:=⟨_,by simp[ui,a,b,c],k⟩
theorem rC:∀Ks:List (List Int),kC (Ks.map gD)=some Ks
 | []=>rfl
 | G::Ks=>by
  show(i0 (G.map D.int)).bind (λa=>(kC (Ks.map gD)).map (a:: ·))=_
  rw[vp,rC Ks]
  rfl
theorem Xx(G:List Int)(Ks:List (List Int)):yB (gD G) (.lst (Ks.map gD))=some (.bl (!decide (G∈Ks))):=by
 show(i0 (G.map D.int)).bind (λm=>(kC (Ks.map gD)).map λbs=>D.bl (!decide (m∈bs)))=_
 rw[vp,rC]
 rfl
theorem Xy{Ks:List (List Int)}(h:G∈Ks):yC (.lst (Ks.map gD)) (gD G)=some (.int (Ks.idxOf G:Nat)):=by
 show(i0 (G.map D.int)).bind (λm=>(kC (Ks.map gD)).bind λbs=>if m∈bs then some (D.int (bs.idxOf m:Nat))else none)=_
 rw[vp,rC];exact if_pos h
section
variable {ps:List Pl}{h:Int}{T:List Int}
theorem Xz(s:List (List Int) × List D)(w:Str):s.1.length<=(cK ps h T s w).1.length:=by
 show _<=(if _ then _ else _:List (List Int)).length
 split
 ·exact a5 _
 ·rw[bQ];lia
theorem HE:∀(ws:List Str)(s:List (List Int) × List D),s.1.length<=(ws.foldl (cK ps h T) s).1.length
 | [],_=>a5 _
 | w::ws,s=>cj (Xz s w) (HE ws _)
theorem HF:∀(ws:List Str)(s:List (List Int) × List D),(ws.foldl (cK ps h T) s).2.length=s.2.length+ws.length
 | [],_=>rfl
 | w::ws,s=>by
  rw[AE,HF ws]
  show(s.2++[_]).length+_=_
  rw[bQ,bR,gL,bR]
  lia
theorem HG:∀(xs ys:List D),cF (xs++ys)=(cF xs&&cF ys)
 | [],_=>rfl
 | x::xs,ys=>by
  show(cQ x&&cF (xs++ys))=_
  rw[HG xs ys,<-Jf]
  rfl
theorem zU:∀(ws:List Str)(s:List (List Int) × List D),cF s.2=true->cF (ws.foldl (cK ps h T) s).2=true
 | [],_,q=>q
 | w::ws,s,q=>by
  rw[AE];refine zU ws _ ?_
  show cF (s.2++[_])=true
  rw[HG,q,ot]
  cases(gI ps T w).head? with
  | none=>rfl
  | some c=>simp[cF,cQ,vW,pZ]
theorem zV:w∈dP ps T↔∃x∈T,∃c∈(ax ps x).bt,c.1=w:=by
 unfold dP;rw[(jJ _).mem_iff,D6,aO];unfold cg;simp only[oJ];exact⟨by rintro⟨c,⟨x,a,b⟩,e⟩;exact⟨x,a,c,b,e⟩,by rintro⟨x,a,c,b,e⟩;exact⟨c,⟨x,a,b⟩,e⟩⟩
end
theorem XA{n:Nat}(hn:3<=n){m:Int}{ps:List Pl}(hG:G2 m ps)(hp:ps.length<64){h:Int}{T:List Int}{t:Int}(hT:∀s∈T,(0<=s/\s<ps.length)/\aA ps h s=true)(L:T[0]?=some t)(hW:(cg ps T).length<64){Ks:List (List Int)}(hz:((dP ps T).foldl (cK ps h T) (Ks,[])).1.length<=aB):∃d,kE (Tab n .fJ) [aE m ps,.int h,gD S,.lst (T.map .int)] (Ks.map gD)=some (d,((dP ps T).foldl (cK ps h T) (Ks,[])).1.map gD):=by
 obtain⟨k,rfl,hk⟩:=bI (c:=2) hn
 have M:=hT t (ee L)
 have v:=mL (n:=k) (m:=m) (h:=h) (fu hk) M.1.1 M.1.2
 obtain⟨x,y,N,nx,ny⟩:∃x y,lS h (ax ps t)=.tup [x,y]/\cQ x=true/\cQ y=true:=by
  have q:=M.2
  unfold aA at q;unfold lS
  cases e:ax ps t with
  | fin=>rw[e]at q;cases q
  | say a b cs=>
   rw[e]at q;refine(show ∃x y,(if(a==h||b==h)=true then bN h a b else .ay)=D.tup [x,y]/\_ from ?_);rw[if_pos q];unfold bN
   split
   ·exact⟨_,_,rfl,rfl,rfl⟩
   ·exact⟨_,_,rfl,rfl,rfl⟩
 rw[N]at v;refine⟨.tup [x,y,.tup ((dP ps T).foldl (cK ps h T) (Ks,[])).2],?_⟩;rw[show Tab (k+1) .fJ=encM (runM 11 (yY (Tab k)) 4) from rfl,E2]
 refine Ur rfl λa=>Ev.eq ?_
 unfold yY;refine vA (gY (ds:=[]) rfl (vz (vA (lO (ds:=T.map .int) rfl ?_))))
 show Ev (c_ _ _ _ [_,_,_,_,some (.xt (.x a) (Ks.map gD)),_,_,_,_,_,_]) _
 refine kH (λR (j:Nat) r=>∃g,r=[some (.ai (aE m ps)),some (.ai (.int h)),some (.ai (gD S)),some (.ai (.lst (T.map .int))),some (.xt (.x a) (Ks.map gD)),some (.own ((cg ps (T.take j)).map aI)),g,none,none,none,none]) ⟨none,rfl⟩ ?_ ?_
 ·rintro j d r A ⟨g,rfl⟩
  rw[bJ,bC]at A;obtain⟨z,B,rfl⟩:=A
  have i:=hT z (ee B)
  have C:=jx (m:=m) i.1.1 i.1.2
  have hS:∃a b,ax ps z=.say a b (ax ps z).bt:=by
   have q:=i.2
   unfold aA at q
   cases e:ax ps z with
   | fin=>rw[e]at q;cases q
   | say a b cs=>exact⟨a,b,rfl⟩
  obtain⟨a1,b1,eS⟩:=hS
  have E:cg ps (T.take (j+1))=cg ps (T.take j)++(ax ps z).bt:=by
   unfold cg;rw[l6,B,Jm,A3,qD,Zb_,gv]
  have hl:(cg ps (T.take j)).length+(ax ps z).bt.length<=(cg ps T).length:=by
   rw[<-bQ,<-E]
   conv=>rhs;rw[<-Jj (j+1) T]
   unfold cg;rw[A3,bQ]
   lia
  rw[eS]at C;refine⟨_,rfl,Xw (ds:=(cg ps (T.take j)).map aI) (es:=(ax ps z).bt.map aI) rfl (nX ?_) (by rw[aJ,aJ];exact cj hl (cj (f9 hW) (by decide))) (eX ⟨some (.ai (.int z)),?_⟩)⟩
  ·show(ab ak (ab ak (ab ak (aa 0) (cC (.int 1))) (aa 6)) (cC (.int 3)) _).bind DB=_
   rw[aq (aq (aq rfl rfl (aT c5)) rfl (aT C)) rfl (aT gW)]
   rfl
  ·rw[E,cU]
   rfl
 rintro r ⟨g,rfl⟩
 rw[aJ,k0];refine vz ?_
 have dr:∀u:ar->Option (D × Addr × List D),yy 5 u [some (.ai (aE m ps)),some (.ai (.int h)),some (.ai (gD S)),some (.ai (.lst (T.map .int))),some (.xt (.x a) (Ks.map gD)),some (.own ((cg ps T).map aI)),g,none,none,none,none]=u [some (.ai (aE m ps)),some (.ai (.int h)),some (.ai (gD S)),some (.ai (.lst (T.map .int))),some (.xt (.x a) (Ks.map gD)),some (.ai (.lst ((cg ps T).map aI))),g,none,none,none,none]:=λ_=>rfl
 rw[dr];refine vA (gY (ds:=[]) rfl (vz (vA (lO (ds:=(dP ps T).map .str) ?_ ?_))))
 ·refine gG (x:=.lst ((dP ps T).map .str)) ?_ rfl
  have cw:bY [none] (bo (aa 5)) (gN 0) (λ_=>some true) (ab ak (aa 0) (cC (.int 0))) (pv [some (.ai (aE m ps)),some (.ai (.int h)),some (.ai (gD S)),some (.ai (.lst (T.map .int))),some (.xt (.x a) (Ks.map gD)),some (.ai (.lst ((cg ps T).map aI))),g,some (.own []),none,none,none])=some (.lst ((cg ps T).map λc=>.str c.1)):=fU (gG (x:=.lst ((cg ps T).map aI)) rfl rfl) (small (by rw[aJ];lia)) (se (tl:=[]) _ _ λc _=>aq rfl rfl (aT cG))
  show(bY [none] (bo (aa 5)) (gN 0) (λ_=>some true) (ab ak (aa 0) (cC (.int 0))) (pv [some (.ai (aE m ps)),some (.ai (.int h)),some (.ai (gD S)),some (.ai (.lst (T.map .int))),some (.xt (.x a) (Ks.map gD)),some (.ai (.lst ((cg ps T).map aI))),g,some (.own []),none,none,none])).bind D7=_
  rw[cw,bj]
  show(if((cg ps T).map λc=>D.str c.1).length<64 then(ib ((cg ps T).map λc=>D.str c.1)).map _ else none)=_
  rw[if_pos (by rw[aJ];exact hW),show((cg ps T).map λc=>D.str c.1)=((cg ps T).map (·.1)).map D.str by rw[fQ];rfl,u_]
  rfl
 show Ev (c_ _ _ _ [_,_,_,_,some (.xt (.x a) (Ks.map gD)),_,_,_,_,_,_]) _
 refine kH (λR (j:Nat) r=>∃G H f,r=[some (.ai (aE m ps)),some (.ai (.int h)),some (.ai (gD S)),some (.ai (.lst (T.map .int))),some (.xt (.x a) ((((dP ps T).take j).foldl (cK ps h T) (Ks,[])).1.map gD)),some (.ai (.lst ((cg ps T).map aI))),g,some (.own (((dP ps T).take j).foldl (cK ps h T) (Ks,[])).2),G,H,f]) ⟨none,none,none,rfl⟩ ?_ ?_
 ·rintro j d r A ⟨G,H,f,rfl⟩
  rw[bJ,bC]at A;obtain⟨w,hw,rfl⟩:=A
  have E:((dP ps T).take (j+1)).foldl (cK ps h T) (Ks,[])=cK ps h T (((dP ps T).take j).foldl (cK ps h T) (Ks,[])) w:=by
   rw[l6,hw,Jm,IQ]
   rfl
  have J:(((dP ps T).take (j+1)).foldl (cK ps h T) (Ks,[])).1.length<=aB:=by
   refine cj (HE (ps:=ps) (h:=h) (T:=T) ((dP ps T).drop (j+1)) _) ?_;rw[<-IQ,Jj];exact hz
  have l2:(((dP ps T).take j).foldl (cK ps h T) (Ks,[])).2.length<aB:=by
   rw[HF]
   have:=uk ((cg ps T).map (·.1))
   have:=(jJ (du ((cg ps T).map (·.1)))).length_eq
   have:(dP ps T).length=(dV (du ((cg ps T).map (·.1)))).length:=rfl
   have:64<=aB:=by decide
   simp at*
   lia
  have n2:cF (cK ps h T (((dP ps T).take j).foldl (cK ps h T) (Ks,[])) w).2=true:=E▸zU _ _ rfl
  rw[E]at J ⊢
  generalize((dP ps T).take j).foldl (cK ps h T) (Ks,[])=s at J l2 n2 ⊢
  have O:∃c l,gI ps T w=c::l:=by
   obtain⟨x,hx,c,I,e⟩:=zV.mp (ee hw)
   have:c∈gI ps T w:=d6.mpr ⟨oJ.mpr ⟨x,hx,I⟩,beq_iff_eq.mpr e⟩
   cases q:gI ps T w with
   | nil=>rw[q]at this;cases this
   | cons c l=>exact⟨c,l,rfl⟩
  obtain⟨U,l0,ec⟩:=O
  have Y:=Hq (n:=k) hk hG hp (h:=h) (S:=(gI ps T w).map (·.2.2)) (λs hs=>by
   obtain⟨c,I,rfl⟩:=aO.mp hs;obtain⟨x,_,I⟩:=oJ.mp (d6.mp I).1
   have:=(p6 (n4 hG) x).2 c I
   exact⟨this.2.2.2.1,this.2.2.2.2⟩) (by
   rw[aJ]
   have:=Zh_ (λc:Ch=>c.1==w) (cg ps T)
   have:(gI ps T w).length=((cg ps T).filter λc=>c.1==w).length:=rfl
   lia)
  refine⟨_,rfl,aZ (gY (ds:=(gI ps T w).map aI) ?_ (aU (zl ?_)))⟩
  ·exact pW (pX (gG (x:=.lst ((cg ps T).map aI)) rfl rfl) (small (by rw[aJ];lia)) (n_ (tl:=[some (.str w)]) _ _ λc _=>aN (aq (aq rfl rfl (aT cG)) rfl eq_str))) (lP zr _)
  show Ev (aG _ _ [some (.ai (aE m ps)),some (.ai (.int h)),some (.ai (gD S)),some (.ai (.lst (T.map .int))),some (.xt (.x a) (s.1.map gD)),some (.ai (.lst ((cg ps T).map aI))),g,some (.own s.2),some (.ai (.str w)),some (.ai (.lst ((gI ps T w).map aI))),f]) _
  refine aZ (dn (x:=gD (dv ps h T w)) (cT (aS (aj rfl (aj rfl (aj (fU (gG (x:=.lst ((gI ps T w).map aI)) rfl rfl) (small (by
   rw[aJ]
   have:=Zh_ (λc:Ch=>c.1==w) (cg ps T)
   have:(gI ps T w).length=((cg ps T).filter λc=>c.1==w).length:=rfl
   lia)) (se (h:=λc:Ch=>.int c.2.2) (tl:=[]) _ _ λc _=>aq rfl rfl (aT at2))) rfl))) (by rw[show((gI ps T w).map λc:Ch=>D.int c.2.2)=((gI ps T w).map (·.2.2)).map D.int by rw[fQ];rfl];exact Y))) (aU (aZ (da (aN (aq rfl rfl (Xx _ _))) ?_))))
  have fin:∀(Q:aL->Prop)(K:List (List Int)),K=(cK ps h T s w).1->dv ps h T w∈K->Ev (c9 7 (vZ (aD (ag [aa 8,ab ak (ab ak (aa 9) (cC (.int 0))) (cC (.int 1)),uR (aa 4) (aa 10)]))) [some (.ai (aE m ps)),some (.ai (.int h)),some (.ai (gD S)),some (.ai (.lst (T.map .int))),some (.xt (.x a) (K.map gD)),some (.ai (.lst ((cg ps T).map aI))),g,some (.own s.2),some (.ai (.str w)),some (.ai (.lst ((gI ps T w).map aI))),some (.ai (gD (dv ps h T w)))]) (kL (λr=>∃G H f,r=[some (.ai (aE m ps)),some (.ai (.int h)),some (.ai (gD S)),some (.ai (.lst (T.map .int))),some (.xt (.x a) ((cK ps h T s w).1.map gD)),some (.ai (.lst ((cg ps T).map aI))),g,some (.own (cK ps h T s w).2),G,H,f]) Q):=λQ K eK hK=>by
   have ix:uR (aa 4) (aa 10) (fz [some (.ai (aE m ps)),some (.ai (.int h)),some (.ai (gD S)),some (.ai (.lst (T.map .int))),some (.xt (.x a) (K.map gD)),some (.ai (.lst ((cg ps T).map aI))),g,some (.own s.2),some (.ai (.str w)),some (.ai (.lst ((gI ps T w).map aI))),some (.ai (gD (dv ps h T w)))])=some (.int (K.idxOf (dv ps h T w):Nat)):=Xy hK
   have e2:(cK ps h T s w).2=s.2++[.tup [.str w,vW U,.int (K.idxOf (dv ps h T w):Nat)]]:=by
    rw[eK];unfold cK;rw[ec]
    rfl
   refine kG rfl (x:=.tup [.str w,vW U,.int (K.idxOf (dv ps h T w):Nat)]) (nV (ba (aj rfl (aj (aq (aq rfl rfl (i7 (x:=aI U) (by rw[ec,a_];exact cG))) rfl (aT c5)) (aj ix rfl)))) (by simp[cQ,cF,vW,pZ])) l2 (eX ⟨some (.ai (.str w)),some (.ai (.lst ((gI ps T w).map aI))),some (.ai (gD (dv ps h T w))),?_⟩);rw[e2,<-eK]
   rfl
  by_cases p:dv ps h T w∈s.1
  ·refine dX (by simpa using p) (d5 (aU ?_))
   exact fin _ s.1 (by unfold cK;rw[if_pos p]) p
  ·refine eW (by simpa using p) ⟨_,?_,aU (fin _ (s.1++[dv ps h T w]) (by unfold cK;rw[if_neg p]) (by simp))⟩
   have:s.1.length<aB:=by
    have:(cK ps h T s w).1=s.1++[dv ps h T w]:=by unfold cK;rw[if_neg p]
    rw[this,bQ]at J
    simp at J
    assumption
   show(if(s.1.map gD).length<aB then some (aL.aF (List.set _ 4 (some (SD.xt (.x a) (s.1.map gD++[gD (dv ps h T w)])))))else none)=_
   rw[if_pos (by rw[aJ];exact this),cU]
   rfl
 rintro r ⟨G,H,f,rfl⟩
 rw[aJ,k0];refine vz ⟨_,?_,rfl⟩
 show(vZ _ _).bind _=_
 have nl:=zU (ps:=ps) (h:=h) (T:=T) (dP ps T) (Ks,[]) rfl
 rw[nV (x:=.tup [x,y,.tup ((dP ps T).foldl (cK ps h T) (Ks,[])).2]) (aq (aS (aj rfl (aj rfl (aj (aq rfl rfl (i7 (x:=.int t) ?_)) rfl))) v) (ba (aj (aS (aj rfl rfl) rfl) rfl)) rfl) (by simp[cQ,cF,nx,ny,nl])]
 ·rfl
 ·cases T with
  | nil=>cases L
  | cons a l=>cases L;exact cG
section
variable {ps:List Pl}{h:Int}{T:List Int}
theorem XB(s:List (List Int) × List D)(w:Str)(q:G∈s.1):G∈(cK ps h T s w).1:=by
 show G∈(if _ then _ else _:List (List Int))
 split
 ·exact q
 ·exact gK _ q
theorem vB:∀(ws:List Str)(s:List (List Int) × List D){G:List Int},G∈s.1->G∈(ws.foldl (cK ps h T) s).1
 | [],_,_,q=>q
 | w::ws,s,_,q=>vB ws _ (XB s w q)
theorem HH:∀(ws:List Str)(s:List (List Int) × List D){w:Str},w∈ws->dv ps h T w∈(ws.foldl (cK ps h T) s).1
 | w::ws,s,x,q=>by
  rcases a9.mp q with rfl | q
  ·refine vB ws _ ?_
   show _∈(if _ then _ else _:List (List Int))
   split
   ·assumption
   ·simp
  ·exact HH ws _ q
theorem HI:∀(ws:List Str)(s:List (List Int) × List D){G:List Int},G∈(ws.foldl (cK ps h T) s).1->G∈s.1\/∃w∈ws,G=dv ps h T w
 | [],_,_,q=>.inl q
 | w::ws,s,G,q=>by
  rcases HI ws _ q with q | ⟨x,a,e⟩
  ·have q:G∈(if dv ps h T w∈s.1 then s.1 else s.1++[dv ps h T w]):=q
   split at q
   ·exact .inl q
   ·rcases bW.mp q with q | q
    ·exact .inl q
    ·exact .inr ⟨w,bg,br.mp q⟩
  ·exact .inr ⟨x,bV _ a,e⟩
theorem vC:∀(ws:List Str)(s:List (List Int) × List D){j:Nat}{G:List Int},s.1[j]?=some G->(ws.foldl (cK ps h T) s).1[j]?=some G
 | [],_,_,_,q=>q
 | w::ws,s,j,G,q=>by
  refine vC ws _ ?_
  show(if dv ps h T w∈s.1 then s.1 else s.1++[dv ps h T w])[j]?=_
  split
  ·exact q
  ·rw[jC (cA.mp q).1];exact q
theorem HJ:∀(ws:List Str)(s:List (List Int) × List D),s.1.Nodup->(ws.foldl (cK ps h T) s).1.Nodup
 | [],_,q=>q
 | w::ws,s,q=>by
  refine HJ ws _ ?_
  show(if dv ps h T w∈s.1 then s.1 else s.1++[dv ps h T w]).Nodup
  split
  ·exact q
  ·rename_i z
   exact sS.mpr ⟨q,by simp,λa c b d e=>z (by rw[<-br.mp d,<-e];exact c)⟩
end
noncomputable def rg(ps:List Pl):List Int:=(dY ps.length).map λ(i:Nat)=>(i:Int)
def sys(ps:List Pl)(a b:Int)(x:Int):Bool:=match ax ps x with
 | .say c d _=>c==a&&d==b
 | .fin=>false
structure GB(ps:List Pl):Prop where
 w:(cg ps (rg ps)).length<64
 p:∀a b,((rg ps).filter (sys ps a b)).length<=13
noncomputable def vE(m h:Int):List (Int × Int):=[(h,0),(h,1),(h,2),(h,3),(0,h),(1,h),(2,h),(3,h)]
def sh(ps:List Pl)(m h:Int):List (List Int):=gq ps h [0]::(vE m h).flatMap λp=>(subs ((rg ps).filter (sys ps p.1 p.2))).flatMap λT=>((cg ps (rg ps)).map (·.1)).map λw=>dv ps h T w
theorem zW{a b:Type}{f:a->List b}{c:Nat}:∀(l:List a),(∀x∈l,(f x).length<=c)->(l.flatMap f).length<=l.length*c
 | [],_=>by simp
 | x::l,h=>by
  rw[qD,bQ,bR,Nat.succ_mul]
  have:=zW l λy d=>h y (bV _ d)
  have:=h x bg
  lia
theorem XC{ps:List Pl}(a:GB ps)(m h:Int):(sh ps m h).length<16777216:=by
 unfold sh;rw[bR]
 have:=zW (c:=8192*63) (f:=λp:Int × Int=>(subs ((rg ps).filter (sys ps p.1 p.2))).flatMap λT=>((cg ps (rg ps)).map (·.1)).map λw=>dv ps h T w) (vE m h) λp _=>by
  refine cj (zW (c:=63) _ λT _=>?_) (Nat.mul_le_mul_right 63 ?_)
  ·rw[aJ,aJ]
   have:=a.w
   lia
  ·rw[Hl]
   exact Nat.pow_le_pow_right (by decide) (a.p p.1 p.2)
 have e:(vE m h).length=8:=rfl
 rw[e]at this
 lia
theorem XE(c:GB ps){T:List Int}(b:T.Sublist (rg ps)):(cg ps T).length<64:=by
 refine kX ?_ c.w;unfold cg
 generalize rg ps=R at b
 induction b with
 | slnil=>exact a5 _
 | cons a _ d=>rw[qD,bQ];lia
 | cons_cons a _ d=>rw[qD,qD,bQ,bQ];lia
theorem HK{h a b d b':Int}(t:(a==h||b==h)=true)(t':(d==h||b'==h)=true)(e:bN h a b=bN h d b'):a=d/\b=b':=by
 unfold bN at e;rw[Zi_,beq_iff_eq,beq_iff_eq]at t t'
 by_cases q:(a==h)=true
 ·rw[if_pos q]at e
  by_cases c:(d==h)=true
  ·rw[if_pos c]at e
   simp at e q c
   exact⟨q.trans c.symm,e⟩
  ·rw[if_neg c]at e
   simp at e
   exact absurd e.1 (by decide)
 ·rw[if_neg q]at e
  by_cases c:(d==h)=true
  ·rw[if_pos c]at e
   simp at e
   exact absurd e.1 (by decide)
  ·rw[if_neg c]at e
   simp at e q c
   exact⟨e,(t.resolve_left q).trans (t'.resolve_left c).symm⟩
theorem XF{m:Int}(i:G2 m ps){h:Int}{T:List Int}(j:T.Sublist (rg ps))(n:∀s∈T,aA ps h s=true)(v:∀x∈T,∀y∈T,¬jz h (ax ps x) (ax ps y))(hw:w∈dP ps T):dv ps h T w∈sh ps m h:=by
 obtain⟨x,g,c,A,B⟩:=zV.mp hw
 have d:=n x g
 have p:=i4 i x
 unfold aA at d
 cases e:ax ps x with
 | fin=>rw[e]at d;cases d
 | say a b cs=>
 rw[e]at d p
 have all:∀y∈T,sys ps a b y=true:=λy q=>by
  have f:=n y q
  have:=v x g y q
  unfold aA at f;unfold sys
  cases r:ax ps y with
  | fin=>rw[r]at f;cases f
  | say t u cs'=>
   rw[r]at f this;rw[e]at this
   have C:bN h a b=bN h t u:=qE λz=>this (.inl z)
   obtain⟨E,G⟩:=HK d f C
   show(t==a&&u==b)=true
   rw[E,G]
   simp
 have sub:T.Sublist ((rg ps).filter (sys ps a b)):=by
  have:=j.filter (sys ps a b)
  rwa [List.filter_eq_self.mpr all]at this
 unfold sh;refine bV _ (oJ.mpr ⟨(a,b),?_,oJ.mpr ⟨T,Xe sub,aO.mpr ⟨w,aO.mpr ⟨c,oJ.mpr ⟨x,j.subset g,A⟩,B⟩,rfl⟩⟩⟩);obtain⟨H,I,b0,b1,_⟩:=p
 have J:=i.2.1
 simp only[Zi_,beq_iff_eq]at d;unfold vE;simp only[a9,wm,kb,or_false]
 lia
theorem HL(ps:List Pl)(h:Int)(S:List Int):(gq ps h S).Sublist (rg ps):=Jq
theorem p_{h x:Int}(q:aA ps h x=true):(ax ps x).iQ=true:=by
 unfold aA at q
 cases e:ax ps x with
 | fin=>rw[e]at q;cases q
 | say a b cs=>rfl
theorem qa{m:Int}{ps:List Pl}(h:fX m ps)(i:Int):(ax ps i).OK m ps.length:=by
 cases e:ps[i.toNat]? with
 | none=>rw[show ax ps i=.fin by simp[ax,e]];trivial
 | some p=>rw[show ax ps i=p by simp[ax,e]];exact h.2.2.2.2 p (ee e)
section
variable {e:Nat}{m:Int}{ps:List Pl}{h:Int}
structure PI(ps:List Pl)(m h:Int)(e:Nat)(Ks:List (List Int))(i:Nat):Prop where
 g:Gk (aX ps) (aA ps h) (g6 e ps h) Ks i
 n:Ks.Nodup
 c:∀G∈Ks,G∈sh ps m h
 a:∀G∈Ks,∃S,G=gq ps h S
 l:i<=Ks.length
theorem XG(d:G2 m ps):PI ps m h e [gq ps h [0]] 0:=by
 have f:(0:Int)<=0/\(0:Int)<ps.length:=⟨by lia,by have:=d.2.2.1;lia⟩
 refine⟨⟨⟨_,rfl,λz n=>iA.mpr ⟨zO d f n,0,bg,n⟩⟩,λG a p b q r=>?_,λG a p b t y u=>?_,λj w=>by omega,λj w=>by omega⟩,by simp,λG a=>?_,λG a=>⟨_,br.mp a⟩,ef _⟩
 ·rw[br.mp a]at b r
  obtain⟨_,s,g,c⟩:=iA.mp b;obtain⟨_,A,i,v⟩:=iA.mp r;rw[br.mp g]at c;rw[br.mp i]at v;exact Hk .z c v
 ·rw[br.mp a]at b ⊢
  obtain⟨x,s,g,c⟩:=iA.mp b;exact iA.mpr ⟨zO d x (.s .z t u),s,g,.s c t u⟩
 ·rw[br.mp a]
  exact bg
theorem vF(a:GB ps){Ks:List (List Int)}{i:Nat}(p:PI ps m h e Ks i):Ks.length<16777216:=kX (p9 p.n p.c) (XC a m h)
theorem XH(O:G2 m ps){i:Nat}(p:PI ps m h e Ks i){G:List Int}(E:Ks[i]?=some G){s:List D}(hU:∀x∈G.filter (aA ps h),∀y∈G.filter (aA ps h),¬jz h (ax ps x) (ax ps y))(Q:∀p∈G,∀q∈G,aA ps h q=true->Ah (aX ps) (aA ps h) p/\(aA ps h p=true->g6 e ps h p q=true))(v:r=((dP ps (G.filter (aA ps h))).foldl (cK ps h (G.filter (aA ps h))) (Ks,[])).1):PI ps m h e r (i+1):=by
 have U:=ee E
 obtain⟨S,hS⟩:=p.a G U
 have H:(G.filter (aA ps h)).Sublist (rg ps):=Jq.trans (hS▸HL ps h S)
 have new:∀w,∀z∈dv ps h (G.filter (aA ps h)) w,(0<=z/\z<ps.length)/\∃x∈G,aA ps h x=true/\∃y,(w,y)∈aX ps x/\Ep (aX ps) (aA ps h) y z:=λw z hz=>by
  obtain⟨A,s,I,J⟩:=iA.mp hz;obtain⟨c,f,rfl⟩:=aO.mp I;obtain⟨f,ew⟩:=d6.mp f;obtain⟨x,t,f⟩:=oJ.mp f;obtain⟨t,B⟩:=d6.mp t;exact⟨A,x,t,B,_,aO.mpr ⟨c,f,by rw[beq_iff_eq.mp ew]⟩,J⟩
 have of:∀d∈r,d∈Ks\/∃w∈dP ps (G.filter (aA ps h)),d=dv ps h (G.filter (aA ps h)) w:=λd h'=>HI _ _ (v▸h')
 have L:∀j d,j<i+1->r[j]?=some d->Ks[j]?=some d:=λj d N q=>by
  have hl:j<Ks.length:=by have:=(cA.mp E).1;lia
  have:=vC (ps:=ps) (h:=h) (T:=G.filter (aA ps h)) (dP ps (G.filter (aA ps h))) (Ks,[]) (j:=j) (G:=Ks[j]) (c6 hl)
  rw[<-v,q]at this;rw[gr this];exact c6 hl
 refine⟨⟨?_,λd h' a M b hb=>?_,λd h' a M Y y u=>?_,λj N d h' w=>?_,λj N d h'=>?_⟩,v▸HJ _ _ p.n,λd h'=>?_,λd h'=>?_,?_⟩
 ·obtain⟨G0,A,h2⟩:=p.g.hd
  exact⟨G0,v▸vC _ _ A,h2⟩
 ·rcases of d h' with q | ⟨w,_,rfl⟩
  ·exact p.g.sd d q a M b hb
  ·obtain⟨_,x,t,B,y,u,J⟩:=new w a M
   obtain⟨_,x',nB,XI,y',XJ,e2⟩:=new w b hb;exact Xd (p.g.sd G U) t nB B XI u XJ J e2
 ·rcases of d h' with q | ⟨w,_,rfl⟩
  ·exact p.g.cl d q a M Y y u
  ·obtain⟨A,s,I,J⟩:=iA.mp M
   exact iA.mpr ⟨zO O A (.s .z Y u),s,I,.s J Y u⟩
 ·have h':=L j d N h'
  by_cases C:j<i
  ·obtain⟨G2,A,h2⟩:=p.g.on j C d h' w
   exact⟨G2,v▸vB _ _ A,h2⟩
  ·have:j=i:=by lia
   subst this;rw[E]at h';cases h'
   by_cases hw:w∈dP ps (G.filter (aA ps h))
   ·refine⟨_,v▸HH _ _ hw,λx t B y u=>?_⟩
    obtain⟨c,f,ec⟩:=aO.mp u;cases ec
    have hr:0<=c.2.2/\c.2.2<ps.length:=by
     have:=(p6 (n4 O) x).2 c f
     exact⟨this.2.2.2.1,this.2.2.2.2⟩
    exact iA.mpr ⟨hr,_,aO.mpr ⟨c,d6.mpr ⟨oJ.mpr ⟨x,d6.mpr ⟨t,B⟩,f⟩,beq_iff_eq.mpr rfl⟩,rfl⟩,.z⟩
   ·refine⟨G,v▸vB _ _ U,λx t B y u=>?_⟩
    obtain⟨c,f,ec⟩:=aO.mp u;cases ec;exact(hw (zV.mpr ⟨x,d6.mpr ⟨t,B⟩,c,f,rfl⟩)).elim
 ·have h':=L j d N h'
  by_cases C:j<i
  ·exact p.g.ev j C d h'
  ·have:j=i:=by omega
   subst this;rw[E]at h';cases h';exact Q
 ·rcases of d h' with q | ⟨w,hw,rfl⟩
  ·exact p.c d q
  ·exact XF O H (λs I=>(d6.mp I).2) hU hw
 ·rcases of d h' with q | ⟨w,hw,rfl⟩
  ·exact p.a d q
  ·exact⟨_,rfl⟩
 ·have:=(cA.mp (v▸vC (ps:=ps) (h:=h) (T:=G.filter (aA ps h)) (dP ps (G.filter (aA ps h))) (Ks,[]) E:r[i]?=some G)).1
  assumption
end
theorem XM{ps:List Pl}{z:Int}(q:z∈rg ps):0<=z/\z<ps.length:=by
 obtain⟨i,a,rfl⟩:=aO.mp q
 have:=l8.mp a
 lia
theorem XN{n:Nat}(hn:4<=n){m:Int}(H:fX m ps)(I:GB ps)(h:Int){e:Nat}(he:2<=e):∃d,Tab n .fK [aE m ps,.int h]=some d/\((d=.ay/\∃x y,Sy (aX ps) (aA ps h) 0 x y/\n9 e ps h x y)\/(∃xs,d=.tup xs)/\∀x y,Sy (aX ps) (aA ps h) 0 x y->¬n9 e ps h x y):=by
 obtain⟨k,rfl,O⟩:=bI (c:=3) hn
 have i:=rQ H
 have hp:ps.length<64:=kX H.2.2.2.1 (by decide)
 obtain⟨F,hF,J⟩:=Hr (n:=k) (fu O) i hp h
 have XO:=Hq (n:=k) (fu O) i hp (h:=h) (S:=[0]) (λs Q=>by rw[br.mp Q];have:=H.2.2.1;lia) (by decide)
 show Ev (Tab (k+1) .fK [aE m ps,.int h]) _
 rw[tab];refine i6 (np:=2) (n:=7) (gb:=yZ (Tab k)) ?_;unfold yZ;refine aZ (dn (x:=.lst (F.map .int)) (cT (aS (aj rfl (aj rfl rfl)) hF)) (aU (aZ (gY (ds:=[gq ps h [0]].map gD) (nX (aj (aS (aj rfl (aj rfl (aj (lM (aj rfl rfl)) rfl))) XO) rfl)) (aU (aZ (gY (ds:=[]) rfl (aU (aZ ?_)))))))))
 show Ev (eQ _ _ _ [_,_,_,_,_,_,_]) _
 refine nZ (λn r=>∃(Ks:List (List Int))(b:List D)(U Y:Option SD),r=[some (.ai (aE m ps)),some (.ai (.int h)),some (.ai (.lst (F.map .int))),some (.own (Ks.map gD)),some (.own b),U,Y]/\PI ps m h e Ks b.length/\n+b.length=16777216) ?_ ?_ 16777216 _ ⟨_,[],none,none,rfl,XG i,rfl⟩
 ·rintro r ⟨Ks,b,U,Y,rfl,p,hl⟩
  have:=vF I p
  have:=p.l
  lia
 rintro n r ⟨Ks,b,U,Y,rfl,p,hl⟩
 have C:cB (ab jk (au cV (ag [aa 4])) (au cV (ag [aa 3]))) (fz [some (.ai (aE m ps)),some (.ai (.int h)),some (.ai (.lst (F.map .int))),some (.own (Ks.map gD)),some (.own b),U,Y])=some (decide ((b.length:Int)<(Ks.map gD).length)):=aN (aq (aS (aj rfl rfl) rfl) (aS (aj rfl rfl) rfl) rfl)
 rw[aJ]at C
 by_cases L:b.length=Ks.length
 ·refine .inl ⟨C.trans (by rw[L];simp),aU (jy (aS (aj rfl rfl) rfl) (i5 (.inr ⟨⟨_,rfl⟩,λx y s=>Xc (L▸p.g) s⟩)))⟩
 have L:b.length<Ks.length:=by have:=p.l;lia
 have hg:Ks[b.length]?=some Ks[b.length]:=c6 L
 generalize Ks[b.length]=G at hg
 have hm:=ee hg
 obtain⟨S,hS⟩:=p.a G hm
 have u:G.Sublist (rg ps):=hS▸HL ps h S
 have E:∀z∈G,0<=z/\z<ps.length:=λz hz=>XM (u.subset hz)
 have XP:G.length<64:=by
  have:=u.length_le
  unfold rg at this;rw[aJ,sL]at this
  lia
 have A:∀s∈G.filter (aA ps h),(0<=s/\s<ps.length)/\aA ps h s=true:=λs Q=>⟨E s (d6.mp Q).1,(d6.mp Q).2⟩
 refine .inr ⟨C.trans (by simpa using L),aZ (dn (x:=gD G) (nV (aq rfl (aS (aj rfl rfl) rfl) (i7 (wX (by rw[bJ,hg];rfl)))) (by
  show cF _=true
  exact lP (λ_=>rfl) _)) (aU (aZ (gY (ds:=(G.filter (aA ps h)).map .int) ?_ (aU (zl ?_))))))⟩
 ·exact pW (pX (gG (x:=gD G) rfl rfl) (small (by rw[aJ];lia)) (n_ (tl:=[some (aE m ps),some (.int h)]) _ _ λx f=>aN (aq (aS (aj rfl (aj rfl (aj rfl rfl))) (mL (fu O) (E x f).1 (E x f).2)) rfl zN))) (lP (λ_=>rfl) _)
 show Ev (aG _ _ [some (.ai (aE m ps)),some (.ai (.int h)),some (.ai (.lst (F.map .int))),some (.own (Ks.map gD)),some (.own b),some (.ai (gD G)),some (.ai (.lst ((G.filter (aA ps h)).map .int)))]) _
 obtain⟨r,r1,r2⟩:=Xv (n:=k) (by omega) i (h:=h) (S:=G) (F:=F) XP A;refine aZ (da (mE (aN (aS (aj rfl (aj rfl (aj rfl (aj rfl (aj rfl rfl))))) r1))) ?_)
 have M:∀x∈G.filter (aA ps h),∀y∈G.filter (aA ps h),(g6 e ps h x y=true↔¬jz h (ax ps x) (ax ps y)):=λx f y v=>by
  unfold g6;rw[(A x f).2,(A y v).2,ot,ot];exact zT he (qa H x) (qa H y) (p_ (A x f).2) (p_ (A y v).2)
 cases r with
 | false=>
  refine eW rfl (jy rfl (rV (zi (rV (i5 (.inl ⟨rfl,?_⟩))))))
  have nr:¬_:=λz=>nomatch r2.mpr z
  by_cases j:∀x∈G.filter (aA ps h),∀y∈G.filter (aA ps h),¬jz h (ax ps x) (ax ps y)
  ·have n2:¬(G.filter (aA ps h)=[]\/∀z∈G,z∈F):=λz=>nr ⟨j,z⟩
   rw[not_or]at n2;obtain⟨y,v⟩:=List.exists_mem_of_ne_nil _ n2.1;obtain⟨z,hz⟩:=Jr.mp n2.2;obtain⟨hz,nz⟩:=Js.mp hz;exact⟨z,y,p.g.sd G hm z hz y (d6.mp v).1,(A y v).2,.inl λq=>nz ((J z (E z hz).1 (E z hz).2).mpr q)⟩
  ·obtain⟨x,j⟩:=Jr.mp j
   obtain⟨f,j⟩:=Js.mp j;obtain⟨y,j⟩:=Jr.mp j;obtain⟨v,j⟩:=Js.mp j;refine⟨x,y,p.g.sd G hm x (d6.mp f).1 y (d6.mp v).1,(A y v).2,.inr ⟨(A x f).2,jE.mpr λq=>j ((M x f y v).mp q)⟩⟩
 | true=>
  obtain⟨j,hA⟩:=r2.mp rfl
  have XQ:∀p∈G,∀q∈G,aA ps h q=true->Ah (aX ps) (aA ps h) p/\(aA ps h p=true->g6 e ps h p q=true):=λx f y v ty=>by
   have B:y∈G.filter (aA ps h):=d6.mpr ⟨v,ty⟩
   refine⟨(J x (E x f).1 (E x f).2).mp (hA.resolve_left (λz=>by rw[z]at B;cases B) x f),λtx=>?_⟩
   have N:x∈G.filter (aA ps h):=d6.mpr ⟨f,tx⟩
   exact(M x N y B).mpr (j x N y B)
  have w:=XH i p hg (s:=[]) j XQ rfl
  refine dX rfl (d5 (aU (da (nU (x:=.lst ((G.filter (aA ps h)).map .int)) rfl (vu _)) ?_)))
  cases q:G.filter (aA ps h)with
  | nil=>
   rw[q]at w;refine dX rfl (kG rfl (cT (x:=.tup [.str "end"]) rfl) (by show b.length<16777216;have:=vF I p;lia) (eX ⟨Ks,_,_,_,rfl,?_,?_⟩))
   ·rw[bQ]
    exact w
   ·rw[bQ,bR,gL]
    lia
  | cons t T=>
   obtain⟨d,hd⟩:=XA (n:=k) O i hp (S:=G) A (t:=t) (by rw[q];rfl) (XE I (Jq.trans u)) (Ks:=Ks) (f9 (vF I w));rw[q]at w hd;refine eW rfl ⟨_,?_,eX ⟨((dP ps (t::T)).foldl (cK ps h (t::T)) (Ks,[])).1,b++[d],some (.ai (gD G)),some (.ai (.lst ((t::T).map .int))),rfl,?_,?_⟩⟩
   ·show((kE (Tab k .fJ) [aE m ps,.int h,gD G,.lst ((t::T).map .int)] (Ks.map gD)).bind λx=>if 4≠3/\b.length<aB then _ else none)=_
    rw[hd,bj,if_pos ⟨by decide,by show b.length<16777216;have:=vF I p;omega⟩]
    rfl
   ·rw[bQ]
    exact w
   ·rw[bQ,bR,gL]
    omega
theorem XR(ps:List Pl):(rg ps).map (ax ps)=ps:=by
 refine vX λi=>?_
 unfold rg;rw[fQ,bJ]
 by_cases a:i<ps.length
 ·rw[Y5 a,c6 a]
  show some (ax ps (i:Int))=_
  unfold ax;rw[show((i:Int)).toNat=i from rfl,c6 a]
  rfl
 ·rw[qz (by simpa using a),qz (by simpa using a)]
  rfl
theorem XS(h:BK 13 43 ps):GB ps:=by
 have e:=XR ps
 refine⟨?_,λa b=>?_⟩
 ·have:=h.2
  rw[<-e,List.flatMap_map]at this;exact kX this (by decide)
 ·have:=h.1 a b
  rw[<-e,List.countP_map,List.countP_eq_length_filter]at this;refine cj (YE ?_) this;refine congrArg og (List.filter_congr λx _=>?_)
  show sys ps a b x=sy a b (ax ps x)
  unfold sys sy
  cases ax ps x<;>rfl
theorem HM{n:Nat}(hn:8<=n)(c:Int):∃ps,Tab n .fD [.int c]=some (aE 3 ps)/\fX 3 ps/\BK 13 43 ps:=by
 obtain⟨k,rfl,C⟩:=bI (c:=7) hn;obtain⟨t,H,I⟩:=rS (n:=k) C c 0 ⟨by decide,by decide⟩;obtain⟨w,J,L⟩:=rS (n:=k) C c 1 ⟨by decide,by decide⟩
 have A:(([(dk c 0,t),(dk c 1,w)]:List Sd).map (·.1)).Nodup:=by
  simp
  intro e
  have:=y7 (c:=c) (i:=0) (j:=1) ⟨by decide,by decide⟩ ⟨by decide,by decide⟩ e
  lia
 obtain⟨ws,B,M,N,O⟩:=zg (ws:=[(dk c 0,t),(dk c 1,w)]) (by simp) A
 have r:∀x∈ws,lL x:=λx f=>by
  have:=N x f
  simp at this
  rcases this with rfl | rfl
  ·exact I
  ·exact L
 obtain⟨x,y,rfl⟩:∃x y,ws=[x,y]:=by
  match ws,M with
  | [x,y],_=>exact⟨x,y,rfl⟩
 have f:=r x (by simp)
 have E:=r y (by simp)
 have B:ju [.lst [bE (dk c 0,t),bE (dk c 1,w)]]=some (.lst [bE x,bE y]):=B
 have g:∀j:Int,0<j/\j<1073741824->lj (.int c) (.int j)=some (.int (c / j)):=λj Q=>UX Q
 have hz:∃z:Sd,lL z/\∃i,ak (.lst [bE x,bE y]) (.int (c / 4%2))=some (bE i)/\ak (.lst [bE x,bE i,.tup [.str x.1,.tup [.str "number",.int 0,.int 1]]]) (.int (c / 8%3))=some (bE z):=by
  have q:∃i,lL i/\ak (.lst [bE x,bE y]) (.int (c / 4%2))=some (bE i):=by
   rcases mod2 (c / 4)with h | h<;>rw[h]
   ·exact⟨x,f,cG⟩
   ·exact⟨y,E,c5⟩
  obtain⟨i,T,q⟩:=q
  have U:c / 8%3=0\/c / 8%3=1\/c / 8%3=2:=by lia
  rcases U with h | h | h<;>rw[h]
  ·exact⟨x,f,i,q,cG⟩
  ·exact⟨i,T,i,q,c5⟩
  ·exact⟨(x.1,.num 0 1),⟨f.1,by simp[Kd.WF],by simp[Kd.dp]⟩,i,q,at2⟩
 obtain⟨z,hz,i,Y,q2⟩:=hz
 have hb:0<=c / 2%2/\c / 2%2<2:=by lia
 suffices hh:Ev (Tab (k+1) .fD [.int c]) λd=>∃ps,d=aE 3 ps/\fX 3 ps/\BK 13 43 ps from by obtain⟨_,e,ps,h,k⟩:=hh;exact⟨ps,h▸e,k⟩
 rw[tab];refine i6 (np:=1) (n:=4) (gb:=yV (Tab k)) ?_;unfold yV;refine aZ (dn (cT (aS (aj (lM (aj (aS (aj rfl (aj rfl rfl)) H) (aj (aS (aj rfl (aj rfl rfl)) J) rfl))) rfl) B)) (aU (aZ (gY (ds:=[(Pl.say 0 1 [(x.1,x.2,1),(y.1,y.2,2)]).toD]) (nX (aj (ba (aj rfl (aj rfl (aj rfl (aj (ba (aj (aq (aq rfl rfl (i7 cG)) (ba (aj rfl rfl)) (kK x 1)) (aj (aq (aq rfl rfl (i7 c5)) (ba (aj rfl rfl)) (kK y 2)) rfl))) rfl))))) rfl)) (aU ?_)))))
 refine aZ (dn (x:=bE z) (cT (aq (lM (aj (aq rfl rfl (i7 cG)) (aj (aq rfl (aq (aq rfl rfl (g 4 (by decide))) rfl (gF (by decide))) Y) (aj (ba (aj (aq (aq rfl rfl (i7 cG)) rfl (aT cG)) (aj rfl rfl))) rfl)))) (aq (aq rfl rfl (g 8 (by decide))) rfl (gF (by decide))) q2)) (aU ?_));refine aZ (kG (x:=(Pl.say 2 0 [(x.1,x.2,3)]).toD) rfl (cT (ba (aj rfl (aj rfl (aj rfl (aj (ba (aj (aq (aq rfl rfl (i7 cG)) (ba (aj rfl rfl)) (kK x 3)) rfl)) rfl)))))) (gJ rfl) (aU ?_))
 refine aZ (kG (x:=(Pl.say 2 (c / 2%2) [(z.1,z.2,3)]).toD) rfl (cT (ba (aj rfl (aj rfl (aj (aq (aq rfl rfl (g 2 (by decide))) rfl (gF (by decide))) (aj (ba (aj (aq rfl (ba (aj rfl rfl)) (kK z 3)) rfl)) rfl)))))) (gJ rfl) (aU ?_))
 have fin:∀p:Pl,p.OK 3 4->Ev (dW (aD (ag [cC (.int 3),au ic (ag [ab il (aa 2) (ei (ag [aD (ag [cC (.str "end")])]))])])) [some (.ai (.int c)),some (.ai (.lst [bE x,bE y])),some (.own [(Pl.say 0 1 [(x.1,x.2,1),(y.1,y.2,2)]).toD,(Pl.say 2 0 [(x.1,x.2,3)]).toD,p.toD]),some (.ai (bE z))]) (kR λd=>∃ps,d=aE 3 ps/\fX 3 ps/\BK 13 43 ps):=λp G=>by
  refine jy (ba (aj rfl (aj (aS (aj (aq rfl (lM (aj (ba (aj rfl rfl)) rfl)) (F0 (gJ rfl))) rfl) rfl) rfl))) (i5 ⟨[.say 0 1 [(x.1,x.2,1),(y.1,y.2,2)],.say 2 0 [(x.1,x.2,3)],p,.fin],rfl,⟨by decide,by decide,gJ rfl,gJ rfl,λp' s=>?_⟩,λu v=>cj A4 (gJ rfl),?_⟩)
  ·simp only[a9,kb,or_false]at s
   rcases s with rfl | rfl | rfl | rfl
   ·exact⟨by decide,by decide,by decide,by decide,by decide,gJ rfl,gJ rfl,by simpa using⟨ck f (by decide),ck E (by decide)⟩,O⟩
   ·exact⟨by decide,by decide,by decide,by decide,by decide,gJ rfl,gJ rfl,by simpa using ck f (by decide),rfl⟩
   ·exact G
   ·trivial
  ·have:p.bt.length<=5:=by
    cases p with
    | fin=>exact ef _
    | say a b cs=>exact G.2.2.2.2.2.2.1
   show(_++(_++(p.bt++(_++[])))).length<=43
   simp only[bQ]
   show 2+(1+(p.bt.length+0))<=43
   lia
 refine aZ (da (aN (aq (aq (aq rfl rfl (g 192 (by decide))) rfl (gF (by decide))) rfl eq_int)) ?_)
 cases c / 192%4==0 with
 | false=>exact dX rfl (d5 (aU (fin (.say 2 (c / 2%2) [(z.1,z.2,3)]) ⟨by decide,by decide,by lia,by lia,by lia,gJ rfl,gJ rfl,by simpa using ck hz (by decide),rfl⟩)))
 | true=>
  rcases mod2 (c / 64)with h | h
  ·exact eW rfl (zp (x:=Pl.fin.toD) (m:=2) (cT (aq (lM (aj (ba (aj rfl rfl)) (aj (ba (aj rfl (aj rfl (aj rfl (aj (ba (aj (aq (aq rfl rfl (i7 cG)) (ba (aj rfl rfl)) (kK x 2)) rfl)) rfl))))) rfl))) (aq (aq rfl rfl (g 64 (by decide))) rfl (gF (by decide))) (by rw[h];exact cG))) (cT rfl) rfl rfl (aU (fin .fin trivial)))
  ·exact eW rfl (zp (x:=(Pl.say 0 1 [(x.1,x.2,2)]).toD) (m:=2) (cT (aq (lM (aj (ba (aj rfl rfl)) (aj (ba (aj rfl (aj rfl (aj rfl (aj (ba (aj (aq (aq rfl rfl (i7 cG)) (ba (aj rfl rfl)) (kK x 2)) rfl)) rfl))))) rfl))) (aq (aq rfl rfl (g 64 (by decide))) rfl (gF (by decide))) (by rw[h];exact c5))) (cT rfl) rfl rfl (aU (fin (.say 0 1 [(x.1,x.2,2)]) ⟨by decide,by decide,by decide,by decide,by decide,gJ rfl,gJ rfl,by simpa using ck f (by decide),rfl⟩)))
theorem XT{cs:List Ch}(hn:(cs.map (·.1)).Nodup)(a:c∈cs)(b:fits c.2.1 v=true):cs.find? (λx=>x.1==c.1&&fits x.2.1 v)=some c:=by
 induction cs with
 | nil=>cases a
 | cons x cs d=>
  rw[a_,g8]at hn;rw[om];rcases a9.mp a with rfl | q
  ·rw[beq_self_eq_true,b]
   rfl
  ·rw[show(x.1==c.1)=false from beq_eq_false_iff_ne.mpr λz=>hn.1 (z▸aO.mpr ⟨c,q,rfl⟩)]
   exact d hn.2 q
theorem HN{m:Int}(f:G2 m ps){j:Int}(d:c∈(ax ps j).bt)(g:fits c.2.1 v=true):(∃a b cs,ax ps j=.say a b cs)/\eU (ax ps j) c.1 v=some c.2.2:=by
 have o:=i4 f j
 cases e:ax ps j with
 | fin=>rw[e]at d;cases d
 | say a b cs=>
  rw[e]at d o;refine⟨⟨a,b,cs,rfl⟩,?_⟩
  show(cs.find? λx=>x.1==c.1&&fits x.2.1 v).map (·.2.2)=_
  rw[XT o.2.2.2.2.2.2.2.2 d g]
  rfl
theorem si{m:Int}(d:G2 m ps){h j:Int}(e:c∈(ax ps j).bt)(f:x.1=c.1)(g:fits c.2.1 x.2=true):∀{V:List Wv}{i:Int},Goes ps i V->iu ps (some i) V=some j->Goes ps i (V++[x])/\iu ps (some i) (V++[x])=some c.2.2/\fY ps h i (V++[x])=fY ps h i V++ea h (ax ps j) x
 | [],i,_,w=>by
  cases w;obtain⟨p,a⟩:=HN d e g;rw[<-f]at a;refine⟨⟨p,_,a,trivial⟩,?_,?_⟩
  ·show iu ps (eU (ax ps j) x.1 x.2) []=_
   rw[a]
   rfl
  ·show ea h (ax ps j) x++(match eU (ax ps j) x.1 x.2 with | some j=>fY ps h j [] | none=>[])=_
   rw[a];exact gv _
 | y::V,i,⟨q,n,b,r⟩,w=>by
  have w:iu ps (eU (ax ps i) y.1 y.2) V=some j:=w
  rw[b]at w;obtain⟨s,t,u⟩:=si d e f g r w;refine⟨⟨q,n,b,s⟩,?_,?_⟩
  ·show iu ps (eU (ax ps i) y.1 y.2) (V++[x])=_
   rw[b];exact t
  ·show ea h (ax ps i) y++(match eU (ax ps i) y.1 y.2 with | some j=>fY ps h j (V++[x]) | none=>[])=(ea h (ax ps i) y++(match eU (ax ps i) y.1 y.2 with | some j=>fY ps h j V | none=>[]))++_
   rw[b]
   show ea h (ax ps i) y++fY ps h n (V++[x])=_
   rw[u,j8]
theorem HP{h j:Int}(t:aA ps h j=false)(x:Wv):ea h (ax ps j) x=[]:=by
 unfold aA at t;unfold ea
 cases e:ax ps j with
 | fin=>rfl
 | say a b cs=>
  rw[e]at t
  have t:(a==h||b==h)=false:=t
  rw[Zc_,beq_eq_false_iff_ne,beq_eq_false_iff_ne]at t
  show(if a=h then _ else [])++(if b=h then _ else [])=_
  rw[if_neg t.1,if_neg t.2]
  rfl
def zX(d:D):Prop:=bZ d=true/\dm d<=10
theorem XU{h:Int}(e:bZ x.2=true/\dm x.2<=5):∀d∈ea h p x,zX d:=by
 intro d c;unfold ea at c
 cases p with
 | fin=>cases c
 | say a b cs=>
  have c:d∈(if a=h then [D.tup [.str "says",.int b,.str x.1,x.2]]else [])++(if b=h then [D.tup [.str "hears",.int a,.str x.1,x.2]]else []):=c
  rcases bW.mp c with q | q
  all_goals
   split at q
   ·rw[br.mp q]
    obtain⟨f,g⟩:=e;refine⟨by simp[bZ,eM,f],?_⟩;simp only[dm,d4]
    lia
   ·cases q
structure sj(ps:List Pl)(h:Int)(a:c0)(V W:List Wv):Prop where
 g:Goes ps 0 V
 w:iu ps (some 0) V=some a.1
 g':Goes ps 0 W
 w':iu ps (some 0) W=some a.2
 e:fY ps h 0 V=fY ps h 0 W
 p:∀d∈fY ps h 0 V,zX d
 o:(∀x∈V,lK x)/\∀x∈W,lK x
theorem zY{K:Kd}(hw:K.WF)(c:K.dp<=2):fits K K.first=true/\bZ K.first=true/\dm K.first<=5:=by
 have a:=y4 (pR hw)
 have b:=ve a
 exact⟨a,b.1,by lia⟩
theorem XW{m:Int}{ps:List Pl}(I:fX m ps){k:Nat}(hk:2<=k){h:Int}{a:c0}{V W:List Wv}(y:Wy (Rr k ps h) a V W):sj ps h a V W:=by
 have b:=rQ I
 induction y with
 | z=>exact⟨trivial,rfl,trivial,rfl,rfl,λd u=>(nomatch u),λx J=>(nomatch J),λx J=>(nomatch J)⟩
 | @s q a s V W _ U C o2 ih=>
  obtain⟨g,w,g',L,e,p,o,M⟩:=ih
  have E:∀{V:List Wv}{x:Wv},(∀x∈V,lK x)->cY x.2=true->∀y∈V++[x],lK y:=λh1 h2 y hy=>(bW.mp hy).elim (h1 y) λz=>by rw[br.mp z];exact h2
  rcases U.1 with⟨t,c,j,rfl,rfl⟩ | ⟨t,c,j,rfl,rfl⟩ | ⟨t,t',c,j,N,f,Y,rfl,rfl⟩
  ·obtain⟨n,O⟩:=zY C.1 C.2
   obtain⟨v,A,i⟩:=si b (h:=h) j (x:=(c.1,c.2.1.first)) rfl n g w;rw[HP t,gv]at i
   show sj ps h (c.2.2,q.2) (V++[(c.1,c.2.1.first)]) (W++[])
   rw[gv];exact⟨v,A,g',L,i.trans e,λd u=>p d (i▸u),E o (pS _),M⟩
  ·obtain⟨n,O⟩:=zY o2.1 o2.2
   obtain⟨v,A,i⟩:=si b (h:=h) j (x:=(c.1,c.2.1.first)) rfl n g' L;rw[HP t,gv]at i
   show sj ps h (q.1,c.2.2) (V++[]) (W++[(c.1,c.2.1.first)])
   rw[gv];exact⟨g,w,v,A,e.trans i.symm,p,o,E M (pS _)⟩
  ·obtain⟨n,O⟩:=zY C.1 C.2
   have r:=U.2 t t'
   have G:¬jz h (ax ps q.1) (ax ps q.2):=by
    unfold g6 at r;rw[t,t',ot,ot]at r;exact(zT hk (qa I q.1) (qa I q.2) (p_ t) (p_ t')).mp r
   have Q:N.2.1=c.2.1:=qE λz=>G (by
    obtain⟨x1,x2,x3,H⟩:=(HN b j n).1
    cases B:ax ps q.2 with
    | fin=>rw[B]at f;cases f
    | say y1 y2 y3=>
     rw[H]at j ⊢;rw[B]at f
     exact .inr (.inr ⟨c,j,N,f,Y,z⟩))
   have T:ea h (ax ps q.1) (c.1,c.2.1.first)=ea h (ax ps q.2) (c.1,c.2.1.first):=by
    unfold aA at t t'
    cases H:ax ps q.1 with
    | fin=>rw[H]at t;cases t
    | say x1 x2 x3=>
     cases B:ax ps q.2 with
     | fin=>rw[B]at t';cases t'
     | say y1 y2 y3=>
      rw[H]at t G;rw[B]at t' G;obtain⟨r1,r2⟩:=HK t t' (qE λz=>G (.inl z));unfold ea;rw[r1,r2]
   obtain⟨v,A,i⟩:=si b (h:=h) j (x:=(c.1,c.2.1.first)) rfl n g w;obtain⟨b1,b2,b3⟩:=si b (h:=h) f (x:=(c.1,c.2.1.first)) Y.symm (by rw[Q];exact n) g' L
   show sj ps h (c.2.2,N.2.2) (V++[(c.1,c.2.1.first)]) (W++[(c.1,c.2.1.first)])
   refine⟨v,A,b1,b2,by rw[i,b3,e,T],λd u=>?_,E o (pS _),E M (pS _)⟩;rw[i]at u;rcases bW.mp u with z | z
   ·exact p d z
   ·exact XU O d z
theorem HQ:∀{ds:List D},(∀d∈ds,zX d)->eM ds=true/\d4 ds<=10
 | [],_=>⟨rfl,ef _⟩
 | d::ds,h=>by
  obtain⟨a,e⟩:=h d bg
  obtain⟨b,f⟩:=HQ λx c=>h x (bV _ c)
  exact⟨by simp[eM,a,b],by simp only[d4];lia⟩
theorem XX{n:Nat}(hn:10<=n){m:Int}{ps:List Pl}(t:fX m ps){h:Int}{k':Nat}(C:2<=k'){str:Str}{a:c0}{V W:List Wv}(i:str="never"/\¬Ah (aX ps) (aA ps h) a.1\/str="unlike"/\aA ps h a.1=true/\g6 k' ps h a.1 a.2=false)(x:aA ps h a.2=true)(f:sj ps h a V W)(O:V.length<=16900)(Q:W.length<=16900):Tab n .fO [aE m ps,.int h,.tup [.str str,.tup (V.map bU),.tup (W.map bU)]]=some (.bl true):=by
 obtain⟨k,rfl,y⟩:=bI (c:=9) hn
 have d:=rQ t
 have T:ps.length<64:=kX t.2.2.2.1 (by decide)
 have J:=FR (n:=k) (by omega) (m:=m) d f.o.1
 have L:=FR (n:=k) (by omega) (m:=m) d f.o.2
 rw[f.w]at J;rw[f.w']at L
 have u:∀{U:List Wv}{j:Int},iu ps (some 0) U=some j->0<=j/\j<ps.length:=λ{U j} e=>by
  have:=Xa d (W:=U) (o:=some 0) ⟨Jn _,by have:=t.2.2.1;lia⟩
  rw[e]at this;exact this
 have v:=u f.w
 have E:=u f.w'
 have Y:=FU (n:=k) (h:=h) (by omega) (m:=m) d f.g f.o.1 (fo O)
 have M:=FU (n:=k) (h:=h) (by omega) (m:=m) d f.g' f.o.2 (fo Q)
 rw[<-f.e]at M
 have G:dt 64 (.tup (fY ps h 0 V)) (.tup (fY ps h 0 V))=some (.bl false):=by
  obtain⟨q1,q2⟩:=HQ f.p;exact W_ q1 (by show d4 _+1<=60;lia)
 have s1:=mL (n:=k) (m:=m) (h:=h) (fu y) v.1 v.2
 have s2:=mL (n:=k) (m:=m) (h:=h) (fu y) E.1 E.2
 obtain⟨F,hF,H⟩:=Hr (n:=k) (fu y) d T h
 have hs:str="never"\/str="unlike":=i.imp And.left And.left
 have c1:∀A:ae,aa 2 A=some (.tup [.str str,.tup (V.map bU),.tup (W.map bU)])->hY (gg (cB (ly .tuple (aa 2)))) (hY (cB (ab (dt 64) (au cV (ag [aa 2])) (cC (.int 3)))) (cB (ab nO (ab ak (aa 2) (cC (.int 0))) (aD (ag [cC (.str "unlike"),cC (.str "never")]))))) A=some false:=λA e=>by
  refine rT (mE (b:=true) (aN ?_)) (rT (aN (aq (aS (aj e rfl) rfl) rfl rfl)) (aN (aq (aq e rfl (aT cG)) (ba (aj rfl (aj rfl rfl))) ?_)))
  ·show(aa 2 A).bind _=_
   rw[e]
   rfl
  ·rcases hs with rfl | rfl<;>rfl
 have q:ak (.tup [.str str,.tup (V.map bU),.tup (W.map bU)]) (.int 1)=some (.tup (V.map bU)):=aT c5
 have s:ak (.tup [.str str,.tup (V.map bU),.tup (W.map bU)]) (.int 2)=some (.tup (W.map bU)):=aT at2
 rw[tab];refine mK (n:=5) (dM (gX (c1 _ rfl) rfl) (dM (lN (aS (aj rfl (aj (aq rfl rfl q) rfl)) J)) (dM (lN (aS (aj rfl (aj (aq rfl rfl s) rfl)) L)) (dM (gX (rT (aN (aq rfl rfl rfl)) (aN (aq rfl rfl rfl))) rfl) (dM (gX (aN (aq (aS (aj rfl (aj rfl (aj (aq rfl rfl q) rfl))) Y) (aS (aj rfl (aj rfl (aj (aq rfl rfl s) rfl))) M) G)) rfl) (dM (gX (aN (aq (aS (aj rfl (aj rfl (aj rfl rfl))) s2) rfl (Hn.trans (by rw[x];rfl)))) rfl) ?_)))))) rfl
 rcases i with⟨rfl,na⟩ | ⟨rfl,B,I⟩
 ·refine gZ (by
   rw[pV (aN (aq (aq rfl rfl (aT cG)) rfl rfl))];refine lJ (aq rfl (aS (aj rfl (aj rfl rfl)) hF) ((vo F a.1).trans ?_));rw[decide_eq_false λz=>na ((H a.1 v.1 v.2).mp z)]
   rfl)
 ·obtain⟨r,N,u2⟩:=Hy (n:=k) (fu y) d v E B x
  have hr:r=true:=u2.mpr (qE λz=>by
   have:=(zT C (qa t a.1) (qa t a.2) (p_ B) (p_ x)).mpr z
   unfold g6 at I;rw[B,x,this]at I
   cases I)
  rw[hr]at N;refine dM (gX (aN (aq (aq rfl rfl (aT cG)) rfl rfl)) rfl) (lJ ?_)
  have c2:cB (ab hZ (au (Tab k .fE) (ag [aa 0,aa 1,aa 3])) (cC .ay)) [some (aE m ps),some (.int h),some (.tup [.str "unlike",.tup (V.map bU),.tup (W.map bU)]),some (.int a.1),some (.int a.2)]=some true:=aN (aq (aS (aj rfl (aj rfl (aj rfl rfl))) s1) rfl (zN.trans (by rw[B])))
  show iI _ _ [some (aE m ps),some (.int h),some (.tup [.str "unlike",.tup (V.map bU),.tup (W.map bU)]),some (.int a.1),some (.int a.2)]=_
  unfold iI;rw[c2,bj];exact aS (aj rfl (aj rfl (aj rfl (aj rfl rfl)))) N
theorem XY{k:Nat}(p:12<=k){m:Int}{ps:List Pl}(g:fX m ps)(t:BK 13 43 ps)(h:Int):∃d d',Tab k .fh [aE m ps,.int h]=some d/\Tab k .fK [aE m ps,.int h]=some d'/\eA d .ay=!eA d' .ay/\(eA d .ay=false->Tab k .fO [aE m ps,.int h,d]=some (.bl true)):=by
 obtain⟨q,rfl,i⟩:∃q,k=q+2/\10<=q:=⟨k-2,by lia,by lia⟩
 have j:=rQ g
 obtain⟨d,u,b⟩:=W3 (k:=q) (fu i) j h;obtain⟨d',v,r⟩:=XN (n:=q+2) (fu p) g (XS t) h (e:=q) (fu i);refine⟨d,d',u,v,?_,?_⟩
 ·rcases b with⟨rfl,b⟩ | ⟨str,a,V,W,rfl,c,f,_⟩
  ·rcases r with⟨_,x,y,s,f⟩ | ⟨⟨xs,rfl⟩,_⟩
   ·exact(Wr b s f).elim
   ·rfl
  ·rcases r with⟨rfl,_⟩ | ⟨_,w⟩
   ·rfl
   ·exact(w _ _ (Ws .z c) f).elim
 ·intro A
  rcases b with⟨rfl,b⟩ | ⟨str,a,V,W,rfl,c,f,B,y,C,E⟩
  ·cases A
  ·exact XX (fu p) g (k':=q) (fu i) B f.1 (XW g (fu i) y) C E
theorem HR{c:Type}{f:c->D}{d:D->ae->Option ae}{gb:ae->Option Out}{I:ae->Prop}:∀(l:List c){b:ae},I b->(∀a∈l,∀b,I b->∃r,d (f a) b=some r/\∃s,gb r=some (.aF s)/\I s)->∃s,fS d gb (l.map f) b=some (.aF s)/\I s
 | [],b,i,_=>⟨b,rfl,i⟩
 | a::l,b,i,h=>by
  obtain⟨r,e,s,g,j⟩:=h a bg b i
  simpa only[a_,fS,e,g,bj]using HR l j λx m=>h x (bV _ m)
theorem HS{c:Type}{f:c->D}{l:List c}{fi:ae->Option (List D)}{d:D->ae->Option ae}{gb:ae->Option Out}{b:ae}(I:ae->Prop)(h:fi b=some (l.map f))(i:I b)(s:∀a∈l,∀b,I b->∃r,d (f a) b=some r/\∃s,gb r=some (.aF s)/\I s):∃s,eC fi d gb b=some (.aF s)/\I s:=by
 unfold eC;rw[h];exact HR l i s
theorem XZ{c:Type}{f:c->D}{l:List c}{fi:ae->Option (List D)}{d:D->ae->Option ae}{gb u:ae->Option Out}{b:ae}{o:Out}(I:ae->Prop)(h:fi b=some (l.map f))(i:I b)(k:∀s,I s->u s=some o)(s:∀a∈l,∀b,I b->∃r,d (f a) b=some r/\∃s,gb r=some (.aF s)/\I s):aQ (eC fi d gb) u b=some o:=by obtain⟨_,e,j⟩:=HS I h i s;exact dM e (k _ j)
theorem HU{k:Nat}(e:2<=k){m:Int}(f:fX m ps)(g:BK 12 42 ps):∀(cs:List Int)(o:Option D),∃a:List (Int × List Pl),b6 (gN 0) (λ_=>some true) (au (Tab k .fC) (ag [aa 1,aa 0])) [o,some (aE m ps)] (cs.map .int)=some (a.map λq=>aE q.1 q.2)/\a.length=cs.length/\∀q∈a,fX q.1 q.2/\BK 13 43 q.2
 | [],_=>⟨[],rfl,rfl,λq b=>nomatch b⟩
 | c::cs,o=>by
  obtain⟨d,h,i,j,_⟩:=Wj e f g c;obtain⟨a,n,p,r⟩:=HU e f g cs (some (.int c));refine⟨(m,d)::a,kJ (ρ':=[_,_]) rfl rfl (aS (aj rfl (aj rfl rfl)) h) n,by simp[p],λq b=>?_⟩;rcases a9.mp b with rfl | z
  ·exact⟨i,j⟩
  ·exact r q z
theorem X0{n:Nat}(hn:13<=n)(ns:List Int)(r:ns.length<=63):Tab n .fP [.aW ns]=some (.bl true):=by
 obtain⟨k,rfl,a⟩:=bI (c:=12) hn;obtain⟨m,ps,s,A,B⟩:=V9 (n:=k) (fu a) ns (most:=3) (by decide) (by decide);obtain⟨H,t⟩:=u7 (n:=k) (fu a) (ns:=ns) (i:=8) (by decide);obtain⟨I,u⟩:=u7 (n:=k) (fu a) (ns:=ns) (i:=9) (by decide);obtain⟨C,J,L⟩:=HM (n:=k) (fu a) H;obtain⟨E,M,N⟩:=HM (n:=k) (fu a) I
 have v:(bH ns (some 4) (some 8)).length<=63:=cj (xP _ _ _) r
 obtain⟨b,O,e2,Q⟩:=HU (k:=k) (fu a) A B (bH ns (some 4) (some 8)) none
 have g:∀q∈(m,ps)::(b++[((3:Int),C),(3,E)]),fX q.1 q.2/\BK 13 43 q.2:=λq p=>by
  simp only[a9,bW,kb,or_false]at p;rcases p with rfl | z | rfl | rfl
  ·exact⟨A,B.mono (by decide) (by decide)⟩
  ·exact Q q z
  ·exact L
  ·exact N
 rw[tab];refine mK (n:=6) (dM (lN (aS (aj rfl (aj rfl rfl)) s)) (dM (lN (fU (ds:=(bH ns (some 4) (some 8)).map .int) (by rfl) (small (by rw[aJ];exact fo v)) O)) (XZ (λw=>∃G h j,w=[some (.aW ns),some (aE m ps),some (.lst (b.map λq=>aE q.1 q.2)),G,h,j]) (l:=(m,ps)::(b++[((3:Int),C),(3,E)])) (f:=λq=>aE q.1 q.2) (gG (x:=.lst _) (aq (aq (lM (aj rfl rfl)) rfl (vi (by simp;lia))) (lM (aj (aS (aj (aS (aj rfl (aj rfl rfl)) t) rfl) J) (aj (aS (aj (aS (aj rfl (aj rfl rfl)) u) rfl) M) rfl))) (vi (by simp;lia))) (by rw[a_,cU];rfl)) ⟨_,_,_,rfl⟩ (λ_ _=>rfl) ?_))) rfl
 rintro q p _ ⟨G,h,j,rfl⟩
 obtain⟨y,T⟩:=g q p;refine⟨_,rfl,(HS (λw=>∃h j,w=[some (.aW ns),some (aE m ps),some (.lst (b.map λq=>aE q.1 q.2)),some (aE q.1 q.2),h,j]) (l:=dY q.1.toNat) (f:=λ(i:Nat)=>D.int (i:Int)) (by rw[<-rX];exact rW (aq rfl rfl (aT cG)) (by have:=y.1;lia) (by have:=y.2.1;lia)) ⟨_,_,rfl⟩ ?_).imp λ_ z=>⟨z.1,_,z.2⟩⟩
 rintro i hi _ ⟨h,j,rfl⟩
 obtain⟨d,d',U,Y,h3,h4⟩:=XY (k:=k) a y T (i:Int);refine⟨_,rfl,_,dM (lN (aS (aj rfl (aj rfl rfl)) U)) (dM (gX (aN (aq (aq rfl rfl (pP ..)) (aq (aS (aj rfl (aj rfl rfl)) Y) rfl (y_ ..)) (z:=.bl false) ?_)) rfl) (gX ?_ rfl)),_,_,rfl⟩
 ·rw[h3]
  cases eA d' .ay<;>rfl
 ·have q:cB (ab hZ (aa 5) (cC .ay)) [some (.aW ns),some (aE m ps),some (.lst (b.map λq=>aE q.1 q.2)),some (aE q.1 q.2),some (.int i),some d]=some (!eA d .ay):=aN (aq rfl rfl (y_ ..))
  cases e:eA d .ay with
  | true=>rw[e]at q;exact zh q
  | false=>rw[e]at q;exact vh q (mE (aN (aS (aj rfl (aj rfl (aj rfl rfl))) (h4 e))))
end PM
namespace lT
open PySem PySem.Spec PyProof.Rows L2 DL PT
noncomputable def top(i:Nat):Stmt:=PySem.Challenge.pw_parleyturn_k06_whole_a_part_or_a_reason.main.body.getD i (.Pass ⟨0,0,0,0⟩)
structure GF(K:aw)(mg:Str->Option Value):Prop where
 X1:mg "all"=none
 X2:mg "bool"=none
 X3:mg "enumerate"=none
 HV:mg "int"=none
 vG:mg "isinstance"=none
 X4:mg "len"=none
 X5:mg "list"=none
 X6:mg "range"=none
 X7:mg "reversed"=none
 X8:mg "set"=none
 HW:mg "sorted"=none
 X9:mg "str"=none
 z1:mg "tuple"=none
 lI:qN K mg "END" lI
noncomputable def ix:Fn->Nat
 | .fa=>1
 | .fb=>4
 | .fc=>6
 | .fd=>7
 | .fe=>8
 | .ff=>9
 | .fg=>10
 | .fh=>11
 | .fi=>12
 | .fj=>13
 | .fk=>14
 | .fl=>15
 | .fm=>17
 | .fo=>18
 | .fp=>19
 | .fq=>20
 | .fr=>21
 | .ft=>22
 | .fu=>23
 | .fv=>24
 | .fw=>25
 | .fx=>26
 | .fy=>27
 | .fA=>28
 | .fB=>29
 | .fC=>30
 | .fD=>31
 | .fE=>32
 | .fF=>33
 | .fG=>34
 | .fH=>35
 | .fI=>36
 | .fJ=>37
 | .fK=>38
 | .fL=>39
 | .fM=>40
 | .fN=>41
 | .fO=>42
 | .fP=>43
def kQ(q:Fn):List Str:=match q with
 | .fg=>["places","hand","sources","number","place","choice","ahead","waiting"]
 | .fw=>["_law_cell_here","_law_start","_law_many","_law_goals","_law_one","_law_others","_law_some","_law_rows","_law_choices","_law_j","_law_said_here","_law_afters","_law_k"]
 | .fG=>["_law_grammar_here","_law_hand","_law_found","_law_size_here","_law_place","_law_thing"]
 | _=>(dF (top (ix q))).names.filterMap λx=>match x.2 with | .local | .cell=>some x.1 | _=>none
def kT(q:Fn):List Str:=(m6 (top (ix q))).args.map (·.arg)
theorem sc:∀q,m5 (kQ q) (kT q) (dF (top (ix q))):=by
 intro q
 cases q<;>exact⟨rfl,rfl,rfl,by decide+kernel,rfl,by decide+kernel,by decide+kernel⟩
abbrev sk(K:aw)(q:Fn)(f:Addr)(fd:d7):Prop:=kl K (Fn.nm q) (Fn.nm q) (top (ix q)) f fd
def qb(K:aw)(k:Nat)(q:Fn):Sp:=match q with
 | .fJ=>pK K (kE (Tab k q))
 | _=>ko K (Tab k q)
structure Al(P:a6)(w:World)(K:aw)(mg:Str->Option Value)(base:Heap)(k:Nat):Prop where
 c:∀q,∃(f:Addr)(fd:d7)(ps:List Str),mg (Fn.nm q)=some (.ref f)/\mP K (.ref f)=true/\jI K fd ps []/\dS P w K mg base dG k f fd ps (qb K k q)
structure FF(K:aw)(mg:Str->Option Value)(x:Str)(st:Stmt)(ps:List Str):Prop where
 ex:∃f fd,kl K x x st f fd/\mg x=some (.ref f)/\jI K fd ps []
abbrev FQ(K:aw)(mg:Str->Option Value)(q:Fn):Prop:=FF K mg (Fn.nm q) (top (ix q)) (kT q)
section
variable {P:a6}{w:World}{K:aw}{mg:Str->Option Value}{base:Heap}{k:Nat}
theorem X_{q:Fn}(A:FQ K mg q):∃(f:Addr)(a:d7)(ps:List Str),mg (Fn.nm q)=some (.ref f)/\mP K (.ref f)=true/\jI K a ps []/\dS P w K mg base dG 0 f a ps (qb K 0 q):=by obtain⟨f,a,F,m,b⟩:=A.ex;exact⟨f,a,_,m,F.kp,b,by cases q<;>first | exact Pf | exact UK⟩
theorem Ya{q:Fn}(A:FQ K mg q)(ok:∀f a,sk K q f a->dS P w K mg base dG (k+1) f a (kT q) (qb K (k+1) q)):∃(f:Addr)(a:d7)(ps:List Str),mg (Fn.nm q)=some (.ref f)/\mP K (.ref f)=true/\jI K a ps []/\dS P w K mg base dG (k+1) f a ps (qb K (k+1) q):=by obtain⟨f,a,F,m,b⟩:=A.ex;exact⟨f,a,_,m,F.kp,b,ok f a F⟩
theorem fB{q:Fn}{np ns:Nat}{g:ae->Option Out}{f:Addr}{c:d7}(F:sk K q f c)(d:Tab (k+1) q=cI np ns g)(e:(kT q).length=np)(hn:(kQ q).length=ns)(body:∀{f b A a s H E},bL k (A.deeper (iR (Fn.nm q) (dF (top (ix q))) s.heap.objs.size f b))->(kQ q).Nodup->JB (jh dG P w K mg base (kQ q) (Fn.nm q) (dF (top (ix q))) f b A a s H E).ki (iV (top (ix q))) g):dS P w K mg base dG (k+1) f c (kT q) (ko K (Tab (k+1) q)):=d▸Pe F (sc q) e hn λb A a s H E i=>(body i (sc q).nd).h
theorem fO{q:Fn}{np ns:Nat}{g:ar->Option aL}{f:Addr}{c:d7}(F:sk K q f c)(d:Tab (k+1) q=eH np ns g)(e:(kT q).length=np)(hn:(kQ q).length=ns)(body:∀{f b A a s H E},bL k (A.deeper (iR (Fn.nm q) (dF (top (ix q))) s.heap.objs.size f b))->(kQ q).Nodup->KB (jh dG P w K mg base (kQ q) (Fn.nm q) (dF (top (ix q))) f b A a s H E).ki (iV (top (ix q))) g):dS P w K mg base dG (k+1) f c (kT q) (ko K (Tab (k+1) q)):=d▸Q1 F (sc q) e hn λb A a s H E h=>body h (sc q).nd
theorem fM{q:Fn}{np ns:Nat}{g:ar->Option (D × Addr × List D)}{f:Addr}{d:d7}(F:sk K q f d)(e:Tab (k+1) q=encM (runM ns g np))(h:(kT q).length=np+1)(hn:(kQ q).length=ns)(c:np+1<=ns)(body:∀{f b A a s H E},bL k (A.deeper (iR (Fn.nm q) (dF (top (ix q))) s.heap.objs.size f b))->(kQ q).Nodup->nL (jh dG P w K mg base (kQ q) (Fn.nm q) (dF (top (ix q))) f b A a s H E).ki (iV (top (ix q))) g):dS P w K mg base dG (k+1) f d (kT q) (pK K (kE (Tab (k+1) q))):=by
 rw[e,E2]
 exact Us F (sc q) h hn c λb A a s H E i=>body i (sc q).nd
theorem jq{X:Cx}{x:Str}{p a:Pos}{e:Expr}{es:List Expr}{fs:List (ae->Option D)}{q:Fn}(h:Al X.prog X.w X.K X.mg X.base k)(b:bL k X.A)(d:JA X (e::es) fs (ag fs))(f:Fn.nm q=x)(g:Gl X x)(i:(x==("__debug__":Str))=false)(j:qb X.K k q=ko X.K (Tab k q)):JE X (.Call (.Name x p) (e::es) [] a) (au (Tab k q) (ag fs)):=PX ⟨by have:=h.c q;rw[j,f]at this;exact this⟩ b d g i
theorem jm{X:Cx}{p a:Pos}{e:Expr}{es:List Expr}{fs:List (ae->Option D)}{i:Nat}(h:Al X.prog X.w X.K X.mg X.base k)(b:bL k X.A)(d:nN X (e::es) fs i)(f:Gl X "_law_state")(g:(("_law_state":Str)==("__debug__":Str))=false):KM X (.Call (.Name "_law_state" p) (e::es) [] a) i (kE (Tab k .fJ)) fs:=Uz ⟨h.c .fJ⟩ b d f g
set_option hygiene false in
local macro_rules
 | `(tactic| exists $l) => `(tactic| (first | ((with_reducible show JE _ _ (bY _ _ _ _ _)); refine P4 (N' := $l) ?_ (fun _ _ _ _ => have nd : oI ($l : List Str) := (by decide); ⟨?_, ?_, ?_⟩) rfl (by decide) rfl (by decide) ?_ ?_ ?_ ?_) | ((with_reducible show JS _ _ (cc _ (bY _ _ _ _ _))); refine Se (N' := $l) _ nd ?_ (fun _ _ _ _ => have nd : oI ($l : List Str) := (by decide); ⟨?_, ?_, ?_⟩) ?_ ?_ rfl (by decide) rfl (by decide) ?_ ?_ ?_ ?_ rfl ?_) | ((with_reducible show KS _ _ (cX _ (lZ (ek _ _ _ _ _)))); refine SA (N' := $l) _ nd ?_ (fun _ _ _ _ => have nd : oI ($l : List Str) := (by decide); ⟨?_, ?_, ?_⟩) ?_ ?_ rfl (by decide) rfl (by decide) ?_ ?_ ?_ ?_ rfl ?_) | ((with_reducible show KS _ _ (pI _ _)); refine T7 (N' := $l) _ nd ?_ (fun _ _ _ _ => have nd : oI ($l : List Str) := (by decide); ⟨?_, ?_⟩) ?_ ?_ rfl (by decide) rfl (by decide) ?_ ?_ ?_ ?_ rfl ?_) | ((with_reducible show JL _ _ (ek _ _ _ _ _)); refine R0 (N' := $l) ?_ (fun _ _ _ _ => have nd : oI ($l : List Str) := (by decide); ⟨?_, ?_, ?_⟩) rfl (by decide) rfl (by decide) ?_ ?_ ?_ ?_)); (any_goals ((with_reducible show eB _ _ _ _); (repeat' first | exact jZ | refine ⟨⟨rfl, ?_, ?_⟩, ?_⟩ | exact .inl rfl | exact .inr rfl); done)); (any_goals ((with_reducible show JG _ _ _); (repeat' first | ((with_reducible show oI _); exact nd) | ((with_reducible first | show Loc _ _ | show _ \/ _); first | exact .inl rfl | exact .inr rfl | exact .inr (.inl rfl)) | ((with_reducible show _ = _); exact rfl) | (with_reducible first | apply Dp | apply Ds | apply Dr | apply Dq)); done)))
theorem HX(G:GF K mg)(h:Al P w K mg base k){q:Fn}{f:Addr}{b:d7}(F:sk K q f b):dS P w K mg base dG (k+1) f b (kT q) (qb K (k+1) q):=by
 cases q<;>first | refine fB F rfl rfl rfl λa nd=>?_ | refine fO F rfl rfl rfl λa nd=>?_ | refine fM F rfl rfl rfl (by decide) λa nd=>?_
 all_goals (repeat' first | ((with_reducible show KM _ _ _ _ _);refine jm h a ?_ rfl rfl) | ((with_reducible first | show _=_ | show Gl _ _);first | exact rfl | decide | exact G.X3 | exact G.X5 | exact G.X6 | exact G.X8 | exact G.HW) | ((with_reducible first | show Loc _ _ | show eN _ _ | show _\/_);first | exact .inl rfl | exact .inr rfl | exact .inr (.inl rfl) | exact .inr (.inr rfl)) | ((with_reducible show bL _ _);exact a) | ((with_reducible show oI _);exact nd) | ((with_reducible show _<_);exact oV a) | ((with_reducible show _<=_);decide) | ((with_reducible show PassesOwn _ _ _ _);exact ZM) | ((with_reducible first | show JE _ _ (bY _ _ _ _ _) | show JS _ _ (cc _ (bY _ _ _ _ _)) | show KS _ _ (cX _ (lZ (ek _ _ _ _ _))) | show KS _ _ (pI _ _) | show JL _ _ (ek _ _ _ _ _));first | exists ["_law_cell_here","_law_grammar_here"] | exists ["word","kinds","others"] | exists ["place"] | exists ["number","hand","places"] | exists ["word","kind","number","pair"] | exists ["word","kind","number","nexts"] | exists ["_law_k","_law_letters","_law_cell_here"] | exists ["_law_j","_law_cell_here"] | exists ["_law_k","_law_many","_law_one","_law_cell_here"] | exists ["_law_k","_law_start","_law_j","_law_many"] | exists ["_law_k","_law_script"] | exists ["_law_j","_law_starts","_law_cell_here"] | exists ["_law_part_here","_law_kind_here"] | exists ["_law_choice"] | exists ["_law_place","_law_grammar_here","_law_hand"] | exists ["_law_choice","_law_found"] | exists ["_law_pair"] | exists ["_law_choice","_law_word_here","_law_kind_here"] | exists ["_law_place","_law_near_here"] | exists ["_law_choice","_law_word_here"]) | ((with_reducible show True);exact trivial) | ((with_reducible show _≠_);decide) | ((with_reducible show h_ _ _);repeat' first | exact jZ | refine⟨rfl,?_⟩) | ((with_reducible show ia _ _);repeat' first | exact jZ | refine⟨.inl rfl,?_⟩ | refine⟨.inr (.inl rfl),?_⟩ | refine⟨.inr (.inr ⟨_,rfl⟩),?_⟩) | ((with_reducible first | show KS _ _ (eG (nG _) _ _));apply Ek) | (with_reducible first | (show JE ..;first | apply Pg | apply Ph | apply PQ | apply Pq | apply PK | apply Pm | apply Pk | apply Pr | apply PN | apply Pj | apply PV | apply Pw | apply Px | apply Po | apply Sf | apply Th | apply T2 | apply Py | apply Sb | apply PY | apply Pp | apply Pu | apply RZ | apply UG) | (show JA ..;first | apply PJ | apply PH) | (show dj ..;first | apply Qa | apply Qi | apply Qd | apply Qb | apply Ql | apply Qj | apply Qk | apply Qf | apply Qc | apply Qh | apply Si | apply Qe | apply Uk | apply TK | apply TL | apply Sl | apply Qg | apply Qm | apply UJ | apply TR | apply T1 | apply UI | apply UC) | (show KS ..;first | apply QH | apply QG | apply QI | apply QJ | apply QF | apply QY | apply SX | apply TF | apply TB | apply Ek | apply TJ | apply QL | apply QZ | apply T8 | apply Ua | apply Tu | apply T4 | apply T5 | apply SW | apply Tv | apply QK | apply Uq | apply UA) | (show JS ..;first | apply Dt | apply P8 | apply P9 | apply P_) | (show JT ..;first | apply Pt | apply PC | apply PD | apply Sa | apply PF) | (show eE ..;first | apply Qy | apply Ts | apply Qz) | (show JG ..;first | apply Dp | apply Ds) | (show KG ..;first | apply QT | apply QW) | apply P5 | (show JC ..;first | apply Qn | apply Qp | apply SF | apply Sz | apply k_all | apply Qo | apply UH) | (show rp ..;first | apply QV | apply QU) | (show JO ..;first | apply PU | apply PR) | (show JI ..;first | apply P0 | apply TU | apply PZ) | (show JW ..;first | apply w_and | apply Pz | apply w_or | apply PB) | (show JF ..;first | apply P1 | apply P2) | apply QC | (show KF ..;first | apply QA | apply QB) | (show rl ..;first | apply Dr | apply Dq) | (show JL ..;first | apply R4 | apply R5 | apply R6) | (show JK ..;first | apply R_ | apply R9 | apply R8 | apply R7) | (show nN ..;first | apply Uu | apply Ut) | apply TC | apply S_ | apply Tt) | ((with_reducible show JE _ _ (au _ _));first | refine jq h a ?_ rfl rfl rfl rfl | refine xZ ?_ G.X4 PySem.boot_len ?_ ?_ ?_ ?_ | refine Dm ?_ G.z1 DL.xH ?_ ?_ ?_ ?_ | refine xZ ?_ G.HW DL.boot_sorted ?_ ?_ ?_ ?_ | refine Dm ?_ G.HV DL.CQ ?_ ?_ ?_ ?_ | refine xZ ?_ G.X1 DL.boot_all ?_ ?_ ?_ ?_) | refine ud .tuple G.vG G.z1 DL.xH ?_ ?_ ?_ ?_ ?_ ?_ | refine Uj G.z1 G.X7 ?_ ?_ ?_ ?_ ?_ | refine ud .int G.vG G.HV DL.CQ ?_ ?_ ?_ ?_ ?_ ?_ | refine ud .bool G.vG G.X2 DL.OE ?_ ?_ ?_ ?_ ?_ ?_ | refine ud .str G.vG G.X9 DL.OF ?_ ?_ ?_ ?_ ?_ ?_ | refine Pn G.lI ?_ ?_ | apply Uo | apply Up | apply Um | apply TH | apply SG | apply P6 | apply QD | apply P7 | apply QE | apply Dt | exactλ_=>rfl)
theorem st(G:GF K mg)(A:∀q,FQ K mg q)(h:Al P w K mg base k):Al P w K mg base (k+1):=⟨λq=>Ya (A q) λ_ _ F=>HX G h F⟩
theorem al(G:GF K mg)(A:∀q,FQ K mg q):∀k,Al P w K mg base k
 | 0=>⟨λq=>X_ (A q)⟩
 | k+1=>st G A (al G A k)
noncomputable def HY(K:aw):Sp:=λvs H Q _=>∃(a:Addr)(ns:List Int),vs=[.ref a]/\b8 K H a (ns.map V.int)/\ns.length<=63/\∀H',Q (.bl true) H'
theorem Yb(d:∀ns:List Int,ns.length<=63->Tab (k+1) .fP [.aW ns]=some (.bl true))(G:GF K mg)(A:∀q,FQ K mg q):∃f c,mg "law"=some (.ref f)/\(∀(s:ao)(u:Value),vO s c ⟨[u],[]⟩ [("_law_script",u)])/\∀(P:a6)(w:World)(base:Heap),dS P w K mg base dG (k+1) f c ["_law_script"] (HY K):=by
 obtain⟨f,c,F,m,b⟩:=(A .fP).ex;refine⟨f,c,m,λs u=>?_,λP w base=>?_⟩
 ·obtain⟨x,y,kV,doc,z,B,g,C,i,rfl,lk,j⟩:=F.ex
  exact .of_eq rfl
 ·have h:=al (P:=P) (w:=w) (base:=base) G A k
  refine(HX G h F).imp λvs H Q E n=>?_
  obtain⟨a,ns,e,p,t,q⟩:=n;subst e
  show ko K (Tab (k+1) .fP) _ H Q E
  exact⟨[.aW ns],.bl true,.cons (.aW p) .nil,d ns t,λv H' _ r=>by cases r;exact q H'⟩
end
noncomputable def Bd:List Str->(List Value->Prop)->Prop
 | [],P=>P []
 | _::l,P=>∀a,Bd l λus=>P (a::us)
theorem bd{ps:List Str}:∀{P:List Value->Prop},Bd ps P->∀us:List Value,us.length=ps.length->P us:=by
 induction ps with
 | nil=>exactλh us e=>by cases us with
  | nil=>exact h
  | cons=>cases e
 | cons _ _ b=>exactλh us e=>by cases us with
  | nil=>cases e
  | cons a t=>exact b (h a) t (Nat.succ.inj e)
theorem Yc{K:aw}{h:Heap}{p:Str->Option Value}(X:K.In h)(G:h.Ns jV p){x:Str}{st:Stmt}{ps:List Str}{f:Addr}{r i:Option Addr}{s:Array (Option Value)}{t kV u j q m:Value}(a:Zj_ K jV x=some (some (.ref f)))(l:K.lookup f=some ⟨t,r,.func (oh x x (m6 st) (iV st) (dF st) .none kV u j i q m),s⟩)(c:Aa K q x=true)(k:mP K (.ref f)=true)
  (b:∀(kV doc j:Value)(i:Option Addr)(n m:Value),Bd ps λus=>bindArgs (oh x x (m6 st) (iV st) (dF st) .none kV doc j i n m) ⟨us,[]⟩=pure (ps.zip us)):FF K p x st ps:=⟨_,_,BZ (st:=st) l c k,Zk_ X G a,(BZ (st:=st) l c k).binds λa c d e f g=>bd (b a c d e f g)⟩
theorem Yd{K:aw}{h:Heap}{b:Str->Option Value}(X:K.In h)(G:h.Ns jV b){a:Addr}{c:Option Addr}{d:Nat}{ys:Array (Option Value)}{t:Tok}(y:K.lookup a=some ⟨.type "tuple",c,.seq #[.str "end" t] d,ys⟩)(z:Zj_ K jV "END"=some (some (.ref a))):qN K b "END" lI:=⟨.ref a,_,Zk_ X G z,rfl,λH=>.tup (xs:=[.str "end"]) (.inr ⟨_,_,_,y,rfl,rfl,uc rfl,(.cons ⟨_,rfl⟩ .nil)⟩) (.cons (.str _ (by decide)) .nil)⟩
theorem walk{k:Nat}(j:∀ns:List Int,ns.length<=63->Tab (k+1) .fP [.aW ns]=some (.bl true))(p:bL (k+1) oj){l:YF}{q:a6}{b:List Str}{r:(Str->Option Value)->Heap->Prop}{i:World->Heap->Prop}{d:DefRec}{K:Params->aw}(hn:l.most=some 63)(g:d.params.defaults=[])(s:d.name="law")
  (t:∀(w:World)(h:Heap),i w h->(K w.params).In h) (F:∀(w:World)(c:Str->Option Value)(h:Heap),(K w.params).In h->h.Ns jV c->GF (K w.params) c/\∀q,FQ (K w.params) c q):YG q b r i l.row.toRowW d [] (λf vs=>Iw f vs):=
 L2.Mn (n:=63) (k:=k+1) (x:="_law_script") (CX:=λ_=>dG) (sp:=λw=>HY (K w.params)) hn (by decide) g p t (λw c fa h KX G e=>by
  obtain⟨u,v⟩:=F w c h KX G;obtain⟨f,y,m,A,B⟩:=Yb j u v;rw[s,m]at e;cases e
  exact⟨y,A,λbase _ _=>B l.prog w base⟩) (λ_ _ a ns C _ E=>⟨a,ns,rfl,E,C,λ_=>rfl⟩) λ_ _ _ _ _ z=>z
end lT
namespace lT
open PySem L2 DL PT
theorem main:∀ns:List Int,ns.length<=63->Tab (99+1) .fP [.aW ns]=some (.bl true):=PM.X0 (by decide)
end lT
namespace PySem.W.Fast
def tw1003231761172692180:=0
def tw10042637454046905828:=0
def tw10045692335545322322:=0
def tw10266895951846945933:=0
def tw10449961929543711488:=0
def tw10590465474000762170:=0
def tw1062075557834812548:=0
def tw1068348684354893914:=0
def tw10742673173256118272:=0
def tw10958715320873390950:=0
def tw11126632404040307209:=0
def tw11142475435858536629:=0
def tw11255558299868713695:=0
def tw1126272423951408838:=0
def tw11285166641928693038:=0
def tw11309166430176447320:=0
def tw11340808695887995365:=0
def tw11642259944110754614:=0
def tw11713527084628031222:=0
def tw11829415181438546605:=0
def tw11868118697839949861:=0
def tw11886317443181204536:=0
def tw12101653873974976733:=0
def tw12172855205959992087:=0
def tw12177053428008818996:=0
def tw12348216409466850739:=0
def tw1241053864390433242:=0
def tw12626818377772880031:=0
def tw126534574219987137:=0
def tw12762233126989409543:=0
def tw12969932047123312636:=0
def tw13059509128117756683:=0
def tw1321363462888935346:=0
def tw13238474666682118225:=0
def tw13288779470039366617:=0
def tw13520797766942109601:=0
def tw13554369610792690160:=0
def tw13833534856471841002:=0
def tw13889403917749579806:=0
def tw13997216144061817269:=0
def tw14090272234629841324:=0
def tw14112634784775015459:=0
def tw14182693067379923423:=0
def tw14186063229769932705:=0
def tw1424229100059468519:=0
def tw1424488928142728772:=0
def tw14306243559641080077:=0
def tw14566192298066974739:=0
def tw14698439526151869924:=0
def tw14721638951981174275:=0
def tw14846824242203865288:=0
def tw14928918863216054033:=0
def tw14983842557611258578:=0
def tw15196194178629328805:=0
def tw15221314227419366334:=0
def tw154537111653058648:=0
def tw15752416700040655213:=0
def tw15832365608614532566:=0
def tw15935251310812092783:=0
def tw16014580447437876030:=0
def tw160170574176714708:=0
def tw16182470563344732502:=0
def tw16274355054708278917:=0
def tw164210318892688471:=0
def tw16475899922084997500:=0
def tw16516092493685060479:=0
def tw16781589830993854203:=0
def tw16785070622842079334:=0
def tw16921034192215732691:=0
def tw17363687666470317817:=0
def tw17381552931607894815:=0
def tw17402377004074690914:=0
def tw1741317887208602597:=0
def tw17455923381942837692:=0
def tw17638997718820368720:=0
def tw17660859937968104354:=0
def tw17898722632379781721:=0
def tw17906105819068889197:=0
def tw17947243726837501490:=0
def tw18001115970991903391:=0
def tw18017694026266967194:=0
def tw1859048676744325049:=0
def tw2014996840676810141:=0
def tw2101851200056557692:=0
def tw2119146903527327908:=0
def tw2148032678268883797:=0
def tw2364296000269392123:=0
def tw2550085162034204793:=0
def tw2849702430452034617:=0
def tw2957960390755958833:=0
def tw3012677584052390206:=0
def tw3066078547203518143:=0
def tw3296624269114758304:=0
def tw3406014672624390327:=0
def tw3429689618156563821:=0
def tw3614153928826975816:=0
def tw3904747510560015622:=0
def tw40696473149914450:=0
def tw4214775713909548046:=0
def tw4289672991250582951:=0
def tw4461577438142167590:=0
def tw4504037173114825648:=0
def tw4600189795931548359:=0
def tw4622056475593449076:=0
def tw4842545775059350870:=0
def tw5021346720887919194:=0
def tw520066735649547194:=0
def tw5255349604809807535:=0
def tw5258190446632248326:=0
def tw529023517502798010:=0
def tw5405034585467662460:=0
def tw5452650625557825503:=0
def tw5480664868874232265:=0
def tw5967411644086332535:=0
def tw5974401234850572230:=0
def tw6055947094099712134:=0
def tw6340497738447459924:=0
def tw6463513701912937472:=0
def tw6605581195710811088:=0
def tw6826148084787178546:=0
def tw6947617782424205779:=0
def tw6963649033741881288:=0
def tw7052541791138508060:=0
def tw7110586170541134963:=0
def tw7136275102769392457:=0
def tw7245850686620667495:=0
def tw7308230089064683943:=0
def tw733267315233905296:=0
def tw7372566391370802780:=0
def tw7410966524642354282:=0
def tw7449247513968143362:=0
def tw7571343781511466067:=0
def tw7595522906925715214:=0
def tw7672308177863717333:=0
def tw7692644697038915736:=0
def tw7744454503747698960:=0
def tw7778792286204680230:=0
def tw7811129030117543774:=0
def tw7841525136071112047:=0
def tw7919145107756614390:=0
def tw7932049128286305357:=0
def tw7934131705217958473:=0
def tw7967566849235910582:=0
def tw812363839253241802:=0
def tw8128271756434049721:=0
def tw8177496470443246314:=0
def tw8801902628425413180:=0
def tw8832593335076935697:=0
def tw8931653740947872126:=0
def tw9001080810183630082:=0
def tw9020459961273978297:=0
def tw9064831543914927541:=0
def tw9126745321686215188:=0
def tw9241835272977823482:=0
def tw9250733113075470753:=0
def tw9283578747941994642:=0
def tw9376996939544523653:=0
def tw9509676437309838938:=0
def tw9619087215126156834:=0
def tw9822668523309377802:=0
end PySem.W.Fast
open PySem PySem.W PyProof.Rows
set_option maxRecDepth 100000 in
set_option maxHeartbeats 0 in
theorem PySem.Challenge.cw_parleyturn_k06_whole_a_part_or_a_reason_holds : PySem.Challenge.rw_parleyturn_k06_whole_a_part_or_a_reason.Holds := by
  w_on;o_law;k_head;(case hw=>w_witness2)
  k_fill
  refine lT.walk (k:=99) lT.main ⟨rfl,by decide,by decide⟩ (l:=PySem.Challenge.rw_parleyturn_k06_whole_a_part_or_a_reason) rfl rfl rfl (λw h Y=>PySem.W.kIn_of Y) ?F
  case F=>
    intro w mg h KX G
    refine' ⟨?_,λq=>?_⟩
    ·constructor
     all_goals first | (refine' PySem.W.mg_none_of KX G ?_;k_is) | (refine' lT.Yd KX G ?a ?b;(case b=>k_is);(case a=>k_is))
    ·cases q<;>(delta lT.FQ PT.Fn.nm lT.ix;dsimp only)<;>(refine' lT.Yc KX G ?a ?b ?c ?d (λ_ _ _ _ _ _=>?e);(case a | b | c | d=>k_is);case e=>first | exactλ_=>rfl | exactλ_ _=>rfl | exactλ_ _ _=>rfl | exactλ_ _ _ _=>rfl | exactλ_ _ _ _ _=>rfl)
#print axioms PySem.Challenge.cw_parleyturn_k06_whole_a_part_or_a_reason_holds