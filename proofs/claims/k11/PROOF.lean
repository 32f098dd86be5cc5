import PyProof.Rows.All
import Wide.All
import OpenK.AllK
import Wide.FinOn
import Lean
import PyProof.EqAt
import PyProof.EqKinds
import PyProof.TupleCall
import KE.KSortTup
import PyProof.ExcAttrAll.ValueError
import PyProof.ExcArgsOwn
import KE.KTryMore
import KE.KIsNot
import KE.KPairComp
import KE.KDictSum
import KE.KEqDict
import KE.KRevIter
import PyProof.CollectIter
import PyProof.TupleOfGen
import PyProof.Rows.TupDisplay
import PyProof.Rows.SetFrom
import PyProof.NeKinds
import PySem.Challenge.RW_parleyturn_k11_whole_each_way_can_be_gon
set_option Elab.async false
set_option compiler.extract_closed false
set_option bootstrap.genMatcherCode false
set_option linter.all false
set_option maxRecDepth 100000
set_option maxHeartbeats 4000000
set_option backward.eqns.nonrecursive false
set_option backward.match.sparseCases false
set_option genSizeOf false
set_option genSizeOfSpec false
open Array renaming forIn_toList→ZwS,getElem?_eq_getElem→ZxB,getElem?_eq_none_iff→Zw6,getElem?_toList→uD,length_toList→oE,toArray_toList→ZxA,toList→Zwe
open Bool renaming and_assoc→ZxZ,and_eq_true→cV,and_false→QK,eq_false_iff→pW,eq_iff_iff→rC,false_eq_true→lC,false_ne_true→dg,false_or→QN,not_true→QP,or_eq_false_iff→G8,or_eq_true→Zyd,or_true→Zyi,true_and→rG,true_or→ZwD,true→be,false→bi
open Classical renaming byContradiction→xH,choose→Ha,choose_spec→Ba,propDecidable→Gs
open Eq renaming symm→Gr
open False renaming elim→dX
open ForInStep renaming yield→ZwZ
open Int renaming emod_eq_of_lt→RB,emod_lt_of_pos→rM,emod_nonneg→rL,eq_ofNat_of_zero_le→Zyh,le_refl→uS,lt_of_le_of_lt→ZxY,mul_nonneg→Zx0,natCast_nonneg→Bk,toNat_natCast→mn,toNat_of_nonneg→jY,zero_add→Rr
open Int.ofNat renaming inj→Hb
open List renaming Nodup→rO,all_cons→cW,all_eq_true→hY,all_map→ZwV,any_cons→jE,any_eq_false→Qo,any_eq_true→G9,append_assoc→jX,append_nil→eS,append_of_mem→Bi,concat_eq_append→Zx4,cons_append→GL,cons_ne_nil→Bf,contains_iff_mem→ZxL,countP→Zx9,countP_append→Ru,countP_cons→Zx_,countP_le_length→Zx2,count_cons→Zya,dropLast_concat_getLast→Zx1,drop_eq_getElem_cons→Gy,drop_length→QV,drop_zero→Zw5,eq_nil_or_concat→Zx3,exists_cons_of_ne_nil→G3,ext_getElem?→Gu,filterMap_cons→FY,filterMap_map→Zwm,filter_append→Zye,filter_sublist→RD,find?_cons→uG,find?_cons_of_neg→Q_,find?_cons_of_pos→Q9,find?_eq_none→Zxn,flatMap_append→G6,flatMap_cons→uQ,flatMap_map→Zyf,foldl_append→RC,foldl_cons→xD,forall_mem_cons→Zx6,getD_eq_getElem?_getD→pY,getElem?_append_left→gL,getElem?_append_right→ku,getElem?_cons_succ→Bb,getElem?_eq_getElem→cF,getElem?_eq_none→uP,getElem?_eq_none_iff→Gw,getElem?_eq_some_iff→bt,getElem?_inj→GP,getElem?_map→bJ,getElem?_of_mem→Rc,getElem?_range→A8,getElem?_replicate→xu,getElem?_set_ne→c4,getElem?_set_self→gq,getElem?_zip_eq_some→Rh,getElem_map→G4,getElem_mem→Rl,getElem_toArray→ZwY,getElem_zip→ZwI,length→uB,length_append→bH,length_cons→bz,length_drop→AY,length_filter_le→Zyc,length_map→aG,length_nil→lz,length_range→kz,length_replicate→ZxD,length_set→d9,length_singleton→xy,length_take→ly,length_zip→rE,lookup→uv,lookup_cons→QT,lookup_eq_none_iff→ZxK,map→Rf,map_append→cz,map_congr_left→uM,map_cons→bG,map_drop→Zw3,map_inj_right→Ri,map_map→gX,map_nil→uF,map_replicate→Zyj,map_set→uR,map_snd_zip→Q3,map_take→QW,mem_append→bU,mem_append_left→gf,mem_append_right→dr,mem_cons→a6,mem_cons_of_mem→b8,mem_cons_self→bZ,mem_filter→eR,mem_filterMap→xb,mem_flatMap→ng,mem_iff_getElem→ZwU,mem_map→aX,mem_of_getElem?→cu,mem_of_mem_drop→ZxX,mem_of_mem_take→ZxW,mem_range→rP,mem_singleton→aZ,nil_append→RA,nodup_append→mr,nodup_cons→d8,nodup_iff_pairwise_ne→A_,nodup_nil→Zxu,not_mem_nil→uO,of_mem_zip→rz,pairwise_append→Rx,pairwise_cons→iw,pairwise_iff_getElem→Zxh,pairwise_map→Rq,pairwise_singleton→GA,range→gd,range'→oI,range'_succ→xE,range_eq_range'→xF,range_succ_eq_map→QS,replicate→lx,reverse_cons→GU,set_cons_zero→Be,set_set→Zyg,size_toArray→dY,take_add_one→lD,take_append_drop→Rw,take_length→m8,take_of_length_le→Bh,zipWith→ZxC,zip_cons_cons→Q8
open List.Pairwise renaming imp_of_mem→Zy_,nil→QM
open List.cons renaming inj→rN
open Nat renaming add_assoc→xp,add_comm→Bg,add_le_add→Rv,add_right_comm→G5,ble→wZ,le_add_left→gW,le_antisymm→Gz,le_of_ble_eq_true→k_,le_of_eq→uw,le_of_lt→gK,le_of_not_lt→A5,le_refl→a9,le_succ→jC,le_succ_of_le→A7,le_trans→c3,lt_irrefl→oD,lt_of_le_of_lt→ml,lt_of_lt_of_le→jW,lt_or_gt_of_ne→Zxi,lt_succ_of_lt→xx,lt_succ_self→uz,lt_trans→uI,min_eq_left→G_,min_le_left→Zx7,min_le_right→Zx8,mul_le_mul→G7,mul_le_mul_right→Zyb,ne_of_gt→w8,ne_of_lt→df,not_lt→QU,sub_self→Bc,succ_le_succ→xm,succ_lt_succ→ZxI,succ_mul→oJ,succ_ne_self→Zw7,succ_ne_zero→Rz,zero_add→oH,zero_le→dZ,zero_lt_succ→mq
open Nat.succ renaming inj→rK
open Ne renaming symm→bW
open Option renaming bind_some→bb,getD_none→Zws,isSome_iff_exists→xf,isSome_map→Gp,map_eq_some_iff→bQ,toList_some→Ry,some→Z,none→am
open Option.some renaming inj→ao
open Or renaming inl→mm,inr→A6
open Prod renaming snd→Q7
open Prod.mk renaming inj→kA,injEq→Bj
open PyProof.Rows renaming AllBare→pS,IntsAre→uE,IsTupIter→rF,args_list_sort→Q6,args_tuple_getitem→Zwo,args_tupleiter_next→Zw9,callWith_builtin1→ZyB,callWith_type1→xa,entry_list_sort→Q5,entry_tuple_getitem→Zwn,entry_tupleiter_next→Zw8,envOfC→iH,listUpdate_at→QZ,mulOk_of_bits→Zza,seqEpoch_at→Q0,seqObj→du,size_push'→Q2,slot_list_sort→Q4,slot_tuple_getitem→xh,slot_tupleiter_next→GJ,sortedHeap→QY,subscriptTail→QG,subscriptTail_builtinR→Zwp,wpAny_notIn_heap→ZwG
open PyProof.Rows.IsTup renaming new→Gj
open PySem renaming wpAny_bind→υ,wpAny_pure→χ,Shared→ψ,Value→ω,Addr→Λ,BindsTo→AS,FuncData→dt,GenState→FZ,HeapKind→xr,IntMulOk→ur,IsEnum→xB,ItemsOf→uN,Keyword→uA,NameKind→xc,Program→a8,Within→Qi,assign→lr,assignEach→i0,atKey_none_of_get→Zxp,attributeBase→md,backTo→dW,backToKw→me,binaryOp→hV,bindArgs→AU,bootBuiltins→gy,boot_len→RE,builtinLookup_eq_fast→Zxv,builtinsNs→Qk,call→QL,callWith→pV,call_meets→A4,call_meetsIn→Rj,callerA→rB,closureFor→oF,codeAny→uu,codeAny_builtin→GQ,codeAny_mono→AV,compEnvC→Gx,compareOp→c5,concat_meets→Qx,dictSetDefault→Rm,entryOfKey→AN,eqIsQuiet_byValue→ZwR,evalArgs_none→Zwt,foldedSetIterable→uo,getItem→mi,getMethod→m7,keywordEach→mf,letOwnedTupleGo→F_,mainGlobals→ko,mem_of_lookup→AX,noFill_tuple_add→Qy,not_mem_keys_of_get→Zxq,plainId_quiet→Rb,post_val_or_str→GD,pyIter→w9,rawInt→w_,reduceHash→QR,relabel→ky,seqIndex?→Gm,seqIndex_of→QH,seq_tuple_add→Qz,setItem→w6,sizeLine→aA,sizeLine_eq→rq,sliceBounds→A3,slot_dict_setitem→Zxt,slot_list_getitem→Zwq,starEach→bq,storedH→lB,storedH_new→rJ,subscripted→A1,swappedStores→F9,swapsWith→d4,swapsWithSole→F8,sysModules→iu,tupleKind→AO,tupleKind_room_in1→Gq,typeIs_str→QI,typeLookup→Gi,valueAt→uH,wpAny_Dict_empty→ZwH,wpAny_Name→Ql,wpAny_callSpecial?_slot→uC,wpAny_call_entry→mj,wpAny_dictEntries→GX,wpAny_dictEpoch→Ro,wpAny_dictFind_heap→Zxo,wpAny_execs_nil→F0,wpAny_field→rA,wpAny_forIn_list→ZwT,wpAny_getItem_heap→ZwF,wpAny_getItem_str_slice→GC,wpAny_isOneOf_valiter→Rp,wpAny_loadName_cell→Zwc,wpAny_loadName_local→Zwb,wpAny_mono→lq,wpAny_newList→Q1,wpAny_notOrdered_dict→Ra,wpAny_passesOwn→um,wpAny_pyHash_int→Zv8,wpAny_pyHash_str→Zv9,wpAny_pyIter_enum→GH,wpAny_pyIter_list→Qn,wpAny_rule→xq,wpAny_seqItems→QQ,wpAny_sequenceKey→QE,wpAny_setField→GK,wpAny_specialOf→xo,wpAny_standAt→Qm,wpAny_typeNameOfWhole_valiter→GZ,wpAny_typeOf→A0,wpAny_updateDictKeys→Zxr
open PySem.Around renaming under→Qt,under_plainId→GS
open PySem.AutoSeq1 renaming list_extend_list_list_0→Zwy
open PySem.Builtin.Dict renaming keyAndDefault→Zy6,missed→Zy7,showsAll→Zy9
open PySem.Builtin.Dict_items renaming addrOf→ZxS,ownsTuple→ZxR
open PySem.Builtin.List renaming listExtendWith→Zxz,listLengthHint→Zy5,listSameRef→Zxy,listTooLong→Gn
open PySem.Builtin.Range renaming rangeSize→Zyy
open PySem.Builtin.Slice renaming sliceAdjust→QD,sliceApplied→Zwl,sliceFields→ZyD,slicePartIndex→ZyC,slicePlaces→Gg
open PySem.Builtin.SmallTypes renaming nextOf→GI
open PySem.Builtin.Str renaming strSliceIndices→Zw4
open PySem.Builtin.Tuple renaming tupleExact→xj,tupleHashOf→uJ,tupleIsExact→Zw2,tupleItemsOf→QF
open PySem.Calls renaming Name_function_global→Zwd,callWith_builtin→QJ,call_function_entry→Zxg,evalArgs_plain→Zwu,spliced_cons→Zwj,spliced_nil→Zwi
open PySem.Code renaming frames→Zwh,isFrame→Qu
open PySem.F renaming args_dict_setdefault_3→ZxH,args_dict_valueiterator_next_1→ZxQ,args_list_extend_2→Zwx,args_object_init_2→Zxb,args_tuple_add_2→QC,entry_dict_setdefault→ZxG,entry_dict_valueiterator_next→ZxP,entry_list_extend→Zww,entry_list_pop→ZwA,entry_tuple_add→QB,plainAttrs_dict→Rk,plainAttrs_list→m_,plain_list_iadd→ZxF,plain_list_iadd→Zxw,slot_dict_get→ZxM,slot_dict_getitem→QO,slot_dict_setdefault→GV,slot_dict_valueiterator_next→GY,slot_dict_values→ZxV,slot_dict_values_iter→ZxO,slot_list_append→uK,slot_list_extend→Zwv,slot_list_extend→Zxd,slot_list_pop→Zwz,slot_list_pop→Zxk,slot_tuple_add→QA,slot_tuple_hash→Gv,type_dict_setdefault→ZxJ,type_list_append→uL,type_list_extend→Zxe,type_list_pop→Zxl
open PySem.Heap renaming ExtBut→Zxa,SameBut→lj,get?_push_ne→xC,get?_push_of_some→cO,get?_push_size→eo,get?_update_ne→Zxf,get?_update_other→Zwr,get?_update_self→A2,lt_size→b6,size_push→AR,size_update→A9
open PySem.Heap.ExtBut renaming push→ZxU
open PySem.Heap.IsSliceOf renaming new→ZyE
open PySem.Heap.IsValIter renaming typeIs→nc
open PySem.Heap.IsValuesView renaming typeIs→ZxN
open PySem.Heap.SameBut renaming extBut→Zy8,update→oG
open PySem.IsPart renaming casesOn→Gh
open PySem.Obj renaming data_mapDictKeys→GO,data_mapFields→Zw_,isFreed_of_dict→Zxs,mapFields→ZxT,mapSeq→i4
open PySem.Paired renaming casesOn→Gd,length→FX,snoc→ZwE
open PySem.PassesOwn renaming never→Zxj
open PySem.SeqAt renaming EqAt→rD,RcAt→ZwW,RcNeAt→ZwX
open PySem.SeqAt.EqAt renaming int_int→ZwM,int_str→Qg,int_tuple→ZwL,same→ZwP,str_int→Qh,str_str→ZwO,str_tuple→ZwN,tuple_int→ZwJ,tuple_str→ZwK
open PySem.SeqAt.RcAt renaming tuples→ZwQ
open PySem.SeqAt.RcNeAt renaming bool_bool→ZyL,bool_int→ZyM,bool_none→ZyK,bool_str→ZyN,bool_tuple→ZyO,int_bool→ZyQ,int_int→ZyR,int_none→ZyP,int_str→ZyS,int_tuple→ZyT,none_bool→ZyG,none_int→ZyH,none_none→ZyF,none_str→ZyI,none_tuple→ZyJ,str_bool→ZyV,str_int→ZyW,str_none→ZyU,str_str→ZyX,str_tuple→ZyY,tuple_bool→Zy0,tuple_int→Zy1,tuple_none→ZyZ,tuple_str→Zy2,tuples→Zy3
open PySem.Shared renaming TypeIs→Zxx
open PySem.Str renaming join→xA,ofString→AZ
open PySem.Txt renaming slice→QX,slice_le→GG
open PySem.Value renaming bool→lh,bytes→Zv_,float→Zwa,int→AM,isInt→Zv6,isStrOf→Zv7,none→eJ,ref→cN,str→uk,type→FW
open PySem.W renaming Frag→au,KasT→rH,KdlSrc→ZxE,OpenLaw→ZwB,WalkO→ZwC,callWith_K→AW,cellsFrom_some→Zwk,codeIn→xg,emptyDict→pU,findIn→lu,fnOf→mh,handedIn→Zwf,hasDictIn→Qp,instObj→ro,isFn→AQ,kas_sort→jF,keepIn→ma,keq_eq→Zxm,kia_one→pX,kitx_dict→Zw1,kitx_list→Zw0,lookIn→Ge,makesIn→Qs,methodCall_KW→Qw,methodObj→Qj,mg_of→RG,nsIn→RF,plainGet→Gf,plainGet_of→Qq,plainOver→Zwg,takerIn→Qr
open PySem.W.Looks renaming here→Zyz,now→Zy4
open PySem.Walks renaming list→Zxc
open PySem.Within renaming cons→ZyA
open Sum renaming inl→AL,inr→lg
open Sum.inl renaming inj→Zx5
open Sum.inr renaming inj→xG
open True renaming intro→jD
set_option hygiene false
local macro_rules|`('a')=>`(cC (.int 1))
local macro_rules|`('b')=>`(by decide)
local macro_rules|`('c')=>`(by lia)
local macro_rules|`('d')=>`(model X.prog X.w)
local macro_rules|`('e')=>`(ae W (ae W W))
local macro_rules|`('f')=>`(x==("__debug__":Str))
local macro_rules|`('g')=>`(.tup (ps.map Pl.toD))
local macro_rules|`('h')=>`(cC (.int 0))
local macro_rules|`('i')=>`(x==("__classdict__":Str))
local macro_rules|`('j')=>`(model prog w)
local macro_rules|`('k')=>`(aB ps h)
local macro_rules|`('l')=>`(cC (.int 2))
local macro_rules|`('m')=>`(by grind)
local macro_rules|`('n')=>`(s.heap.objs.size+1)
local macro_rules|`('o')=>`(by simp)
local macro_rules|`('p')=>`(.Call (.Name x p) (e::es) [] pos)
local macro_rules|`('q')=>`(aT m ps)
local macro_rules|`('r')=>`(aq H O)
local macro_rules|`('s')=>`(apos.endLine==cpos.line)
local macro_rules|`('t')=>`(cs'.map kW)
local macro_rules|`('u')=>`(List Int)
local macro_rules|`('v')=>`(av.refl H)
local macro_rules|`('w')=>`(cw X B cl N' G2.objs.size L H2 U)
local macro_rules|`('x')=>`(ae W W)
local macro_rules|`('y')=>`(((dc ps T).take j).foldl (b_ ps h T) (Ks,[]))
local macro_rules|`('z')=>`(cC (.int 3))
local macro_rules|`('A')=>`(.Call (.Attribute o m apos) (e::es) [] pos)
local macro_rules|`('B')=>`(.lst (de m Pf))
local macro_rules|`('C')=>`(aN (ak W W eq_int))
set_option hygiene true
set_option hygiene false in
local macro_rules|`(tactic|exists $l)=>`(tactic|obtain rfl:=ao $l)
theorem W{α:Sort u}{a:α}:a=a:=rfl
noncomputable section
namespace L2
open PySem
def eL{d e:Type}{F:d->e->Prop}{a:d}{l:List d}{c:(m:List e)->Paired F (a::l) m->Prop}(cons:∀{b m}(r:F a b)(t:Paired F l m),c (b::m) (.cons r t)){m:List e}(r:Paired F (a::l) m):c m r:=by cases r with|cons r t=>exact cons r t
def gM{f d:Type}{F:f->d->Prop}{c:(m:List d)->Paired F [] m->Prop}(e:c [] .nil){m:List d}(r:Paired F [] m):c m r:=by cases r;exact e
end L2
def fu{n:Nat}(h:b<=n)(e:wZ a b=be:=by rfl):a<=n:=c3 (k_ e) h
def fo{n:Nat}(h:n<=b)(e:wZ b a=be:=by rfl):n<=a:=c3 h (k_ e)
def aM{c d:Prop}{R:Prop}(h:c/\d)(k:c->d->R):R:=k h.1 h.2
def hZ{c:A->Prop}{R:Prop}(h:∃x,c x)(k:∀x,c x->R):R:=h.elim k
def aQ{c d e:Prop}{R:Prop}(h:c/\d/\e)(k:c->d->e->R):R:=aM h.2 (k h.1)
def gO{c:A->B->Prop}{R:Prop}(h:∃x y,c x y)(k:∀x y,c x y->R):R:=h.elim λx h=>hZ h (k x)
def gz{c d e P3:Prop}{R:Prop}(h:c/\d/\e/\P3)(k:c->d->e->P3->R):R:=aQ h.2 (k h.1)
def aU{c:A->B->C->Prop}{R:Prop}(h:∃x y z,c x y z)(k:∀x y z,c x y z->R):R:=h.elim λx h=>gO h (k x)
def jG{c d e P3 f:Prop}{R:Prop}(h:c/\d/\e/\P3/\f)(k:c->d->e->P3->f->R):R:=gz h.2 (k h.1)
def iy{c d e P3 f g:Prop}{R:Prop}(h:c/\d/\e/\P3/\f/\g)(k:c->d->e->P3->f->g->R):R:=jG h.2 (k h.1)
def ax{c d:A->Prop}{R:Prop}(h:∃x,c x/\d x)(k:∀x,c x->d x->R):R:=hZ h λx h=>aM h (k x)
def aJ{c d e:A->Prop}{R:Prop}(h:∃x,c x/\d x/\e x)(k:∀x,c x->d x->e x->R):R:=hZ h λx h=>aQ h (k x)
def cA{c d:A->B->Prop}{R:Prop}(h:∃x y,c x y/\d x y)(k:∀x y,c x y->d x y->R):R:=gO h λx y h=>aM h (k x y)
def bh{c d e P3:A->Prop}{R:Prop}(h:∃x,c x/\d x/\e x/\P3 x)(k:∀x,c x->d x->e x->P3 x->R):R:=hZ h λx h=>gz h (k x)
def ay{c d e:A->B->Prop}{R:Prop}(h:∃x y,c x y/\d x y/\e x y)(k:∀x y,c x y->d x y->e x y->R):R:=gO h λx y h=>aQ h (k x y)
def eM{c d:A->B->C->Prop}{R:Prop}(h:∃x y z,c x y z/\d x y z)(k:∀x y z,c x y z->d x y z->R):R:=aU h λx y z h=>aM h (k x y z)
def bV{c d e P3:A->B->Prop}{R:Prop}(h:∃x y,c x y/\d x y/\e x y/\P3 x y)(k:∀x y,c x y->d x y->e x y->P3 x y->R):R:=gO h λx y h=>gz h (k x y)
def aS{c d e:A->B->C->Prop}{R:Prop}(h:∃x y z,c x y z/\d x y z/\e x y z)(k:∀x y z,c x y z->d x y z->e x y z->R):R:=aU h λx y z h=>aQ h (k x y z)
def cv{c d e P3 f:A->B->Prop}{R:Prop}(h:∃x y,c x y/\d x y/\e x y/\P3 x y/\f x y)(k:∀x y,c x y->d x y->e x y->P3 x y->f x y->R):R:=gO h λx y h=>jG h (k x y)
def bS{R:Prop}{o:Option A}{f:A->Option B}(h:o.bind f=Z b)(k:∀a,o=Z a->f a=Z b->R):R:=by cases o with|none=>injection h|some a=>exact k a W h
def bR{p R:Prop}[Decidable p](h:(if p then x else am)=Z b)(k:p->x=Z b->R):R:=by
 by_cases z:p;·rw[if_pos z]at h;exact k z h
 ·rw[if_neg z]at h;injection h
namespace L2
open PySem PySem.Spec PyProof.Rows
abbrev _root_.Zaa:=List (Λ×Obj)
abbrev _root_.Zab:=ω->ψ->Prop
abbrev _root_.Zac:=Str->Option ω
abbrev Key:=Sum Int Str
noncomputable def rQ:Key->ω->Bool|.inl k,v=>Zv6 k v|.inr x,v=>Zv7 x v
noncomputable def RH(w:World):Key->Int|.inl k=>hashInt k|.inr x=>hashStr w x
def mu:∀{k:Key}{v:ω},rQ k v=be->(∃i t,k=AL i/\v=AM i t)\/(∃x t,k=lg x/\v=uk x t)|.inl i,v,h=>by obtain⟨t,e⟩:=Value.isInt_shape (k:=i) (v:=v) h;exact .inl ⟨i,t,W,e⟩|.inr x,v,h=>by obtain⟨t,e⟩:=Value.isStrOf_shape (x:=x) (v:=v) h;exact .inr ⟨x,t,W,e⟩
def RI(i:Int)(t:Tok):rQ (.inl i) (.int i t)=be:=by simp[rQ,Zv6]
def RJ(x:Str)(t:Tok):rQ (.inr x) (.str x t)=be:=by simp[rQ,Zv7]
theorem RL(a b:Int):decide ((AL a:Key)=AL b)=(a==b):=by grind
theorem RM(a b:Str):decide ((lg a:Key)=lg b)=decide (a=b):=by simp
theorem RN(a:Int)(b:Str):decide ((AL a:Key)=lg b)=bi:=(by rfl)
theorem RP(a:Str)(b:Int):decide ((lg a:Key)=AL b)=bi:=(by rfl)
def h7(prog:a8)(w:World):PySem.KeyKind prog w Key where
 is:=rQ
 hash:=RH w
 inj:=λv a b g f=>by
  rcases mu g with⟨i,t,rfl,rfl⟩|⟨x,t,rfl,rfl⟩
  ·rcases mu f with⟨j,u,rfl,e⟩|⟨y,u,rfl,e⟩;·injection e with c _;rw[c]
   ·exact nomatch e
  ·rcases mu f with⟨j,u,rfl,e⟩|⟨y,u,rfl,e⟩;·exact nomatch e
   ·injection e with c _;rw[c]
 byValue:=λk v h=>by rcases mu h with⟨i,t,rfl,rfl⟩|⟨x,t,rfl,rfl⟩<;>rfl
 pyHash:=λd h=>by
  rcases mu d with⟨i,t,rfl,rfl⟩|⟨x,t,rfl,rfl⟩
  ·exact Zv8 h
  ·exact Zv9 h
 eqBool:=λm d h=>by
  rcases mu m with⟨i,t,rfl,rfl⟩|⟨x,t,rfl,rfl⟩
  ·rcases mu d with⟨j,u,rfl,rfl⟩|⟨y,u,rfl,rfl⟩
   ·rw[RL]at h;exact wpAny_eqBool_int h
   ·rw[RN]at h;exact Qg i t y u _ _ _ _ h
  ·rcases mu d with⟨j,u,rfl,rfl⟩|⟨y,u,rfl,rfl⟩
   ·rw[RP]at h;exact Qh x t j u _ _ _ _ h
   ·rw[RM]at h;exact wpAny_eqBool_str h
 «strs»:=λk x t v h=>by
  rcases mu h with⟨i,u,rfl,e⟩|⟨y,u,rfl,e⟩
  ·exact nomatch e
  ·injection e with c _;subst c;cases v<;>rfl
def RQ(prog:a8)(w:World)(i:Int)(t:Tok):(h7 prog w).is (.inl i) (.int i t)=be:=RI i t
def RR(prog:a8)(w:World)(x:Str)(t:Tok):(h7 prog w).is (.inr x) (.str x t)=be:=RJ x t
inductive V where|aD|bl (b:Bool)|int (i:Int)|str (x:Str)|pZ (b:Array UInt8)|uT (b:UInt64)|ref (a:Λ)|ty (n:String) deriving DecidableEq
def RelV:V->ω->Prop|.aD,u=>u=eJ|.bl b,u=>u=lh b|.int i,u=>∃t,u=AM i t|.str x,u=>∃t,u=uk x t|.pZ b,u=>∃t,u=Zv_ b t|.uT b,u=>∃t,u=Zwa b t|.ref a,u=>u=cN a|.ty n,u=>u=FW n
abbrev Vals:List V->List ω->Prop:=Paired RelV
theorem Vals.length{xs:List V}{us:List ω}(r:Vals xs us):xs.length=us.length:=FX r
theorem Vals.get:∀{xs:List V}{us:List ω}{i:Nat}{x:V},Vals xs us->xs[i]?=Z x->∃u,us[i]?=Z u/\RelV x u|_,_,_,_,.nil,e=>by simp at e|_,_,0,_,.cons r _,e=>by simp at e;subst e;exact⟨_,W,r⟩|_,_,i+1,x,.cons _ t,e=>by obtain⟨u,c,d⟩:=Vals.get (i:=i) (x:=x) t (by simpa using e);exact⟨u,by simpa using c,d⟩
theorem Vals.set(r:RelV x u):∀{xs:List V}{us:List ω}(i:Nat),Vals xs us->Vals (xs.set i x) (us.set i u)|_,_,_,.nil=>.nil|_,_,0,.cons _ t=>.cons r t|_,_,i+1,.cons q t=>.cons q (Vals.set r i t)
def Vals.append:∀{ys:List V}{us ws:List ω},Vals xs us->Vals ys ws->Vals (xs++ys) (us++ws):=by induction xs with|nil=>intro ys us ws h s;induction h using gM;exact s|cons x xs c=>intro ys us ws h s;induction h using eL with|cons r t=>exact .cons r (c t s)
theorem Vals.take:∀{xs:List V}{us:List ω}(n:Nat),Vals xs us->Vals (xs.take n) (us.take n)|_,_,0,_=>.nil|_,_,_+1,.nil=>.nil|_,_,n+1,.cons r t=>.cons r (Vals.take n t)
theorem Vals.drop:∀{xs:List V}{us:List ω}(n:Nat),Vals xs us->Vals (xs.drop n) (us.drop n)|_,_,0,r=>r|_,_,_+1,.nil=>.nil|_,_,n+1,.cons _ t=>Vals.drop n t
def gA:Option V->Option ω->Prop|some v,Z u=>RelV v u|none,am=>True|_,_=>False
def KV{κ:Type}:List (κ×V)->List (κ×ω)->Prop:=Paired λ(p:κ×V)(q:κ×ω)=>p.1=q.1/\RelV p.2 q.2
noncomputable def kV:Key->V|.inl i=>.int i|.inr x=>.str x
inductive HO where|lst (xs:List V)|tup (xs:List V)|dK (kvs:List (Key×V))|dT (kvs:List (List Key×V))|set (S:Int->Bool) (n:Nat)|ins (C dx:Λ) (fs:List (Str×V))|own (x:Λ)|xd (fs:List (Str×V))|met (f x:Λ)|p_ (lo hi:Int)|dM (o:Obj) (u:HO)|qa (ps:Array ω)|ext (φ:World->(Λ->Option (List V))->Heap->Prop)
abbrev Hp:=Λ->Option HO
noncomputable def upd(H:Hp)(a:Λ)(o:HO):Hp:=λb=>if b=a then Z o else H b
theorem br:upd H a o a=Z o:=by unfold upd;simp
theorem bu(h:b≠a):upd H a o b=H b:=by unfold upd;rw[if_neg h]
def dD(e:H b=x)(h:b≠a):upd H a o b=x:=(bu h).trans e
def Hc{H:Hp}{a:Λ}{o u:HO}(h:H a=Z o)(h':H b=Z u)(d:o≠u):a≠b:=by grind
def gY{H:Hp}{a:Λ}{o:HO}(h:H a=Z o)(h':H b=am):a≠b:=by lia
noncomputable def gZ(H:Hp):Λ->Option (List V):=λb=>match H b with|some (.tup xs)=>Z xs|_=>am
theorem qb:gZ H b=Z xs↔H b=Z (.tup xs):=by unfold gZ;split<;>simp_all
section
variable (P:a8)(w:World)
def d6(H:Hp)(h:Heap)(a:Λ):HO->Prop|.lst xs=>xs.length<=aA/\∃(c:List ω)(n:Nat),Vals xs c/\h.get? a=Z {cls:=.type "list",data:=.seq c.toArray n}|.tup xs=>xs.length<=aA/\∃c:List ω,Vals xs c/\IsTup h a c.toArray|.dK kvs=>kvs.length<=aA/\(a==iu)=bi/\∃vs,KV kvs vs/\h.DictOf (h7 P w) a vs|.dT kvs=>kvs.length<=aA/\(a==iu)=bi/\∃xs:List (List Key×Λ×ω),Paired (λ(p:List Key×V)(q:List Key×Λ×ω)=>p.1=q.1/\H q.2.1=Z (.tup (p.1.map kV))/\RelV p.2 q.2.2) kvs xs∧ ∃o es ep,h.get? a=Z o/\o.ExactDict/\o.data=.dict es ep/\es.toList=xs.map (AN (AO (h7 P w)))/\(xs.map (·.1)).Nodup|.set S n=>h.SetOf (intKind P w) a S n|.ins C e fs=>H e=Z (.own a)/\fs.length<=1000/\e≠a/\h.get? a=Z (ro C e)∧ ∃d,h.Ns1 e d/\(∀f,gA (fs.lookup f) (d f))/\Qi d (fs.map (·.1))|.own _=>∃o,h.get? a=Z o|.xd fs=>∃d,h.Ns1 a d/\∀f,gA (fs.lookup f) (d f)|.p_ lo m=>∃t u v,h.get? a=Z {cls:=.type "range",data:=.fields #[.int lo t,.int m u,.int 1 v]}|.dM o u=>h.get? a=Z o/\d6 H h a u|.qa ps=>h.get? a=Z {cls:=.none,data:=.fields ps}|.met f x=>h.get? a=Z (Qj (.ref f) (.ref x))|.ext g=>g w (gZ H) h/\(∃o,h.get? a=Z o)/\∀(t1 t2:Λ->Option (List V))(i j:Heap),g w t1 i->(∀b xs,t1 b=Z xs->t2 b=Z xs)->(∀o,i.get? a=Z o->j.get? a=Z o)->g w t2 j
def dE(H:Hp)(h:Heap):Prop:=∀a o,H a=Z o->d6 P w H h a o
end
section
variable {P:a8}{w:World}{H H':Hp}{h h':Heap}{a:Λ}{o:HO}
theorem d6.lt(x:d6 P w H h a o):a<h.objs.size:=by cases o with|lst xs=>refine aM x λ_ z=>cA z λ_ _ _ e=>?_;clear x z;exact b6 e|tup xs=>refine aM x λ_ z=>ax z λ_ _ p=>?_;clear x z;exact p.lt|dK kvs=>refine aQ x λ_ _ z=>ax z λ_ _ t=>eM t λo _ _ e _=>?_;clear x z t;exact b6 e|dT kvs=>refine aQ x λ_ _ z=>ax z λ_ _ t=>eM t λo _ _ e _=>?_;clear x z t;exact b6 e|set S n=>refine aU x λo _ _ z=>ax z λ_ e _=>?_;clear x z;exact b6 e|ins C c fs=>refine jG x λ_ _ _ e _=>?_;clear x;exact b6 e|own y=>obtain⟨_,e⟩:=x;exact b6 e|xd fs=>obtain⟨_,⟨_,_,_,e,_⟩,_⟩:=x;exact b6 e|p_ lo d=>refine aU x λ_ _ _ e=>?_;clear x;exact b6 e|dM ob u=>obtain⟨e,_⟩:=x;exact b6 e|qa ps=>exact b6 (show h.get? a=Z _ from x)|met f y=>exact b6 (show h.get? a=Z _ from x)|ext g=>obtain⟨_,⟨_,e⟩,_⟩:=x;exact b6 e
theorem Paired.Hd{c d:Type}{F G:c->d->Prop}{l₁:List c}:∀{l₂:List d},Paired F l₁ l₂->(∀a b,F a b->G a b)->Paired G l₁ l₂:=by induction l₁ with|nil=>intro l₂ h f;induction h using gM;exact .nil|cons a l e=>intro l₂ h f;induction h using eL with|cons r t=>exact .cons (f _ _ r) (e t f)
def d6.mv(x:d6 P w H h a o)(k:∀b u,(b=a\/H b=Z (.own a))->h.get? b=Z u->h'.get? b=Z u) (A:∀b,H b=Z (.own a)->H' b=Z (.own a)) (m:∀b xs,H b=Z (.tup xs)->H' b=Z (.tup xs)):d6 P w H' h' a o:=by induction o with|lst xs=>refine aM x λz j=>cA j λg n r e=>?_;clear x j;exact⟨z,g,n,r,k _ _ (.inl W) e⟩|tup xs=>refine aM x λz j=>ax j λg r l=>ax l λob e c=>?_;clear x j l;exact⟨z,g,r,ob,k _ _ (.inl W) e,c⟩|dK kvs=>refine aQ x λz y j=>ax j λvs r l=>eM l λob es ep e c=>?_;clear x j l;exact⟨z,y,vs,r,ob,es,ep,k _ _ (.inl W) e,c⟩|dT kvs=>refine aQ x λz y j=>ax j λxs r l=>eM l λob es ep e c=>?_;clear x j l;exact⟨z,y,xs,Paired.Hd r λp q z=>⟨z.1,m _ _ z.2.1,z.2.2⟩,ob,es,ep,k _ _ (.inl W) e,c⟩|set S n=>refine aU x λob es ep j=>ax j λt e c=>?_;clear x j;exact⟨ob,es,ep,t,k _ _ (.inl W) e,c⟩|ins C J fs=>obtain⟨d,z,B,e,i,⟨od,es,ep,E,c⟩,r⟩:=x;exact⟨A _ d,z,B,k _ _ (.inl W) e,i,⟨od,es,ep,k _ _ (.inr d) E,c⟩,r⟩|own y=>obtain⟨ob,e⟩:=x;exact⟨ob,k _ _ (.inl W) e⟩|xd fs=>obtain⟨i,⟨od,es,ep,e,c⟩,r⟩:=x;exact⟨i,⟨od,es,ep,k _ _ (.inl W) e,c⟩,r⟩|p_ lo L=>refine aU x λt u v e=>?_;clear x;exact⟨t,u,v,k _ _ (.inl W) e⟩|dM ob u I=>obtain⟨e,q⟩:=x;exact⟨k _ _ (.inl W) e,I q⟩|qa ps=>have e:h.get? a=Z {cls:=.none,data:=.fields ps}:=x;show h'.get? a=Z {cls:=.none,data:=.fields ps};exact k a _ (.inl W) e|met f y=>have e:h.get? a=Z (Qj (.ref f) (.ref y)):=x;show h'.get? a=Z (Qj (.ref f) (.ref y));exact k a _ (.inl W) e|ext M=>obtain⟨p,⟨o,e⟩,st⟩:=x;exact⟨st _ _ _ _ p (λb xs q=>qb.mpr (m b xs (qb.mp q))) λo q=>k _ _ (.inl W) q,⟨o,k _ _ (.inl W) e⟩,st⟩
theorem dE.lt(x:dE P w H h)(e:H a=Z o):a<h.objs.size:=(x a o e).lt
def dE.fresh(x:dE P w H h)(e:h.objs.size<=a):H a=am:=by cases q:H a with|none=>rfl|some u=>exact absurd (jW (x.lt q) e) (oD _)
theorem dE.kept(x:dE P w H h)(k:∀b u,h.get? b=Z u->h'.get? b=Z u):dE P w H h':=λa o e=> (x a o e).mv (λb u _ q=>k b u q) (λ_ q=>q) λ_ _ q=>q
def dE.laid(x:dE P w H h)(k:∀b u,h.get? b=Z u->h'.get? b=Z u)(d:h.objs.size<=a)(new:d6 P w (upd H a o) h' a o):dE P w (upd H a o) h':=λb u e=>by
 have hn:=x.fresh d;by_cases f:b=a;·simp_all[br]
 ·rw[bu f]at e;exact(x b u e).mv (λc v _ q=>k c v q) (λc q=>dD q (gY q hn)) λc xs q=>dD q (gY q hn)
end
def Rd(H:Hp)(a:Λ)(u:HO):Prop:=H a=Z u\/∃o,H a=Z (.dM o u)
def Rd.ok(r:Rd H a u)(x:dE P w H h):d6 P w H h a u:=by
 rcases r with r|⟨o,r⟩;·exact x a u r
 ·obtain⟨_,q⟩:=x a _ r;exact q
def uU:Option HO->Prop|some (.lst _)=>True|some (.dK _)=>True|some (.dT _)=>True|some (.set _ _)=>True|some (.ins _ _ _)=>True|some (.ext _)=>True|_=>False
section
variable {P:a8}{w:World}{H:Hp}{h h':Heap}{x e:Λ}{o':HO}
def dE.write(ok:dE P w H h)(f:uU (H x))(t:e=x\/H e=Z (.own x))(k:∀b u,b≠e->h.get? b=Z u->h'.get? b=Z u)(g:∃u,h'.get? e=Z u) (new:d6 P w (upd H x o') h' x o'):dE P w (upd H x o') h':=λb u q=>by
 have i:∀c y,H c=Z (.own y)->c≠x:=λc y r z=>by subst z;rw[r]at f;exact f
 have j:∀c xs,H c=Z (.tup xs)->c≠x:=λc xs r z=>by subst z;rw[r]at f;exact f
 by_cases m:b=x;·simp_all[br]
 ·rw[bu m]at q;by_cases d:b=e
  ·have p:H b=Z (.own x):=by
    rcases t with z|z;·exact absurd (d.trans z) m
    ·rw[d];exact z
   rw[q]at p;exists p;obtain⟨v,A⟩:=g;exact⟨v,by rw[d];exact A⟩
  ·refine(ok b u q).mv (λc v B r=>k c v ?_ r) (by grind[bu]) (by grind[bu]);grind
end
structure Un(fs ex:List Λ)(H H':Hp)(h h':Heap):Prop where
 keep:∀b o,h.get? b=Z o->H b=am->b∉fs->b∉ex->h'.get? b=Z o
 slot:∀b o,h.get? b=Z o->H b=am->b∈fs->b∉ex->∃sl,h'.get? b=Z {o with slots:=sl}
 free:∀b o,h.get? b=Z o->H b=am->b∉ex->H' b=am
 there:∀b o,h.get? b=Z o->b∉ex->∃o',h'.get? b=Z o'
 nh:∀b xs,H b=Z (.tup xs)->H' b=Z (.tup xs)
 jH:∀b o u,H b=Z (.dM o u)->H' b=Z (.dM o u)
 mw:∀b ps,H b=Z (.qa ps)->∃more,H' b=Z (.qa (ps++more))
section
variable {fs ex:List Λ}{H H1:Hp}{h h1 h':Heap}{a x e:Λ}{o:HO}
theorem Un.any(u:Un fs ex H H1 h h1)(q:h.get? b=Z ob)(n:H b=am)(c:b∉ex):∃f,h1.get? b=Z {ob with slots:=f}:=by
 by_cases d:b∈fs;·exact u.slot b ob q n d c
 ·exact⟨ob.slots,u.keep b ob q n d c⟩
def Un.kept(k:∀b u,h.get? b=Z u->h'.get? b=Z u):Un fs ex H H h h':=⟨λb ob q _ _ _=>k b ob q,λb ob q _ _ _=>⟨ob.slots,k b ob q⟩,λ_ _ _ n _=>n,λb ob q _=>⟨ob,k b ob q⟩,λ_ _ q=>q,λ_ _ _ q=>q,λ_ ps q=>⟨#[],by rw[q];exact W⟩⟩
def Un.refl:Un fs ex H H h h:=Un.kept λ_ _ q=>q
def Un.laid(k:∀b u,h.get? b=Z u->h'.get? b=Z u)(c:h.objs.size<=a)(hn:H a=am):Un fs ex H (upd H a o) h h' where
 keep:=λb u q _ _ _=>k b u q
 slot:=λb u q _ _ _=>⟨u.slots,k b u q⟩
 free:=λb u q n _=>dD n (df (jW (b6 q) c))
 there:=λb u q _=>⟨u,k b u q⟩
 nh:=λb xs q=>dD q (gY q hn)
 jH:=λb u xs q=>dD q (gY q hn)
 mw:=λb ps q=>⟨#[],by rw[bu (gY q hn),q];exact W⟩
def Un.write(d:uU (H x))(i:e=x\/H e=Z (.own x))(k:∀b u,b≠e->h.get? b=Z u->h'.get? b=Z u)(g:∃u,h'.get? e=Z u):Un fs ex H (upd H x o) h h':=by
 have j:∀b,H b=am->b≠x:=λb n z=>by subst z;rw[n]at d;exact d
 have f:∀b,H b=am->b≠e:='c';have c:∀b u,H b=Z u->¬uU (Z u)->b≠x:='c';refine⟨λb u q n _ _=>k b u (f b n) q,λb u q n _ _=>⟨u.slots,k b u (f b n) q⟩,(by grind[bu]),λb u q _=>?_,λb xs q=>dD q (c b _ q λz=>z),λb u xs q=>dD q (c b _ q λz=>z),λb ps q=>⟨#[],by rw[bu (c b _ q λz=>z),q];exact W⟩⟩;grind
end
noncomputable def Bm(h:Heap)(H:Hp):List Λ:=(gd h.objs.size).filter λa=>(H a).isSome
def ni(h:Heap)(H:Hp):Heap:=PySem.W.hideAll h (Bm h H)
def RT(h:Heap)(H:Hp):(ni h H).objs.size=h.objs.size:=PySem.W.hideAll_size _ _
def RU{h:Heap}(e:h.get? b=Z o)(n:H b=am):(ni h H).get? b=Z o:=PySem.W.hideAll_get _ e λc=>by have q:(H b).isSome=be:=(eR.mp c).2;simp_all
def RV{h:Heap}(e:(ni h H).get? b=Z o):h.get? b=Z o/\H b=am:=by have c:h.get? b=Z o:=PySem.W.of_hideAll (Bm h H) e;refine⟨c,?_⟩;cases q:H b with|none=>rfl|some x=>simp_all[Bm,b6,ni,PySem.W.hideAll_none]
noncomputable def RW(g h:Heap)(L:Λ):Zaa:=(gd h.objs.size).filterMap λa=>if a=L\/(g.get? a).isSome=be then am else(h.get? a).map λo=>(a,o)
def rest(g h:Heap)(L d:Λ):Zaa:=(RW g h L).filter λp=>decide (p.1≠d)
structure Mod(K:au)(mg:Zac)(base:Heap):Prop where
 qc:K.In base
 glob:base.Ns ko mg
 blt:∃mb,base.Ns Qk mb/\∀x:Str,x≠"__name__"->mb x=gy x
 nolimit:base.NoLimit
structure Cx where
 prog:a8
 w:World
 K:au
 mg:Zac
 base:Heap
 A:Around
 N:List Str
 d_:ψ
 kB:Hp
 env:Env
 outer:List Env
 stack:List Env
 ex:List Λ
 fn:Str->Bool
 calm:Bool
 pn:Zaa
 xe:Zab
noncomputable def kC(l:List Env):List Λ:=l.filterMap (·.frame)
noncomputable abbrev Cx.fs(X:Cx):List Λ:=kC X.outer
def c6(sc:Scope)(x:Str):Prop:=sc.names.lookup x=Z .local\/sc.names.lookup x=Z .cell\/sc.names.lookup x=Z .free
def Loc(sc:Scope)(x:Str):Prop:=sc.names.lookup x=Z .local\/sc.names.lookup x=Z .cell
def Look(d:Env)(h:Heap)(m:Zac)(x:Str)(u:ω):Prop:=(d.kindOf x=Z .local/\m x=Z u)\/((d.kindOf x=Z .cell\/d.kindOf x=Z .free)/\∃c,d.cells.lookup x=Z c/\h.IsCell c (Z u))
structure Cx.Ok(X:Cx):Prop where
 mod:Mod X.K X.mg X.base
 kind:X.env.scope.kind=.function
 glob:X.env.globals=ko
 blt:X.env.builtins=Qk
 above:X.d_.heap.objs.size<=X.env.locals
 inj:∀x y c,X.env.cells.lookup x=Z c->X.env.cells.lookup y=Z c->x=y
 has:∀x,(X.env.kindOf x=Z .cell\/X.env.kindOf x=Z .free)->∃c,X.env.cells.lookup x=Z c
 uV:∀x c,X.fn x=be->X.env.cells.lookup x=Z c->X.d_.heap.objs.size<=c
 hd:X.calm=be->X.A.handled=am
 frames:X.A.frames=Z X.stack
 xI:X.stack=X.outer\/(X.stack=X.env::X.outer/\X.env.frame=Z X.env.locals)
 Bn:∀b∈X.ex,b≠X.env.locals/\∀x c,X.env.cells.lookup x=Z c->c≠b
 bs:∀b o,X.base.get? b=Z o->X.d_.heap.get? b=Z o/\X.kB b=am
 nj:X.base.objs.size<=X.d_.heap.objs.size
 uW:∀b o,X.base.get? b=Z o->b∉X.ex
 rR:∀b∈X.ex,b∉X.fs
 jZ:X.d_.heap.FunFrames X.base X.outer
 oK:∀b∈X.fs,X.kB b=am
structure Inv(X:Cx)(π:Zaa)(σ:List (Option V))(H:Hp)(s:ψ):Prop where
 ok:X.Ok
 os:s.os=X.d_.os
 bare:pS s.gens
 base:Un X.fs X.ex X.kB H X.d_.heap s.heap
 loc:∃m,s.heap.Ns X.env.locals m/\∀(i:Nat)(x:Str)(v:V),X.N[i]?=Z x->σ[i]?=Z (Z v)->c6 X.env.scope x->∃u,RelV v u/\Look X.env s.heap m x u
 cell:∀x c,X.env.cells.lookup x=Z c->∃v,s.heap.IsCell c v
 free:H X.env.locals=am
 i6:∀x c,X.env.cells.lookup x=Z c->H c=am
 pin:∀p∈X.pn++π,s.heap.get? p.1=Z p.2/\H p.1=am/\p.1≠X.env.locals/\p.1∉X.fs/\∀v,p.2.data≠ .cell v
 aV:dE X.prog X.w H s.heap
 len:σ.length=X.N.length
section
variable {X:Cx}{π:Zaa}{σ:List (Option V)}{H H':Hp}{s:ψ}{h':Heap}
def Cx.Ok.RY(ok:X.Ok)(e:X.base.get? b=Z o):b∉X.fs:=λc=>by have:=(ok.jZ.mem c).1;simp_all
theorem Inv.bs(I:Inv X π σ H s):∀b o,X.base.get? b=Z o->s.heap.get? b=Z o/\H b=am:=λb o e=> ⟨I.base.keep b o (I.ok.bs b o e).1 (I.ok.bs b o e).2 (I.ok.RY e) (I.ok.uW b o e),I.base.free b o (I.ok.bs b o e).1 (I.ok.bs b o e).2 (I.ok.uW b o e)⟩
def Inv.bk(I:Inv X π σ H s):∀b o,X.base.get? b=Z o->s.heap.get? b=Z o:=λb o e=>(I.bs b o e).1
theorem Inv.mod(I:Inv X π σ H s):Mod X.K X.mg X.base:=I.ok.mod
def Inv.eN(I:Inv X π σ H s):X.K.In s.heap:=I.ok.mod.qc.keeps I.bk
theorem Inv.lt(I:Inv X π σ H s):X.env.locals<s.heap.objs.size:=ax I.loc λ_ hn _=>hn.lt
def Inv.sz(I:Inv X π σ H s):X.d_.heap.objs.size<=s.heap.objs.size:=c3 I.ok.above (gK I.lt)
def Inv.He(I:Inv X π σ H s)(h:s.heap.objs.size<=a):a∉X.fs:=λc=>by refine aM (I.ok.jZ.mem c) λ_ z=>ax z λo d _=>?_;clear z;exact absurd (jW (b6 d) (c3 I.sz h)) (oD _)
def Inv.qd(I:Inv X π σ H s):∀x c,X.env.cells.lookup x=Z c->c≠X.env.locals:=λx c e z=>by refine cA (I.cell x c e) λv o g h=>?_;obtain⟨m,⟨i,es,ep,d,f,_⟩,_⟩:=I.loc;simp_all
theorem Inv.jZ(I:Inv X π σ H s):s.heap.FunFrames X.base X.outer:=by
 have all:∀(l:List Env),(∀b∈kC l,b∈X.fs)->X.d_.heap.FunFrames X.base l->s.heap.FunFrames X.base l:=by intro l;induction l with|nil=>intro _ _;trivial|cons g r h=>intro hs i;obtain⟨j,⟨L,o,c,hn,m,p⟩,hr⟩:=i;have d:L∈X.fs:=hs L (by unfold kC;rw[FY,c];exact bZ);obtain⟨q,e⟩:=I.base.slot L o m (I.ok.oK L d) d λz=>I.ok.rR L z d;exact⟨j,⟨L,_,c,hn,e,p⟩,h (λb f=>hs b (by unfold kC;rw[FY,c];exact b8 _ f)) hr⟩
 exact all X.outer (λ_ f=>f) I.ok.jZ
theorem Inv.stack(I:Inv X π σ H s):s.heap.FunFrames X.base X.stack:=by
 rcases I.ok.xI with e|⟨e,c⟩;·rw[e];exact I.jZ
 ·rw[e];obtain⟨m,hn,_⟩:=I.loc;refine .cons (by rw[I.ok.kind];decide) c hn ?_ I.jZ;exact Heap.get?_none_of_le (c3 I.ok.nj I.ok.above)
def Inv.xJ(I:Inv X π σ H s):∀b∈kC X.stack,b∈X.env.locals::X.fs:=λb c=>by
 rcases I.ok.xI with e|⟨e,d⟩;·rw[e]at c;exact b8 _ c
 ·rw[e]at c;unfold kC at c;rw[FY,d]at c;exact c
def Inv.Hf(I:Inv X π σ H s):∀b∈kC X.stack,H b=am:=λb hb=>by
 rcases a6.mp (I.xJ b hb)with e|hb;·rw[e];exact I.free
 ·refine aM (I.ok.jZ.mem hb) λ_ y=>ax y λo c _=>?_;clear y;exact I.base.free b o c (I.ok.oK b hb) λz=>I.ok.rR b z hb
theorem Inv.step{g':Array FZ}{d':Drawn}{ch:List Λ}(I:Inv X π σ H s) (B:∀b∈ch,(b∈X.ex\/X.d_.heap.objs.size<=b)/\b≠X.env.locals/\(∀x c,X.env.cells.lookup x=Z c->c≠b)/\∀p∈X.pn++π,p.1≠b) (j:∀b o,b≠X.env.locals->b∉X.fs->b∉ch->s.heap.get? b=Z o->H b=am->h'.get? b=Z o) (t:∀b o,b≠X.env.locals->b∈X.fs->b∉ch->s.heap.get? b=Z o->H b=am->∃U,h'.get? b=Z {o with slots:=U}) (g:∀b o,b∉ch->s.heap.get? b=Z o->H b=am->H' b=am) (C:∀b o,b∉ch->s.heap.get? b=Z o->∃M,h'.get? b=Z M) (N:∀b xs,H b=Z (.tup xs)->H' b=Z (.tup xs)) (O:∀b o u,H b=Z (.dM o u)->H' b=Z (.dM o u)) (mw:∀b ps,H b=Z (.qa ps)->∃more,H' b=Z (.qa (ps++more))) (ns:∀m,s.heap.Ns X.env.locals m->h'.Ns X.env.locals m) (Y:dE X.prog X.w H' h') (hg:pS g'):Inv X π σ H' {s with heap:=h',gens:=g',drawn:=d',toks:=t'}:=by
 have Q:∀b o,X.d_.heap.get? b=Z o->b≠X.env.locals:=λb o e=>df (jW (b6 e) I.ok.above);have h:∀b o,X.d_.heap.get? b=Z o->b∉X.ex->b∉ch:=λb o e f E=>by
  rcases(B b E).1 with z|z;·exact f z
  ·exact absurd (jW (b6 e) z) (oD _)
 have J:∀x c,X.env.cells.lookup x=Z c->∀v,s.heap.IsCell c v->h'.IsCell c v:=λx c e v y=>ax y λo L hd=>by
  have T:c∉ch:=λz=>(B c z).2.2.1 x c e W;by_cases hc:c∈X.fs;·obtain⟨U,q⟩:=t c o (I.qd x c e) hc T L (I.i6 x c e);exact⟨_,q,hd⟩
  ·exact⟨o,j c o (I.qd x c e) hc T L (I.i6 x c e),hd⟩
 refine⟨I.ok,I.os,hg,⟨λb o e n E f=>?_,λb o e n E f=>?_,λb o e n f=>?_,λb o e f=>?_,λb xs e=>N b xs (I.base.nh b xs e),λb o xs e=>O b o xs (I.base.jH b o xs e),λb ps e=>?_⟩,?_,λx c e=>?_,?_,λx c e=>?_,λp hp=>?_,Y,I.len⟩;·exact j b o (Q b o e) E (h b o e f) (I.base.keep b o e n E f) (I.base.free b o e n f)
 ·obtain⟨U,A⟩:=I.base.slot b o e n E f;obtain⟨RZ,e2⟩:=t b _ (Q b o e) E (h b o e f) A (I.base.free b o e n f);exact⟨RZ,e2⟩
 ·obtain⟨M,A⟩:=I.base.there b o e f;exact g b M (h b o e f) A (I.base.free b o e n f)
 ·obtain⟨M,A⟩:=I.base.there b o e f;exact C b M (h b o e f) A
 ·obtain⟨m1,A⟩:=I.base.mw b ps e;grind
 ·obtain⟨m,hn,hl⟩:=I.loc;refine⟨m,ns m hn,λi x v A e2 e3=>?_⟩;obtain⟨u,r,l⟩:=hl i x v A e2 e3;refine⟨u,r,?_⟩;rcases l with l|⟨k,c,e,z⟩
  ·exact .inl l
  ·exact .inr ⟨k,c,e,J x c e _ z⟩
 ·obtain⟨v,z⟩:=I.cell x c e;grind
 ·obtain⟨m,⟨o,_,_,L,_⟩,_⟩:=I.loc;exact g _ o (λz=>(B _ z).2.1 W) L I.free
 ·exact cA (I.cell x c e) λv o L hd=>g c o 'm' L (I.i6 x c e)
 ·refine jG (I.pin p hp) λe n ne nf d=>?_;grind
def Inv.un(I:Inv X π σ H s)(u:Un X.fs [] H H' s.heap h')(d:dE X.prog X.w H' h'):Inv X π σ H' {s with heap:=h',toks:=t'}:=by obtain⟨m,⟨o,es,ep,i,r⟩,_⟩:=id I.loc;obtain⟨q,p⟩:=u.any i I.free 'o';exact I.step (g':=s.gens) (d':=s.drawn) (ch:=[]) (λ_ z=>nomatch z) (λb o _ f _ e n=>u.keep b o e n f (by exact nofun)) (λb o _ f _ e n=>u.slot b o e n f (by exact nofun)) (λb o _ e n=>u.free b o e n (by exact nofun)) (λb o _ e=>u.there b o e (by exact nofun)) u.nh u.jH u.mw (λt j=>by refine eM j λv g h c r'=>?_;clear j;rw[i]at c;exists c;exact⟨_,g,h,p,r'⟩) d I.bare
def Inv.call(I:Inv X π σ H s)(u:Un (kC X.stack) ch H H' s.heap h')(h:dE X.prog X.w H' h')(y:pS g') (f:∀b∈ch,(b∈X.ex\/X.d_.heap.objs.size<=b)/\b≠X.env.locals/\(∀x c,X.env.cells.lookup x=Z c->c≠b)/\∀p∈X.pn++π,p.1≠b):Inv X π σ H' {s with heap:=h',gens:=g',drawn:=d',toks:=t'}:=by obtain⟨m,⟨o,es,ep,t,r⟩,_⟩:=id I.loc;obtain⟨B,i⟩:=u.any t I.free λz=>(f _ z).2.1 W;exact I.step (ch:=ch) f (λb o i A d e n=>u.keep b o e n (λz=>(a6.mp (I.xJ b z)).elim i A) d) (λb o _ _ d e n=>u.any e n d) (λb o d e n=>u.free b o e n d) (λb o d e=>u.there b o e d) u.nh u.jH u.mw (λC v=>by refine eM v λE j q g r'=>?_;clear v;rw[t]at g;exists g;exact⟨_,j,q,i,r'⟩) h y
def Inv.turned(I:Inv X π σ H s)(k:∀b o,b≠d->s.heap.get? b=Z o->h'.get? b=Z o)(hn:H d=am)(h:d≠X.env.locals) (t:d∈X.ex\/X.d_.heap.objs.size<=d) (w:∀x c,X.env.cells.lookup x=Z c->c≠d) (y:∀p∈X.pn++π,p.1≠d):Inv X π σ H {s with heap:=h',toks:=t'}:=by
 have i:∀b u,H b=Z u->b≠d:='m';refine I.step (g':=s.gens) (d':=s.drawn) (ch:=[d]) (λb A=>?_) (λb o _ _ f e _=>k b o (λz=>f (by simp[z])) e) (λb o _ _ f e _=>⟨o.slots,k b o (λz=>f (by simp[z])) e⟩) (λ_ _ _ _ n=>n) (λb o f e=>⟨o,k b o (λz=>f (by simp[z])) e⟩) (λ_ _ e=>e) (λ_ _ _ e=>e) (λb ps e=>⟨#[],by rw[e];simp⟩) (λm g=>?_) (λb u e=>?_) I.bare;·grind
 ·refine eM g λo es ep j r=>?_;clear g;exact⟨o,es,ep,k _ o (bW h) j,r⟩
 ·refine(I.aV b u e).mv (λc v f q=>k c v ?_ q) (λ_ q=>q) λ_ _ q=>q;grind
theorem Inv.tok(I:Inv X π σ H s)(t:Nat):Inv X π σ H {s with toks:=t}:=I.un (h':=s.heap) (t':=t) Un.refl I.aV
theorem Inv.kept(I:Inv X π σ H s)(k:∀b u,s.heap.get? b=Z u->h'.get? b=Z u):Inv X π σ H {s with heap:=h',toks:=t'}:=I.un (Un.kept k) (I.aV.kept k)
theorem Inv.laid(I:Inv X π σ H s)(k:∀b u,s.heap.get? b=Z u->h'.get? b=Z u)(c:s.heap.objs.size<=a)(new:d6 X.prog X.w (upd H a o) h' a o):Inv X π σ (upd H a o) {s with heap:=h',toks:=t'}:=I.un (Un.laid k c (I.aV.fresh c)) (I.aV.laid k c new)
theorem Inv.write(I:Inv X π σ H s)(d:uU (H x))(f:e=x\/H e=Z (.own x))(k:∀b u,b≠e->s.heap.get? b=Z u->h'.get? b=Z u)(c:∃u,h'.get? e=Z u)(new:d6 X.prog X.w (upd H x o) h' x o):Inv X π σ (upd H x o) {s with heap:=h',toks:=t'}:=I.un (Un.write d f k c) (I.aV.write d f k c new)
def Inv.xK(I:Inv X π σ H s)(h:∀p∈c,s.heap.get? p.1=Z p.2/\H p.1=am/\p.1≠X.env.locals/\p.1∉X.fs/\∀v,p.2.data≠ .cell v):Inv X c σ H s:=⟨I.ok,I.os,I.bare,I.base,I.loc,I.cell,I.free,I.i6,λp d=>(bU.mp d).elim (λz=>I.pin p (gf _ z)) (h p),I.aV,I.len⟩
theorem Hg{N:List Str}(c:N.Nodup){i:Nat}(a:N[i]?=Z x)(b:N[j]?=Z x):i=j:=by grind[List.getElem_inj]
theorem Hh(I:Inv X π σ H s)(hN:X.N.Nodup)(Y:X.N[i]?=Z x)(t:Loc X.env.scope x)(r:RelV v u)(h:∀s',Inv X π (σ.set i (Z v)) H s'->(∃a,lj a s.heap s'.heap/\(a=X.env.locals\/X.env.cells.lookup x=Z a))->Q () s')(hf:X.fn x=be\/X.env.scope.names.lookup x=Z .local:=by first|exact .inl W|exact .inr W|assumption):wpAny M A (storeName X.env x u) Q E s:=by
 obtain⟨m,hn,hl⟩:=id I.loc;have U:(X.env.scope.kind== .class||(X.env.scope.kind== .module&&X.env.locals != X.env.globals))=bi:=by rw[I.ok.kind];rfl
 have J:i<σ.length:=by rw[I.len];exact(bt.mp Y).1
 have qd:=I.qd;have f:∀{a:Λ}{h':Heap},(∃o,s.heap.get? a=Z o/\H a=am)->lj a s.heap h'->dE X.prog X.w H h':=λ{a h'} ha hs b ob e=>by obtain⟨_,_,Zys⟩:=ha;refine(I.aV b ob e).mv (λc w' B q=>(hs.2 c ?_).trans q) (λ_ q=>q) λ_ _ q=>q;grind
 rcases t with hk|hk
 ·refine wpAny_storeName_local hk hn (λh' uX hs=>?_) U;refine eM (id hn) λoL _ _ R0 _=>h _ ⟨I.ok,I.os,I.bare,⟨λb o e n L t=>?_,λb o e n L t=>?_,I.base.free,λb o e t=>?_,I.base.nh,I.base.jH,I.base.mw⟩,⟨_,uX,λj y v' g C e3=>?_⟩,λy c e=>?_,I.free,I.i6,λp hp=>?_,f ⟨oL,R0,I.free⟩ hs,by simpa using I.len⟩ ⟨_,hs,.inl W⟩;·exact(hs.2 b (df (jW (b6 e) I.ok.above))).trans (I.base.keep b o e n L t)
  ·obtain⟨sl,g⟩:=I.base.slot b o e n L t;exact⟨sl,(hs.2 b (df (jW (b6 e) I.ok.above))).trans g⟩
  ·obtain⟨o',g⟩:=I.base.there b o e t;exact⟨o',(hs.2 b (df (jW (b6 e) I.ok.above))).trans g⟩
  ·by_cases T:j=i;·subst T;rw[Y]at g;exists g;rw[gq J]at C;cases C;exact⟨u,r,.inl ⟨hk,by simp⟩⟩
   ·rw[c4 (bW T)]at C;obtain⟨u',r',q⟩:=hl j y v' g C e3;refine⟨u',r',?_⟩;rcases q with⟨k,e⟩|⟨k,c,e,z⟩
    ·refine .inl ⟨k,?_⟩;grind[Hg]
    ·exact .inr ⟨k,c,e,z.sameBut hs (qd y c e)⟩
  ·obtain⟨w',z⟩:=I.cell y c e;exact⟨w',z.sameBut hs (qd y c e)⟩
  ·exact jG (I.pin p hp) λe n ne nf d=>⟨(hs.2 p.1 ne).trans e,n,ne,nf,d⟩
 ·have O:X.fn x=be:=by
   rcases hf with z|z
   ·exact z
   ·simp_all
  obtain⟨c,B⟩:=I.ok.has x (.inl hk);obtain⟨w',z⟩:=I.cell x c B;refine wpAny_storeName_cell I.ok.kind hk B z (λh' qe hs=>?_);obtain⟨oc,R6,Zyt⟩:=id z;refine h {s with heap:=h'} ⟨I.ok,I.os,I.bare,⟨λb o e n L t=>?_,λb o e n L t=>?_,I.base.free,λb o e t=>?_,I.base.nh,I.base.jH,I.base.mw⟩,⟨m,hn.sameBut hs (bW (qd x c B)),λj y v' g C e3=>?_⟩,λy c' e=>?_,I.free,I.i6,λp hp=>?_,f ⟨oc,R6,I.i6 x c B⟩ hs,by simpa using I.len⟩ ⟨c,hs,.inr B⟩
  ·exact(hs.2 b (df (jW (b6 e) (I.ok.uV x c O B)))).trans (I.base.keep b o e n L t)
  ·obtain⟨sl,g⟩:=I.base.slot b o e n L t;exact⟨sl,(hs.2 b (df (jW (b6 e) (I.ok.uV x c O B)))).trans g⟩
  ·obtain⟨o',g⟩:=I.base.there b o e t;exact⟨o',(hs.2 b (df (jW (b6 e) (I.ok.uV x c O B)))).trans g⟩
  ·by_cases T:j=i
   ·subst T;rw[Y]at g;exists g;rw[gq J]at C;cases C;exact⟨u,r,.inr ⟨.inl hk,c,B,qe⟩⟩
   ·rw[c4 (bW T)]at C;obtain⟨u',r',q⟩:=hl j y v' g C e3;refine⟨u',r',?_⟩;rcases q with q|⟨k,c',e,z'⟩
    ·exact .inl q
    ·refine .inr ⟨k,c',e,z'.sameBut hs ?_⟩;rintro rfl;exact T (Hg hN g (I.ok.inj _ _ _ e B▸Y))
  ·by_cases xM:c'=c
   ·grind
   ·obtain⟨w2,z2⟩:=I.cell y c' e;exact⟨w2,z2.sameBut hs xM⟩
  ·refine jG (I.pin p hp) λe n ne nf d=>⟨(hs.2 p.1 ?_).trans e,n,ne,nf,d⟩
   grind
def Bo(I:Inv X π σ H s)(c:X.N.Nodup)(d:X.N[i]?=Z x)(e:Loc X.env.scope x)(r:RelV v u)(h:∀s',Inv X π (σ.set i (Z v)) H s'->Q () s')(f:X.fn x=be\/X.env.scope.names.lookup x=Z .local:=by first|exact .inl W|exact .inr W|assumption):wpAny M A (storeName X.env x u) Q E s:=Hh I c d e r (λs' g _=>h s' g) f
theorem Inv.R7{s':ψ}(I:Inv X π σ H s)(g:s'.os=s.os)(u:Un (kC X.stack) ch H H' s.heap s'.heap)(d:dE X.prog X.w H' s'.heap)(h:pS s'.gens)(f:∀b∈ch,(b∈X.ex\/X.d_.heap.objs.size<=b)/\b≠X.env.locals/\(∀x c,X.env.cells.lookup x=Z c->c≠b)/\∀p∈X.pn++π,p.1≠b):Inv X π σ H' s':=by obtain⟨h',g',d',t',i⟩:=s';have e:i=s.os:=g;subst e;exact I.call (g':=g') (t':=t') (d':=d') u d h f
end
abbrev XK:=ω->Option Λ->Hp->Prop
abbrev St:=List (Option V)
abbrev VK:=V->Hp->Prop
abbrev TE:=St->Hp->VK->Prop
abbrev TT:=St->Hp->(Bool->Hp->Prop)->Prop
abbrev TA:=St->Hp->(List V->Hp->Prop)->Prop
structure Ends where
 nx:St->Hp->Prop
 rt:VK
 bk:St->Hp->Prop:=λ_ _=>False
 ct:St->Hp->Prop:=λ_ _=>False
abbrev TS:=Ends->St->Hp->Prop
def EP(X:Cx)(c:Zaa)(d:St)(Q:VK)(u:ω)(s':ψ):Prop:=∃v H',Inv X c d H' s'/\RelV v u/\Q v H'
def TP(X:Cx)(c:Zaa)(d:St)(Q:Bool->Hp->Prop)(b:Bool)(s':ψ):Prop:=∃H',Inv X c d H' s'/\Q b H'
def AP(X:Cx)(c:Zaa)(d:St)(Q:List V->Hp->Prop)(us:List ω)(s':ψ):Prop:=∃vs H',Inv X c d H' s'/\Vals vs us/\Q vs H'
def SP(X:Cx)(d:Zaa)(D:Ends)(f:Flow)(s':ψ):Prop:=match f with|.next=>∃c H',Inv X d c H' s'/\D.nx c H'|.brk=>∃c H',Inv X d c H' s'/\D.bk c H'|.cont=>∃c H',Inv X d c H' s'/\D.ct c H'|.ret u=>∃v c H',Inv X d c H' s'/\RelV v u/\D.rt v H'
def PE(X:Cx)(e:Expr)(t:TE):Prop:=∀(c:Zaa)(s:ψ)(d:St)(H:Hp)(Q:VK),Inv X c d H s->t d H Q->wpAny 'd' X.A (eval e X.env) (EP X c d Q) X.xe s
def PT(X:Cx)(e:Expr)(t:TT):Prop:=∀(c:Zaa)(s:ψ)(d:St)(H:Hp)(Q:Bool->Hp->Prop),Inv X c d H s->t d H Q->wpAny 'd' X.A (isTrue e X.env (eval e X.env)) (TP X c d Q) X.xe s
def PW(X:Cx)(e:Expr)(t:TT):Prop:=∀(d:Sem ω)(c:Zaa)(s:ψ)(f:St)(H:Hp)(Q:Bool->Hp->Prop),Inv X c f H s->t f H Q->wpAny 'd' X.A (isTrue e X.env d) (TP X c f Q) X.xe s
def PW.pt(h:PW X e t):PT X e t:=h _
def PA(X:Cx)(es:List Expr)(t:TA):Prop:=∀(pos:Pos)(c:Zaa)(s:ψ)(d:St)(H:Hp)(Q:List V->Hp->Prop),Inv X c d H s->t d H Q->wpAny 'd' X.A (spliced (dW pos (bq es X.env))) (AP X c d Q) X.xe s
def PS(X:Cx)(st:Stmt)(t:TS):Prop:=∀(c:Zaa)(s:ψ)(d:St)(H:Hp)(D:Ends),Inv X c d H s->t D d H->wpAny 'd' X.A (exec st X.env) (SP X c D) X.xe s
def gr(X:Cx)(st:List Stmt)(t:TS):Prop:=∀(c:Zaa)(s:ψ)(d:St)(H:Hp)(D:Ends),Inv X c d H s->t D d H->wpAny 'd' X.A (execs st X.env) (SP X c D) X.xe s
def aL{c:Type}{t:Sem c}{Q d:c->ψ->Prop}{s:ψ}(h:wpAny M A t Q E s)(e:∀a s,Q a s->d a s):wpAny M A t d E s:=lq h e λ_ _ x=>x
section
variable {X:Cx}
def xN(i:Nat):TE:=λc H Q=>∃v,c[i]?=Z (Z v)/\Q v H
def tC(v:V):TE:=λ_ H Q=>Q v H
def er(t:X.N[i]?=Z x)(w:c6 X.env.scope x)(j:'f'=bi:=by decide)(p:'i'=bi:=by decide):PE X (.Name x pos) (xN i):=by
 intro g s y H Q I h;obtain⟨v,e,h⟩:=h;obtain⟨m,hn,z⟩:=I.loc;obtain⟨u,r,l⟩:=z i x v t e w;have f:EP X g y Q u s:=⟨v,H,I,r,h⟩;rcases l with⟨hk,A⟩|⟨hk,c,q,d⟩;·exact Ql (Zwb I.ok.kind hk hn A f) j
 ·rcases hk with hk|hk;·exact Ql (Zwc I.ok.kind hk q d f) j
  ·exact Ql (wpAny_loadName_free I.ok.kind hk q d f p) j
def Bp:PE X (.Constant (.int i) j pos) (tC (.int i)):=λ_ _ _ H _ I h=>wpAny_Constant_int ⟨.int i,H,I.tok _,⟨_,W⟩,h⟩
def R8:PE X (.Constant (.bool b) j pos) (tC (.bl b)):=λ_ _ _ H _ I h=>Constant_bool ⟨.bl b,H,I,W,h⟩
def R9:PE X (.Constant .none j pos) (tC .aD):=λ_ _ _ H _ I h=>Constant_none ⟨.aD,H,I,W,h⟩
def R_:PE X (.Constant (.str x) j pos) (tC (.str x)):=λ_ _ _ H _ I h=>Calls.Constant_str ⟨.str x,H,I.tok _,⟨_,W⟩,h⟩
def Gl(X:Cx)(x:Str):Prop:=X.env.kindOf x=Z .globalImplicit
def xO(I:Inv X c g H s)(d:Gl X x)(e:X.mg x=Z u)(h:Q u s)(f:'f'=bi:=by decide):wpAny 'd' X.A (eval (.Name x pos) X.env) Q E s:=Zwd I.ok.kind d (Calls.loadGlobal_global (by rw[I.ok.glob];exact I.mod.glob.keeps I.bk) e h) f
def oM(I:Inv X c m H s)(d:Gl X x)(e:X.mg x=am)(f:gy x=Z u)(h:Q u s)(hn:x≠"__name__":=by decide)(g:'f'=bi:=by decide):wpAny 'd' X.A (eval (.Name x pos) X.env) Q E s:=by obtain⟨p,i,j⟩:=I.mod.blt;exact Zwd I.ok.kind d (Calls.loadGlobal_builtin (by rw[I.ok.glob];exact I.mod.glob.keeps I.bk) e (by rw[I.ok.blt];exact i.keeps I.bk) ((j x hn).trans f) h) g
def Sa(c:Gl X x)(d:X.mg x=Z u)(r:RelV v u)(e:'f'=bi:=by decide):PE X (.Name x pos) (tC v):=λ_ _ _ H _ I h=>xO I c d ⟨v,H,I,r,h⟩ e
def Sb(c:Gl X x)(d:X.mg x=am)(e:gy x=Z u)(r:RelV v u)(hn:x≠"__name__":=by decide)(f:'f'=bi:=by decide):PE X (.Name x pos) (tC v):=λ_ _ _ H _ I h=>oM I c d e ⟨v,H,I,r,h⟩ hn f
variable {a b:Expr}{ta tb:TE}{pos:Pos}
def PC(X:Cx)(g:CmpOp)(a b:Expr)(t:TE):Prop:=∀(c:Zaa)(s:ψ)(f:St)(H:Hp)(Q:VK),Inv X c f H s->t f H Q-> wpAny 'd' X.A (eval a X.env) (λv d=>wpAny 'd' X.A (eval b X.env) (λu e=>wpAny 'd' X.A (c5 g v u) (EP X c f Q) X.xe e) X.xe d) X.xe s
def Se(b:Expr)(h:c≠ .In)(d:c≠ .NotIn):behindInMarks c b=bi:=by
 have e:(c==CmpOp.In)=bi:=by cases c<;>first|rfl|exact absurd W h
 have f:(c==CmpOp.NotIn)=bi:=by cases c<;>first|rfl|exact absurd W d
 cases b<;>simp[behindInMarks,e,f]
def Sf(ta:TE):TE:=λc H Q=>ta c H λx d=>Q (.bl (!decide (x=.aD))) d
theorem RelV.Sg(r:RelV x v):(v==eJ)=decide (x=.aD):=by cases x with|aD=>cases r;rfl|bl _=>cases r;rfl|int _=>obtain⟨t,rfl⟩:=r;rfl|str _=>obtain⟨t,rfl⟩:=r;rfl|pZ _=>obtain⟨t,rfl⟩:=r;rfl|uT _=>obtain⟨t,rfl⟩:=r;rfl|ref _=>cases r;rfl|ty _=>cases r;rfl
def Sh(d:PE X a ta):PC X .IsNot a (.Constant .none j pos') (Sf ta):=by intro c s e H Q I h;exact aL (d c s e H _ I h) λv p z=>ay z λx f g i m=>Constant_none (isnot_none_gen ⟨.bl _,f,g,by rw[i.Sg];rfl,m⟩)
def tB(t:TE):TT:=λd H Q=>t d H λx e=>∃c,x=.bl c/\Q c e
def Si(h:PC X g a b t)(f:behindInMarks g b=bi:=by first|exact Se _ 'b' 'b'|rfl):PT X (.Compare a [g] [b] pos) (tB t):=by intro e s i H Q I hw;refine wpAny_isTrue_Compare1 (aL (h e s i H _ I hw) λv y f=>aL f λu A j=>aL j λc B z=>ay z λx m p r w=>?_) f;obtain⟨d,rfl,q⟩:=w;cases r;exact wpAny_truthy_bool ⟨m,p,q⟩
def Sj{e:Expr}(h:PE X e t)(g:∀c,isTrue e X.env c=(do let v<-c;standAt e.pos;holding [v] (truthy v)):=by intro _;rfl):PT X e (tB t):=by intro f s i H Q I hw;refine isTrue_plain (aL (h f s i H _ I hw) λv u z=>ay z λx j m p r=>?_) (g _);obtain⟨d,rfl,q⟩:=r;cases p;exact wpAny_truthy_bool ⟨j,m,q⟩
variable {tA xP:TT}{rest:List Expr}
def Sk(t u:TT):TT:=λd H Q=>t d H λc e=>if c=be then u d e Q else Q bi e
def Sl(t u:TT):TT:=λd H Q=>t d H λc e=>if c=be then Q be e else u d e Q
def Sm(t:TT):TT:=λd H Q=>t d H λc e=>Q (!c) e
def Sn(f:PT X a tA):PW X (.BoolOp .And [a] pos) tA:=by intro i d s g H Q I h;refine isTrue_and (aL (f d s g H Q I h) λc j e=>?_);grind[isTrue_and_nil]
def Hi(f:PT X a tA):PW X (.BoolOp .Or [a] pos) tA:=by intro i d s g H Q I h;refine isTrue_or (aL (f d s g H Q I h) λc j e=>?_);grind[isTrue_or_nil]
def Sq(j:PT X a tA)(m:PW X (.BoolOp .And (b::rest) pos) xP):PW X (.BoolOp .And (a::b::rest) pos) (Sk tA xP):=by intro p d s e H Q I h;refine isTrue_and (aL (j d s e H _ I h) λc q z=>ax z λf g i=>?_);cases c with|true=>exact m p d q e f Q g i|false=>exact⟨f,g,i⟩
def Hj(j:PT X a tA)(m:PW X (.BoolOp .Or (b::rest) pos) xP):PW X (.BoolOp .Or (a::b::rest) pos) (Sl tA xP):=by intro p d s e H Q I h;refine isTrue_or (aL (j d s e H _ I h) λc q z=>ax z λf g i=>?_);cases c with|true=>exact⟨f,g,i⟩|false=>exact m p d q e f Q g i
def Sr(e:PT X a tA):PT X (.UnaryOp .Not a pos) (Sm tA):=by intro d s f H Q I h;exact isTrue_not (e d s f H (λc g=>Q (!c) g) I h)
def Su(ta tb:TE):TE:=λd H Q=>ta d H λx e=>∃c,x=.bl c/\if c=be then tb d e Q else Q (.bl bi) e
def Sv(ta tb:TE):TE:=λd H Q=>ta d H λx e=>∃c,x=.bl c/\if c=be then Q (.bl be) e else tb d e Q
def Sx(ta:TE):TE:=λd H Q=>ta d H λx e=>∃c,x=.bl c/\Q (.bl (!c)) e
def Sz(h:PE X a t):PE X (.BoolOp e [a] pos) t:=λc s d H Q I hw=>BoolOp_one (h c s d H Q I hw)
def SA(j:PE X a ta)(m:PE X (.BoolOp .And (b::rest) pos) tb):PE X (.BoolOp .And (a::b::rest) pos) (Su ta tb):=by intro d s f H Q I h;refine BoolOp_and (aL (j d s f H _ I h) λv p z=>ay z λx g i q e=>?_);obtain⟨c,rfl,e⟩:=e;cases q;refine wpAny_truthy_bool ?_;cases c with|true=>exact m d p f g Q i e|false=>exact⟨.bl bi,g,i,W,e⟩
def SE(j:PE X a ta)(m:PE X (.BoolOp .Or (b::rest) pos) tb):PE X (.BoolOp .Or (a::b::rest) pos) (Sv ta tb):=by intro d s f H Q I h;refine BoolOp_or (aL (j d s f H _ I h) λv p z=>ay z λx g i q e=>?_);obtain⟨c,rfl,e⟩:=e;cases q;refine wpAny_truthy_bool ?_;cases c with|false=>exact m d p f g Q i e|true=>exact⟨.bl be,g,i,W,e⟩
def SF(f:PE X a ta):PE X (.UnaryOp .Not a pos) (Sx ta):=by intro d s g H Q I h;refine UnaryOp_ (aL (f d s g H _ I h) λv p z=>ay z λx i j m e=>?_);obtain⟨c,rfl,e⟩:=e;cases m;exact not_of (wpAny_truthy_bool ⟨.bl (!c),i,j,W,e⟩)
end
def bX(K:au)(H:Hp)(a:Λ)(xs:List V):Prop:=Rd H a (.lst xs)∨ ∃(o:Obj)(c:Array ω)(n:Nat),K.lookup a=Z o/\o.cls=.type "list"/\o.dict=am/\o.data=.seq c n/\c.size<=aA/\Vals xs c.toList
def cX(K:au)(H:Hp)(a:Λ)(xs:List V):Prop:=H a=Z (.tup xs)∨ ∃(o:Obj)(c:Array ω)(n:Nat),K.lookup a=Z o/\o.cls=.type "tuple"/\o.data=.seq c n/\c.size<=aA/\Vals xs c.toList
noncomputable def SH:ω->Option V|.none=>Z .aD|.bool b=>Z (.bl b)|.int i _=>Z (.int i)|.str x _=>Z (.str x)|.bytes b _=>Z (.pZ b)|.float b _=>Z (.uT b)|.ref a=>Z (.ref a)|.type n=>Z (.ty n)|_=>am
def RelV.abs(r:RelV x u):SH u=Z x:=by cases x with|aD=>cases r;rfl|bl _=>cases r;rfl|int _=>obtain⟨t,rfl⟩:=r;rfl|str _=>obtain⟨t,rfl⟩:=r;rfl|pZ _=>obtain⟨t,rfl⟩:=r;rfl|uT _=>obtain⟨t,rfl⟩:=r;rfl|ref _=>cases r;rfl|ty _=>cases r;rfl
theorem RelV.inj(r:RelV x u)(q:RelV y u):x=y:=ao (r.abs.symm.trans q.abs)
theorem Vals.inj:∀{ys:List V}{us:List ω},Vals xs us->Vals ys us->xs=ys:=by induction xs with|nil=>intro ys us h h';induction h using gM;cases h';rfl|cons x xs c=>intro ys us h h';induction h using eL with|cons r t=>cases h' with|cons r' t'=>rw[r.inj r',c t t']
section
variable {X:Cx}{π:Zaa}{σ:St}{H:Hp}{s:ψ}{a:Λ}{xs ys:List V}
def bX.of{K:au}(h:H a=Z (.lst xs)):bX K H a xs:=.inl (.inl h)
def cX.of{K:au}(h:H a=Z (.tup xs)):cX K H a xs:=.inl h
def Inv.list(I:Inv X π σ H s)(h:bX X.K H a xs):∃c:List ω,Vals xs c/\PlainL s.heap a c.toArray/\xs.length<=aA:=by
 rcases h with h|⟨o,c,n,d,f,g,hs,hz,r⟩;·refine aM (h.ok I.aV) λz y=>cA y λc n r e=>?_;clear y;exact⟨c,r,⟨_,n,e,W,W,W⟩,z⟩
 ·refine⟨c.toList,r,⟨o,n,I.eN a o d,f,g,by omega⟩,?_⟩;have e:=r.length;simp_all
def Inv.tuple(I:Inv X π σ H s)(h:cX X.K H a xs):∃c:List ω,Vals xs c/\IsTup s.heap a c.toArray/\xs.length<=aA:=by
 rcases h with h|⟨o,c,n,d,f,hs,hz,r⟩;·refine aM (I.aV _ _ h) λz y=>ax y λc r p=>?_;clear y;grind
 ·refine⟨c.toList,r,⟨o,I.eN a o d,f,n,by omega⟩,?_⟩;have e:=r.length;simp_all
theorem Inv.Hk(I:Inv X π σ H s)(h:bX X.K H a xs)(h':bX X.K H a ys):xs=ys:=by
 obtain⟨c,r,⟨o,n,e,_,_,d⟩,_⟩:=I.list h;obtain⟨its',r',⟨g,i,f,_,_,d'⟩,_⟩:=I.list h';rw[e]at f;exists f;rw[d]at d';injection d' with d1 _;have:c=its':=by simpa using congrArg Zwe d1
 subst this;exact r.inj r'
theorem Inv.Bq(I:Inv X π σ H s)(h:cX X.K H a xs)(h':cX X.K H a ys):xs=ys:=by
 obtain⟨c,r,⟨o,e,_,n,d⟩,_⟩:=I.tuple h;obtain⟨its',r',⟨g,f,_,i,d'⟩,_⟩:=I.tuple h';rw[e]at f;exists f;rw[d]at d';injection d' with d1 _;have:c=its':=by simpa using congrArg Zwe d1
 subst this;exact r.inj r'
end
noncomputable abbrev Cx.my(X:Cx)(E:Zab):Cx:={X with xe:=E}
noncomputable abbrev Cx.j6(X:Cx):Cx:=X.my λ_ _=>False
theorem Cx.Ok.my{X:Cx}(ok:X.Ok)(E:Zab):(X.my E).Ok:=⟨ok.mod,ok.kind,ok.glob,ok.blt,ok.above,ok.inj,ok.has,ok.uV,ok.hd,ok.frames,ok.xI,ok.Bn,ok.bs,ok.nj,ok.uW,ok.rR,ok.jZ,ok.oK⟩
def Cx.Ok.oN{X:Cx}(ok:(X.my E).Ok):X.Ok:=⟨ok.mod,ok.kind,ok.glob,ok.blt,ok.above,ok.inj,ok.has,ok.uV,ok.hd,ok.frames,ok.xI,ok.Bn,ok.bs,ok.nj,ok.uW,ok.rR,ok.jZ,ok.oK⟩
section
variable {X:Cx}{π:Zaa}{σ:St}{H:Hp}{s:ψ}{E:Zab}
theorem Inv.my(I:Inv X π σ H s)(E:Zab):Inv (X.my E) π σ H s:=⟨I.ok.my E,I.os,I.bare,I.base,I.loc,I.cell,I.free,I.i6,I.pin,I.aV,I.len⟩
theorem Inv.oN(I:Inv (X.my E) π σ H s):Inv X π σ H s:=⟨I.ok.oN,I.os,I.bare,I.base,I.loc,I.cell,I.free,I.i6,I.pin,I.aV,I.len⟩
theorem SP.oN(h:SP (X.my E) π D f s'):SP X π D f s':=by cases f with|next=>refine cA h λc H' I q=>?_;clear h;exact⟨c,H',I.oN,q⟩|brk=>refine cA h λc H' I q=>?_;clear h;exact⟨c,H',I.oN,q⟩|cont=>refine cA h λc H' I q=>?_;clear h;exact⟨c,H',I.oN,q⟩|ret u=>refine aS h λv c H' I r q=>?_;clear h;exact⟨v,c,H',I.oN,r,q⟩
theorem gr.j6{st:List Stmt}(h:gr X.j6 st t):gr X st t:=λπ s σ H D I hw=> lq (h π s σ H D (I.my _) hw) (λ_ _ q=>q.oN) λ_ _ z=>dX z
end
section
variable {X:Cx}{st:Stmt}{rest:List Stmt}{t u:TS}{e:Expr}{te:TE}{pos:Pos}
def SI:TS:=λD c H=>D.nx c H
def SJ(t u:TS):TS:=λD c H=>t {D with nx:=u D} c H
def xQ:gr X [] SI:=λ_ _ c H _ I h=>F0 ⟨c,H,I,h⟩
def lE(g:PS X st t)(i:gr X rest u):gr X (st::rest) (SJ t u):=by intro c s j H D I h;refine wpAny_execs_cons (aL (g c s j H {D with nx:=u D} I h) λf m q=>?_);cases f with|next=>exact cA q λd H' p q=>i c m d H' D p q|ret v=>exact q|brk=>exact q|cont=>exact q
def qf(d:PS X st t):gr X [st] t:=by intro c s g H D I h;refine wpAny_execs_cons (aL (d c s g H D I h) λf i q=>?_);grind[F0,ret]
def Inv.quiet(I:Inv X c d H s):interactive X.env=bi:=by simp[interactive,I.ok.kind]
def SK(te:TE):TS:=λD c H=>te c H λ_ d=>D.nx c d
def mz(f:PE X e te)(hs:d4 e am pos.line X.env=pure bi:=by rfl):PS X (.Expr e pos) (SK te):=by intro c s d H D I h;exact wpAny_Expr_any (aL (f c s d H _ I h) λv m z=>ay z λx g i p j=>⟨d,g,i,j⟩) I.quiet hs
def SM(te:TE):TS:=λD c H=>te c H D.rt
def rS(f:PE X e te):PS X (.Return (Z e) pos) (SM te):=by intro c s d H D I h;exact wpAny_Return_some (aL (f c s d H _ I h) λv p z=>ay z λx g i j m=>⟨x,d,g,i,j,m⟩)
def SN(c:TT)(t u:TS):TS:=λD d H=>c d H λb f=>if b=be then t D d f else u D d f
def uY(q:PT X c r)(v:gr X a t)(w:gr X b u):PS X (.If c a b pos) (SN r t u):=by intro f s g H D I h;refine wpAny_If (aL (q f s g H _ I h) λd i z=>ax z λj m p=>?_);cases d with|true=>exact v f i g j D m p|false=>exact w f i g j D m p
end
abbrev TG:=V->St->Hp->(St->Hp->Prop)->Prop
abbrev qg:=List V->St->Hp->(St->Hp->Prop)->Prop
def PG(X:Cx)(c:Expr)(t:TG):Prop:=∀(d:Zaa)(s:ψ)(f:St)(H:Hp)(v:V)(u:ω)(Q:St->Hp->Prop),Inv X d f H s->RelV v u->t v f H Q-> wpAny 'd' X.A (lr c X.env u) (λ_ s'=>∃e H',Inv X d e H' s'/\Q e H') X.xe s
def rT(X:Cx)(f:List Expr)(t:qg):Prop:=∀(c:Zaa)(s:ψ)(e:St)(H:Hp)(vs:List V)(us:List ω)(Q:St->Hp->Prop),Inv X c e H s->Vals vs us->t vs e H Q-> wpAny 'd' X.A (assignInOrder ((i0 f X.env).map (·.2)) us) (λ_ s'=>∃d H',Inv X c d H' s'/\Q d H') X.xe s
abbrev Br:=V->V->V->Hp->(Hp->Prop)->Prop
def Hl(X:Cx)(t:Br):Prop:=∀(c:Zaa)(s:ψ)(d:St)(H:Hp)(o i v:V)(e f u:ω)(Q:Hp->Prop),Inv X c d H s->RelV o e->RelV i f->RelV v u->t o i v H Q-> wpAny 'd' X.A (w6 e f u) (λ_ s'=>∃H',Inv X c d H' s'/\Q H') X.xe s
abbrev Bs:=V->V->Hp->VK->Prop
def Hm(X:Cx)(e:Operator)(t:Bs):Prop:=∀(c:Zaa)(s:ψ)(d:St)(H:Hp)(x y:V)(v u:ω)(Q:VK),Inv X c d H s->RelV x v->RelV y u->t x y H Q-> wpAny 'd' X.A (inplaceOp e v u) (EP X c d Q) X.xe s
section
variable {X:Cx}{pos:Pos}
def Bt(i:Nat):TG:=λv c H Q=>Q (c.set i (Z v)) H
def Hn(d:X.N.Nodup)(e:X.N[i]?=Z x)(f:Loc X.env.scope x)(g:X.fn x=be\/X.env.scope.names.lookup x=Z .local:=by first|exact .inl W|exact .inr W|assumption):PG X (.Name x pos) (Bt i):=by intro c s m H v u Q I r h;exact wpAny_assign_Name (Bo I d e f r (λs' j=>⟨_,H,j,h⟩) g)
def SQ:qg:=λvs c H Q=>vs=[]/\Q c H
def SR(t:TG)(u:qg):qg:=λvs d H Q=>∃v r,vs=v::r/\t v d H λc H'=>u r c H' Q
def Ho:rT X [] SQ:=by intro c s d H vs us Q I r h;obtain⟨e,h⟩:=h;subst e;induction r using gM;exact assignInOrder_nil ⟨d,H,I,h⟩
def Hq(f:PG X e t)(g:rT X es u)(hs:(i0 (e::es) X.env).map (·.2)=lr e X.env::(i0 es X.env).map (·.2):=by rfl):rT X (e::es) (SR t u):=by intro c s i H vs us Q I r h;obtain⟨v,vr,j,h⟩:=h;subst j;induction r using eL with|cons r m=>rw[hs];refine assignInOrder_cons (aL (f c s i H _ _ _ I r h) λ_ p z=>cA z λd q w x=>?_);exact g c p d q _ _ Q w m x
def SS(K:au)(n:Nat)(t:qg):TG:=λv c H Q=>∃a xs,v=.ref a/\cX K H a xs/\xs.length=n/\t xs c H Q
def Hr{k:Nat}{n:Nat}(g:X.calm=be)(h:rT X es t)(hn:(i0 es X.env).length=n:=by rfl)(d:(i0 es X.env).findIdx? (·.1)=am:=by rfl):PG X (.Tuple es k pos) (SS X.K n t):=by intro c s f H v u Q I r hw;obtain⟨a,xs,i,z,j,hw⟩:=hw;subst i;cases r;obtain⟨m,p,q,hz⟩:=I.tuple z;refine assign_Tuple_tuple (I.ok.hd g) q (by simp[hn,<-j,p.length]) d λh' w=>?_;have x:Inv X c f H {s with heap:=h'}:=I.kept (t':=s.toks) λb o e=>w b o (df (b6 e)) e;exact h c _ f H xs _ Q x (by omega) hw
def SU(d e:TE)(t:Br):TG:=λv c H Q=>d c H λo f=>e c f λi H2=>t o i v H2 λg=>Q c g
def Hs(g:PE X o j)(m:PE X i p)(hs:Hl X t)(q:∀v,lr (.Subscript o i pos) X.env v=(do
   let d<-holding [v] (eval o X.env);let e<-holding [v,d] (eval i X.env)
   standAt pos
   holding [v,d,e] (w6 d e v)
   release [v,d,e] []):=by intro _;rfl):PG X (.Subscript o i pos) (SU j p t):=by intro c s f H v u Q I r h;rw[q];refine υ (wpAny_holding (aL (g c s f H _ I h) λd w z=>ay z λx A B C E=>?_));refine υ (wpAny_holding (aL (m c w f A _ B E) λe J z=>ay z λy H2 L M N=>?_));refine υ (Qm (υ (wpAny_holding (aL (hs c J f H2 x y v d e u _ L C M r N) λ_ O z=>ax z λT U Y=>?_))));grind[wpAny_release]
def Bu(d:TE)(g:TG):TS:=λD c H=>d c H λx e=>g x c e D.nx
def Bv(i:PE X e j)(m:PG X d g)(hs:F8 [d] e pos.line X.env=pure bi:=by rfl)(hw:F9 [d] e X.env=pure am:=by rfl)(p:(i0 [d] X.env).map (·.2)=[lr d X.env]:=by rfl):PS X (.Assign [d] e pos) (Bu j g):=by intro c s f H D I h;refine wpAny_Assign_stores (aL (i c s f H _ I h) λv r z=>ay z λx t u w y=>?_) hs hw;rw[p];exact aL (m c r f t x v _ u w y) λ_ A q=>q
def lF(d:X.N.Nodup)(f:X.N[i]?=Z x)(g:Loc X.env.scope x)(j:PE X e m)(hs:d4 e (Z (.Name x pos')) pos.line X.env=pure bi:=by rfl)(p:X.fn x=be\/X.env.scope.names.lookup x=Z .local:=by first|exact .inl W|exact .inr W|assumption):PS X (.Assign [.Name x pos'] e pos) (Bu m (Bt i)):=by intro c s q H D I h;refine wpAny_Assign_Name (aL (j c s q H _ I h) λv B z=>ay z λy r t u w=>?_) hs;exact Bo t d f g u (λC A=>⟨_,r,A,w⟩) p
def SV(i:Nat)(d:TE)(e:Bs):TS:=λD c H=>∃x,c[i]?=Z (Z x)/\d c H λy f=>e x y f λz H2=>D.nx (c.set i (Z z)) H2
def SW(J:X.N.Nodup)(B:X.N[i]?=Z x)(p:Loc X.env.scope x)(L:PE X e M)(O:Hm X C Q)(T:X.fn x=be\/X.env.scope.names.lookup x=Z .local:=by first|exact .inl W|exact .inr W|assumption):PS X (.AugAssign (.Name x pos') C e pos) (SV i M Q):=by
 intro d s E H D I h;obtain⟨v,U,h⟩:=h;obtain⟨m,hn,Y⟩:=I.loc;have q:c6 X.env.scope x:=by rcases p with k|k;exact .inl k;exact .inr (.inl k)
 obtain⟨u,r,l⟩:=Y i x v B U q;refine wpAny_AugAssign_Name ?_;have go:wpAny 'd' X.A (eval e X.env) (λw g=>wpAny 'd' X.A (inplaceOp C u w) (λr j=>wpAny 'd' X.A (storeName X.env x r) (λ_=>SP X d D .next) X.xe j) X.xe g) X.xe s:=by exact aL (L d s E H _ I h) λw s1 t=>ay t λy H1 I1 r1 q1=>aL (O d s1 E H1 v y u w _ I1 r r1 q1) λz s2 t=>ay t λzv H2 I2 r2 q2=>Bo I2 J B p r2 (λs3 I3=>⟨_,H2,I3,q2⟩) T
 rcases l with⟨hk,hm⟩|⟨hk,c,hc,f⟩;·exact Zwb I.ok.kind hk hn hm go
 ·rcases hk with hk|hk;·exact Zwc I.ok.kind hk hc f go
  ·rcases p with k|k;·have:X.env.scope.names.lookup x=Z .free:=hk;simp_all
   ·have:X.env.scope.names.lookup x=Z .free:=hk;simp_all
def SX(f:Int->Int->Int):Bs:=λx y H Q=>∃i j,x=.int i/\y=.int j/\Q (.int (f i j)) H
def SY:Hm X .Add (SX λi j=>i+j):=by intro c s m H x y v u Q I d e h;refine ay h λi j f g q=>?_;clear h;subst f;subst g;obtain⟨t,rfl⟩:=d;obtain⟨t',rfl⟩:=e;exact iadd_int ⟨.int _,H,I.tok _,⟨_,W⟩,q⟩
end
section
variable {X:Cx}{pos:Pos}
def S0(c:TT)(h:TS):TS:=λD d H=>∃ad:Nat->St->Hp->Prop,(∃m,ad m d H)/\∀m d H,ad m d H-> c d H λb f=>if b=be then ∃N:St->Hp->Prop,(∀e H',N e H'->∃g,g<m/\ad g e H')/\h {D with nx:=N,ct:=N,bk:=D.nx} d f else D.nx d f
def S5(q:PassesOwn 'd' X.A X.env X.xe)(u:PT X c x)(y:gr X body B):PS X (.While c body [] pos) (S0 x B):=by intro d s C H D I h;obtain⟨ad,⟨E,J⟩,i⟩:=h;refine wpAny_While (codeAny_whileLoop (λn s'=>∃j H',Inv X d j H' s'/\ad n j H') ?_ E ⟨C,H,I,J⟩);rintro n L ⟨e,r,M,O⟩;refine um q (aL (u d L e r _ M (i n e r O)) λb Q z=>ax z λH2 t m=>?_);cases b with
 |true=>obtain⟨N,Y,m⟩:=m;rw[if_pos W];refine um q (aL (y d Q e H2 _ t m) λf s3 g=>?_);cases f with
  |next=>refine cA g λp T U n3=>?_;clear g;grind|cont=>refine cA g λp T U n3=>?_;clear g;grind|brk=>exact g|ret v=>exact g
 |false=>rw[if_neg dg];exact F0 ⟨e,H2,t,m⟩
end
structure It where
 go:Nat->Hp->Prop
 rV:Nat->Hp->V->Hp->Prop
 stop:Nat->Hp->Prop
def oO(X:Cx)(d:Zaa)(H:Hp)(b:Λ):Prop:=H b=am/\b≠X.env.locals/\b∉X.fs/\(b∈X.ex\/X.d_.heap.objs.size<=b)/\(∀x c,X.env.cells.lookup x=Z c->c≠b)/\∀p∈X.pn++d,p.1≠b
def Inv.qh{s:ψ}(I:Inv X d h H s)(f:s.heap.objs.size<=b)(hn:H' b=am):oO X d H' b:=by
 refine⟨hn,w8 (jW I.lt f),I.He f,.inr (c3 I.sz f),λx c e z=>?_,λp g z=>?_⟩;·obtain⟨v,q⟩:=I.cell x c e;exact absurd (jW q.lt (by simp_all)) (oD _)
 ·exact absurd (jW (b6 (I.pin p g).1) (by simp_all)) (oD _)
structure Turn(P:a8)(w:World)(K:au)(tg:Expr)(J:It)(fp:List Λ)(it:Λ)(tn:Nat->Heap->Prop):Prop where
 mem:it∈fp
 obj:∀i h,tn i h->∀b∈fp,∃o,h.get? b=Z o/\∀v,o.data≠ .cell v
 keep:∀i h h',tn i h->(∀b∈fp,∀o,h.get? b=Z o->h'.get? b=Z o)->tn i h'
 item:∀(X:Cx),X.prog=P->X.w=w->X.K=K->X.calm=be->∀(i:Nat)(π:Zaa)(s:ψ)(σ:St)(H:Hp)(E:Zab),Inv X π σ H s->(∀b∈fp,oO X π H b)->tn i s.heap->J.go i H-> wpAny (model P w) X.A (pyNext (.ref it)) (λr s1=>∃u,r=Z u∧ wpAny (model P w) X.A (F_ tg (.ref it) u) (λ_ s2=>∃x H',Inv X π σ H' s2/\RelV x u/\J.rV i H x H'/\tn (i+1) s2.heap/\∀b∈fp,H' b=am) E s1) E s
 done:∀(X:Cx),X.prog=P->X.w=w->X.K=K->X.calm=be->∀(i:Nat)(π:Zaa)(s:ψ)(σ:St)(H:Hp)(E:Zab),Inv X π σ H s->(∀b∈fp,oO X π H b)->tn i s.heap->J.stop i H-> wpAny (model P w) X.A (pyNext (.ref it)) (λr s1=>r=am/\Inv X π σ H s1) E s
 self:∀(A:Around)(i:Nat)(s:ψ)(Q:Zab)(E:Zab),tn i s.heap->Q (.ref it) s->wpAny (model P w) A (w9 (.ref it)) Q E s
abbrev TI:=St->Hp->(It->Hp->Prop)->Prop
def xR(X:Cx)(c:Zaa)(i:St)(j:Expr)(R:It->Hp->Prop)(d:ω)(e:ψ):Prop:=∃(f:Λ)(g:List Λ)(h:Nat->Heap->Prop)(J:It)(H':Hp),d=.ref f/\Inv X c i H' e/\Turn X.prog X.w X.K j J g f h/\h 0 e.heap/\(∀b∈g,oO X c H' b)/\R J H'
def PI(X:Cx)(e iter:Expr)(f:TI):Prop:=∀(c:Zaa)(s:ψ)(d:St)(H:Hp)(R:It->Hp->Prop),Inv X c d H s->f d H R-> wpAny 'd' X.A (eval iter X.env) (λv g=>wpAny 'd' X.A (w9 v) (xR X c d e R) X.xe g) X.xe s
def xS{s:ψ}{o:Obj}(d:s.heap.get? e=Z o)(f:o.cls=.type n)(g:o.data=.fields vs)(hn:["enumerate","zip","dict_itemiterator","dict_reverseitemiterator","odict_iterator","itertools.zip_longest","itertools.pairwise"].contains n=bi)(c:Q () s):wpAny M A (F_ i (.ref e) u) Q E s:=by unfold F_;cases i<;>first| exact χ c| (cases u<;>first| exact χ c| (refine υ (wpAny_load d ?_);rw[f,g];show wpAny M A (if(["enumerate","zip","dict_itemiterator","dict_reverseitemiterator","odict_iterator","itertools.zip_longest","itertools.pairwise"].contains n&&vs[0]?==Z (w_ _))=be then _ else _) Q E s;rw[if_neg (by intro h;rw[hn,Bool.false_and]at h;injection h)];exact χ c))
noncomputable def Bw(K:au)(a:Λ):It:=⟨λi H=>∃xs x,bX K H a xs/\xs[i]?=Z x,λi H x H'=>H'=H/\∀xs,bX K H a xs->xs[i]?=Z x,λi H=>∃xs,bX K H a xs/\xs.length<=i⟩
noncomputable def Bx(K:au)(a:Λ):It:=⟨λi H=>∃xs x,cX K H a xs/\xs[i]?=Z x,λi H x H'=>H'=H/\∀xs,cX K H a xs->xs[i]?=Z x,λi H=>∃xs,cX K H a xs/\xs.length<=i⟩
noncomputable def rW(lo:Int)(n:Nat):It:=⟨λi _=>i<n,λi H x H'=>H'=H/\x=.int (lo+i),λi _=>n<=i⟩
def S9{P:a8}{w:World}{K:au}{T:Expr}(a g:Λ):Turn P w K T (Bw K a) [g] g (λi h=>h.IsListIter g a i) where
 mem:=by exact .head _
 obj:=λi h st b j=>by
  have e:b=g:=by simpa using j
  subst e;refine aJ st λo e c d=>?_;clear st;simp_all
 keep:=λi h h' st k=>st.at λo e=>k g (by exact .head _) o e
 item:=by intro X t hw v O i f s Q H E I q st r;subst t hw v;refine cA r λxs x z y=>?_;clear r;refine aJ (I.list z) λA B p hz=>?_;obtain⟨u,hu,U⟩:=B.get y;refine iy (q g (by exact .head _)) λC J Y L M N=>wpAny_pyNext_list_item st p.isList (x:=u) 'm' λh' m sb=>?_;have I1:Inv X f Q H {s with heap:=h'}:=I.turned (t':=s.toks) (λb o j e=>(sb.2 b j).trans e) C J L M N;exact aJ (id m) λo e c d=>⟨u,W,xS (s:={s with heap:=h'}) e c d (by exact W) ⟨x,H,I1,U,⟨W,λys hy=>by rw[I.Hk hy z];exact y⟩,m,λb j=>(q b j).1⟩⟩
 done:=by intro X t hw v O i f s Q H E I q st r;subst t hw v;obtain⟨xs,z,y⟩:=r;refine aJ (I.list z) λA B p hz=>iy (q g (by exact .head _)) λC J Y L M N=>?_;have hl:=B.length;exact wpAny_pyNext_list_end (I.ok.hd O) st p.isList (by simp;lia) λh' eb=>⟨W,I.turned (t':=s.toks) (λb o j e=>eb b o j e) C J L M N⟩
 self:=(by grind[st,wpAny_pyIter_listiter])
def S_{P:a8}{w:World}{K:au}{Y:Expr}(a g:Λ):Turn P w K Y (Bx K a) [g] g (λi h=>h.IsTupleIter g a i) where
 mem:=by exact .head _
 obj:=λi h st b j=>by
  have e:b=g:=by simpa using j
  subst e;refine aJ st λo e c d=>?_;clear st;exact⟨o,e,λv z=>by rw[d]at z;injection z⟩
 keep:=λi h h' st k=>st.at λo e=>k g (by exact .head _) o e
 item:=by intro X A hw B T i f s U H E I r st t;subst A hw B;refine cA t λxs x y C=>?_;clear t;refine aJ (I.tuple y) λm J p hz=>?_;obtain⟨u,hu,ru⟩:=J.get C;refine iy (r g (by exact .head _)) λL M f2 N O Q=>wpAny_pyNext_tuple_item st (show s.heap.IsTuple a m.toArray from p) (x:=u) (by simpa using hu) λh' q sb=>?_;have I1:Inv X f U H {s with heap:=h'}:=I.turned (t':=s.toks) (λb o j e=>(sb.2 b j).trans e) L M N O Q;exact aJ (id q) λo e c d=>⟨u,W,xS (s:={s with heap:=h'}) e c d (by exact W) ⟨x,H,I1,ru,⟨W,λys hy=>by rw[I.Bq hy y];exact C⟩,q,λb j=>(r b j).1⟩⟩
 done:=by intro X A hw B T i f s U H E I r st t;subst A hw B;obtain⟨xs,y,C⟩:=t;refine aJ (I.tuple y) λm J p hz=>iy (r g (by exact .head _)) λL M f2 N O Q=>?_;have hl:=J.length;exact wpAny_pyNext_tuple_end (I.ok.hd T) st (show s.heap.IsTuple a m.toArray from p) (by simp;lia) λh' eb=>⟨W,I.turned (t':=s.toks) (λb o j e=>eb b o j e) L M N O Q⟩
 self:=λ_ _ _ _ _ st h=>wpAny_pyIter_tupleiter st h
def Ta{P:a8}{w:World}{K:au}{C:Expr}(d:Λ)(lo:Int)(n:Nat):Turn P w K C (rW lo n) [d] d (λi h=>IsRangeIter h d (lo+(i:Nat)*1) ((n:Int)-(i:Nat)) 1) where
 mem:=by exact .head _
 obj:=(by simp_all)
 keep:=λi h h' st k=>k d (by exact .head _) _ st
 item:=by intro X m hw p q i c s B H E I j st r;subst m hw p;refine iy (j d (by exact .head _)) λu x J y z A=>?_;have ad:=Walks.range (prog:=X.prog) (w:=X.w) (I.ok.hd q) d lo 1 n;refine ad.item i s _ _ r st λv h' tk L f kk=>?_;obtain⟨t,rfl⟩:=L;have M:Inv X c B H {s with heap:=h',toks:=tk}:=I.turned (λb o g e=>kk b o (by simpa using g) e) u x y z A;refine⟨_,W,xS (s:={s with heap:=h',toks:=tk}) (n:="range_iterator") f W W (by exact W) ⟨.int (lo+i),H,M,⟨t,?_⟩,⟨W,W⟩,f,λb g=>(j b g).1⟩⟩;rw[Int.mul_one]
 done:=by intro X m hw p q i c s B H E I j st r;subst m hw p;exact iy (j d (by exact .head _)) λu x J y z A=>wpAny_pyNext_range_end (I.ok.hd q) st (by have:n<=i:=r;lia) λh' N=>⟨W,I.turned (t':=s.toks) (λb o g e=>N b o g e) u x y z A⟩
 self:=(by grind[st,wpAny_pyIter_rangeiter])
section
variable {X:Cx}{tg:Expr}
def Tb(K:au)(tl:TE):TI:=λd H R=>tl d H λx c=>∃a,x=.ref a/\(∃xs,bX K c a xs)/\R (Bw K a) c
def Tc(K:au)(tl:TE):TI:=λd H R=>tl d H λx c=>∃a,x=.ref a/\(∃xs,cX K c a xs)/\R (Bx K a) c
def Ht(g:PE X l tl):PI X tg l (Tb X.K tl):=by
 intro c s i H R I h;refine aL (g c s i H _ I h) λv d j=>?_;obtain⟨x,m,f,r,t⟩:=j;obtain⟨a,e,⟨xs,z⟩,q⟩:=t;subst e;cases r;refine aJ (f.list z) λu y p hz=>Qn p.isList<|⟨d.heap.objs.size,[d.heap.objs.size],_,_,m,W,f.kept (t':=d.toks) λb o e=>cO _ e,S9 a _,⟨_,eo _ W,W,W⟩,λb w=>?_,q⟩;have e:b=d.heap.objs.size:=by simpa using w
 subst e;exact f.qh (a9 _) (f.aV.fresh (a9 _))
def Td(i:PE X l tl):PI X tg l (Tc X.K tl):=by
 intro c s j H R I h;refine aL (i c s j H _ I h) λv d m=>?_;obtain⟨x,r,f,t,u⟩:=m;obtain⟨a,e,⟨xs,z⟩,q⟩:=u;subst e;cases t;refine aJ (f.tuple z) λg y p hz=>wpAny_pyIter_tuple (show d.heap.IsTuple a g.toArray from p)<|⟨d.heap.objs.size,[d.heap.objs.size],_,_,r,W,f.kept (t':=d.toks) λb o e=>cO _ e,S_ a _,⟨_,eo _ W,W,W⟩,λb w=>?_,q⟩;have e:b=d.heap.objs.size:=by simpa using w
 subst e;exact f.qh (a9 _) (f.aV.fresh (a9 _))
def Hu{s:ψ}{lo c:Int}(I:Inv X d g H s)(h: -(2^62)<=lo)(i:lo<2^62)(j: -(2^62)<=c)(m:c<2^62)(q:R (rW lo (c-lo).toNat) H):wpAny 'd' X.A (w9 (.ref s.heap.objs.size)) (xR X d g tg R) E {s with heap:=s.heap.push {cls:=.type "range",data:=.fields #[.int lo t,.int c u,.int 1 v]},toks:=tk}:=by
 refine wpAny_pyIter_range (IsRange.new ..) (small_one h i j m) ?_;have f:Inv X d g H {s with heap:=s.heap.push {cls:=.type "range",data:=.fields #[.int lo t,.int c u,.int 1 v]},toks:=tk}:=I.kept λb o e=>cO _ e;refine⟨(s.heap.push {cls:=.type "range",data:=.fields #[.int lo t,.int c u,.int 1 v]}).objs.size,[(s.heap.push {cls:=.type "range",data:=.fields #[.int lo t,.int c u,.int 1 v]}).objs.size],_,_,H,W,f.kept (t':=tk) λb o e=>cO _ e,Ta _ lo (c-lo).toNat,?_,λb p=>?_,q⟩
 ·have r:lo+((0:Nat):Int)*1=lo:=by simp
  have x:(((c-lo).toNat:Nat):Int)-((0:Nat):Int)=Zyy lo c 1:=by rw[rangeSize_one];split<;>lia
  show IsRangeIter _ _ (lo+((0:Nat):Int)*1) ((((c-lo).toNat:Nat):Int)-((0:Nat):Int)) 1;rw[r,x];exact eo _ W
 ·have e:b=(s.heap.push {cls:=.type "range",data:=.fields #[.int lo t,.int c u,.int 1 v]}).objs.size:=by simpa using p
  subst e;exact f.qh (a9 _) (f.aV.fresh (a9 _))
def Te(c:TA):TI:=λd H R=>c d H λvs e=>∃j:Int,vs=[.int j]/\ -(2^62)<=j/\j<2^62/\R (rW 0 j.toNat) e
def Tf(c:TA):TI:=λd H R=>c d H λvs e=>∃i j:Int,vs=[.int i,.int j]/\(-(2^62)<=i/\i<2^62/\ -(2^62)<=j/\j<2^62)/\R (rW i (j-i).toNat) e
def Tg(f:Gl X "range")(g:X.mg "range"=am)(i:PA X [a] m)(hs:bq [a] X.env=[(bi,eval a X.env)]:=by rfl):PI X tg (.Call (.Name "range" p) [a] [] pos) (Te m):=by intro c s u H R I h;refine Call_ (oM I f g boot_range (xa (aL (i pos c s u H _ I h) λus A z=>ay z λvs B v w d=>?_) hs W));obtain⟨j,e,d,x,q⟩:=d;subst e;induction w using eL with|cons r y=>induction y using gM;obtain⟨t,rfl⟩:=r;exact call_range_1 (Hu v 'o' 'o' d x (by simpa using q))
def Th(m:Gl X "range")(u:X.mg "range"=am)(v:PA X [a,b] w)(hs:bq [a,b] X.env=[(bi,eval a X.env),(bi,eval b X.env)]:=by rfl)(c:bq [b] X.env=[(bi,eval b X.env)]:=by rfl):PI X tg (.Call (.Name "range" p) [a,b] [] pos) (Tf w):=by intro d s x H R I h;refine Call_ (oM I m u boot_range (xa (aL (v pos d s x H _ I h) λus J z=>ay z λvs L y A f=>?_) (by rw[hs,c]) (by rw[c];rfl)));obtain⟨i,j,e,⟨f,B,C,E⟩,q⟩:=f;subst e;induction A using eL with|cons r g=>induction g using eL with|cons r' g=>induction g using gM;obtain⟨t,rfl⟩:=r;obtain⟨t',rfl⟩:=r';exact call_range_2 (Hu y f B C E q)
def Ti(h:TI)(g:TG)(j:TS):TS:=λD c H=>h c H λJ p=>∃ad:Nat->Nat->St->Hp->Prop,(∃m,ad 0 m c p)/\∀i m c H,ad i m c H-> (J.stop i H/\D.nx c H)\/(J.go i H/\∃N:St->Hp->Prop,(∀d H',N d H'->∃f,f<m/\ad (i+1) f d H')/\∀x H',J.rV i H x H'->g x c H' λe H2=>j {D with nx:=N,ct:=N,bk:=D.nx} e H2)
noncomputable def jI(c:List Λ)(h:Heap):Zaa:=c.filterMap λb=>(h.get? b).map λo=>(b,o)
def rX{h:Heap}(c:b∈d)(e:h.get? b=Z o):(b,o)∈jI d h:=xb.mpr ⟨b,c,by rw[e];rfl⟩
def Hv{h:Heap}(c:p∈jI d h):p.1∈d/\h.get? p.1=Z p.2:=by obtain⟨b,f,e⟩:=xb.mp c;cases q:h.get? b with|none=>simp_all|some o=>grind
def Inv.pinned{s:ψ}(I:Inv X c f H s)(g:∀b∈d,oO X c H b)(j:∀b∈d,∃o,s.heap.get? b=Z o/\∀v,o.data≠ .cell v):Inv X (c++jI d s.heap) f H s:=I.xK λp h=>(bU.mp h).elim (λz=>I.pin p (dr _ z)) λz=>by obtain⟨i,e⟩:=Hv z;refine gz (g p.1 i) λm q r _=>?_;grind
def Inv.xT(I:Inv X (c++pl) d H s):Inv X c d H s:=I.xK λp e=>I.pin p (dr _ (gf _ e))
def Hw(M:PassesOwn 'd' X.A X.env X.xe)(hc:X.calm=be)(hi:PI X tg iter wi)(hg:PG X tg g)(p:gr X body tb)(hs:∀x,uo iter X.env x=pure x:=by intro _;rfl):PS X (.For tg iter body [] pos) (Ti wi g tb):=by
 intro c s σ H D I h;refine wpAny_For (aL (hi c s σ H _ I h) λv s1 h1=>aL h1 λTj s2 h2=>?_) hs;obtain⟨it,O,tn,J,H2,e,I2,T,xU,f2,ad,⟨m0,w0⟩,Q⟩:=h2;subst e;have q:∀{H':Hp},(∀b∈O,H' b=am)->∀b∈O,oO X c H' b:=λhn b p=>⟨hn b p,(f2 b p).2⟩;refine codeAny_forLoop_any (λn s'=>∃i t H',Inv X c t H' s'/\tn i s'.heap/\(∀b∈O,H' b=am)/\ad i n t H') ?_ m0 ⟨0,σ,H2,I2,xU,λb p=>(f2 b p).1,w0⟩;rintro n s3 ⟨i,y,H3,I3,U,Y,w3⟩;rcases Q i n y H3 w3 with⟨stop,qn⟩|⟨go,N,hN,step⟩;·refine um M (aL (T.done X W W W hc i c s3 y H3 X.xe I3 (q Y) U stop) λr s4 ⟨hr,I4⟩=>?_);subst hr;exact F0 ⟨y,H3,I4,qn⟩
 ·refine um M (aL (T.item X W W W hc i c s3 y H3 X.xe I3 (q Y) U go) λr s4 z=>ax z λu hr h4=>?_);subst hr;refine um M (aL h4 λ_ s5 z=>cv z λx H5 I5 r5 y5 L By=>?_);have Bz:=I5.pinned (q By) (T.obj _ _ L);refine um M (aL (hg _ s5 y H5 x u _ Bz r5 (step x H5 y5)) λ_ s6 z=>cA z λkE H6 I6 q6=>?_);refine um M (aL (p _ s6 kE H6 _ I6 q6) λf s7 E=>?_);have again:∀{j:St}{B:Hp},Inv X (c++jI O s5.heap) j B s7->N j B->∃m,m<n/\∃i t H',Inv X c t H' s7/\tn i s7.heap/\(∀b∈O,H' b=am)/\ad i m t H':=λ{j B} C n7=>by obtain⟨m',hm,w7⟩:=hN j B n7;refine⟨m',hm,i+1,j,B,C.xT,T.keep _ _ _ L λb p o e=>(C.pin (b,o) (dr _ (dr _ (rX p e)))).1,λb p=>?_,w7⟩;obtain⟨o,e,d⟩:=T.obj _ _ L b p;exact(C.pin (b,o) (dr _ (dr _ (rX p e)))).2.1
  cases f with|next=>refine cA E λj B C n7=>?_;clear E;exact again C n7|cont=>refine cA E λj B C n7=>?_;clear E;exact again C n7|brk=>refine cA E λj B C E=>?_;exact⟨j,B,C.xT,E⟩|ret v=>refine aS E λx7 j B C r7 E=>?_;exact⟨x7,j,B,C.xT,r7,E⟩
end
abbrev R2:=V->V->Hp->VK->Prop
def c7(X:Cx)(f:ω->ω->Sem ω)(r:R2):Prop:=∀(c:Zaa)(s:ψ)(d:St)(H:Hp)(x y:V)(v u:ω)(Q:VK),Inv X c d H s->RelV x v->RelV y u->r x y H Q-> wpAny 'd' X.A (f v u) (EP X c d Q) X.xe s
def BA(X:Cx)(f:ω->Sem ω)(r:V->Hp->VK->Prop):Prop:=∀(c:Zaa)(s:ψ)(d:St)(H:Hp)(x:V)(v:ω)(Q:VK),Inv X c d H s->RelV x v->r x H Q-> wpAny 'd' X.A (f v) (EP X c d Q) X.xe s
def mC(X:Cx)(f:ω)(r:List V->Hp->VK->Prop):Prop:=∀(c:Zaa)(s:ψ)(d:St)(H:Hp)(xs:List V)(us:List ω)(Q:VK),Inv X c d H s->Vals xs us->r xs H Q-> wpAny 'd' X.A (call f us) (EP X c d Q) X.xe s
def Tn(X:Cx)(r:V->Hp->(Bool->Hp->Prop)->Prop):Prop:=∀(c:Zaa)(s:ψ)(d:St)(H:Hp)(x:V)(v:ω)(Q:Bool->Hp->Prop),Inv X c d H s->RelV x v->r x H Q-> wpAny 'd' X.A (truthy v) (TP X c d Q) X.xe s
def uZ(r:R2)(d e:TE):TE:=λc H Q=>d c H λx f=>e c f λy H2=>r x y H2 Q
def To(r:V->Hp->VK->Prop)(c:TE):TE:=λd H Q=>c d H λx e=>r x e Q
def rI(C:Int->Int->Prop)(g:Int->Int->V):R2:=λx y H Q=>∃i j,x=.int i/\y=.int j/\C i j/\Q (g i j) H
def oP(g:Int->Int->V):R2:=λx y H Q=>∃i j,x=.int i/\y=.int j/\Q (g i j) H
def rU(g:Int->V):V->Hp->VK->Prop:=λx H Q=>∃i,x=.int i/\Q (g i) H
section
variable {X:Cx}{a b:Expr}{ta tb:TE}{pos:Pos}
def BB(p:PE X a ta)(q:PE X b tb){d:Zaa}{s:ψ}{e:St}{H:Hp}{R:V->V->Hp->Prop}(I:Inv X d e H s) (h:ta e H λx m=>tb e m λy H2=>R x y H2) {Q:Zab} {f:ω->ω->Sem ω} (r:∀v u j x y H2,Inv X d e H2 j->RelV x v->RelV y u->R x y H2->wpAny 'd' X.A (f v u) Q X.xe j):wpAny 'd' X.A (eval a X.env) (λv g=>wpAny 'd' X.A (eval b X.env) (λu i=>wpAny 'd' X.A (f v u) Q X.xe i) X.xe g) X.xe s:=by exact aL (p d s e H _ I h) λv t z=>ay z λx m B C E=>aL (q d t e m _ B E) λu j z=>ay z λy H2 J L M=>r v u j x y H2 J C L M
def Hy(f:c7 X (hV e) r)(g:PE X a ta)(i:PE X b tb):PE X (.BinOp a e b pos) (uZ r ta tb):=by intro d s j H Q I h;exact wpAny_BinOp (BB g i I h λv u m x y H2 p t w q=>f d m j H2 x y v u Q p t w q)
def Tp(f:BA X (unaryOp g) r)(i:PE X a ta):PE X (.UnaryOp g a pos) (To r ta):=by intro d s e H Q I h;exact UnaryOp_ (aL (i d s e H _ I h) λv j z=>ay z λx m p q t=>f d j e m x v Q p q t)
def BC{f:ω->ω->Sem ω}{C:Int->Int->Prop}{g:Int->Int->Int} (rule:∀(i j:Int)(t u:Tok)(s:ψ)(Q:Zab)(E:Zab),C i j->Q (.int (g i j) s.toks) {s with toks:=s.toks+1}->wpAny 'd' X.A (f (.int i t) (.int j u)) Q E s):c7 X f (rI C λi j=>.int (g i j)):=by intro m s B H x y v u Q I p r h;refine bV h λi j d e z q=>?_;clear h;subst d;subst e;obtain⟨t,rfl⟩:=p;obtain⟨t',rfl⟩:=r;exact rule i j t t' s _ _ z ⟨.int (g i j),H,I.tok _,⟨_,W⟩,q⟩
def Hz{f:ω->ω->Sem ω}{g:Int->Int->Int} (rule:∀(i j:Int)(t u:Tok)(s:ψ)(Q:Zab)(E:Zab),Q (.int (g i j) s.toks) {s with toks:=s.toks+1}->wpAny 'd' X.A (f (.int i t) (.int j u)) Q E s):c7 X f (oP λi j=>.int (g i j)):=by intro m s z H x y v u Q I p r h;refine ay h λi j d e q=>?_;clear h;subst d;subst e;obtain⟨t,rfl⟩:=p;obtain⟨t',rfl⟩:=r;exact rule i j t t' s _ _ ⟨.int (g i j),H,I.tok _,⟨_,W⟩,q⟩
def BD{f:ω->ω->Sem ω}{g:Int->Int->Bool} (rule:∀(i j:Int)(t u:Tok)(s:ψ)(Q:Zab)(E:Zab),Q (.bool (g i j)) s->wpAny 'd' X.A (f (.int i t) (.int j u)) Q E s):c7 X f (oP λi j=>.bl (g i j)):=by intro m s z H x y v u Q I p r h;refine ay h λi j d e q=>?_;clear h;subst d;subst e;obtain⟨t,rfl⟩:=p;obtain⟨t',rfl⟩:=r;exact rule i j t t' s _ _ ⟨.bl (g i j),H,I,W,q⟩
def HA(i j:Int):Prop:=0<j/\j<1073741824
def HB(i j:Int):Prop:=0<=j/\j<=1000000/\i.natAbs<2^64
def mD(i j:Int):Prop:=(-(2^64)<i/\i<2^64)\/(-(2^64)<j/\j<2^64)
def mD.ok(h:mD i j):ur i j:=by
 rcases h with⟨d,e⟩|⟨d,e⟩;·exact .of_left (intBits_le_64 d e)
 ·exact .of_right (intBits_le_64 d e)
def Tq:c7 X (hV .Add) (oP λi j=>.int (i+j)):=Hz λ_ _ _ _ _ _ _ q=>add_int q
def Tr:c7 X (hV .Sub) (oP λi j=>.int (i-j)):=Hz λ_ _ _ _ _ _ _ q=>sub_int q
def Ts:c7 X (hV .Mult) (rI mD λi j=>.int (i*j)):=BC λ_ _ _ _ _ _ _ d q=>mul_int q d.ok
def Tt:c7 X (hV .Mod) (rI (λ_ j=>0<j) λi j=>.int (i%j)):=BC (by grind[mod_int',Int.fmod_eq_emod_of_nonneg])
def Tu{f:ω->Sem ω}{g:Int->Int} (rule:∀(i:Int)(t:Tok)(s:ψ)(Q:Zab)(E:Zab),Q (.int (g i) s.toks) {s with toks:=s.toks+1}->wpAny 'd' X.A (f (.int i t)) Q E s):BA X f (rU λi=>.int (g i)):=by intro d s j H x v Q I e h;obtain⟨i,rfl,q⟩:=h;obtain⟨t,rfl⟩:=e;exact rule i t s _ _ ⟨.int (g i),H,I.tok _,⟨_,W⟩,q⟩
def Tv:BA X (unaryOp .USub) (rU λi=>.int (-i)):=Tu λ_ _ _ _ _ q=>neg_int q
end
section
variable {X:Cx}{a b c:Expr}{ta tb tc:TE}{pos:Pos}
def HC{k:Bool}(I:Inv X d f H s)(q:Q (.bl k) H)(e:k=k'):EP X d f Q (.bool k') s:=by subst e;exact⟨.bl k,H,I,W,q⟩
def Tw:c7 X (c5 .Lt) (oP λi j=>.bl (decide (i<j))):=BD λ_ _ _ _ _ _ _ q=>lt_int q
def Tx:c7 X (c5 .LtE) (oP λi j=>.bl (decide (i<=j))):=BD λ_ _ _ _ _ _ _ q=>le_int q
def Tz:c7 X (c5 .Gt) (oP λi j=>.bl (decide (j<i))):=BD λ_ _ _ _ _ _ _ q=>gt_int q
def TC:c7 X (c5 .Is) (λx y H Q=>y=.aD/\Q (.bl (decide (x=.aD))) H):=by intro d s g H x y v u Q I e f h;obtain⟨rfl,q⟩:=h;cases f;refine is_none_gen (HC I q ?_);cases x<;>first|(cases e;rfl)|(obtain⟨t,rfl⟩:=e;rfl)
def TF:c7 X (c5 .IsNot) (λx y H Q=>y=.aD/\Q (.bl (!decide (x=.aD))) H):=by intro d s g H x y v u Q I e f h;obtain⟨rfl,q⟩:=h;cases f;refine isnot_none_gen (HC I q ?_);cases x<;>first|(cases e;rfl)|(obtain⟨t,rfl⟩:=e;rfl)
noncomputable def isObj:HO->Bool|.lst _=>be|.ins _ _ _=>be|_=>bi
def TH(f:c7 X (c5 e) r)(g:PE X a ta)(i:PE X b tb)(j:behindInMarks e b=bi):PE X (.Compare a [e] [b] pos) (uZ r ta tb):=by intro d s m H Q I h;exact wpAny_Compare1 (BB g i I h λv u p x y H2 t w z q=>f d p m H2 x y v u Q t w z q) j
def HE(t:TE):TT:=λd H Q=>t d H λx H'=>∃k,x=.bl k/\Q k H'
def HG(i:c7 X (c5 g) r)(j:PE X a ta)(m:PE X b tb)(p:behindInMarks g b=bi):PT X (.Compare a [g] [b] pos) (HE (uZ r ta tb)):=by intro d s f H Q I h;refine wpAny_isTrue_Compare1 (aL (j d s f H _ I h) λv q t=>ay t λx A B C E=>aL (m d q f A _ B E) λu J t=>ay t λy H2 L M N=> aL (i d J f H2 x y v u _ L C M N) λc s3 t=>ay t λz O T U w=>ax w λk e Y=>?_) p;subst e;cases U;exact wpAny_truthy_bool ⟨O,T,Y⟩
def HH(r r':R2)(ta tb tc:TE):TE:=λd H Q=>ta d H λx f=>tb d f λy H2=>r x y H2 λz e=>∃k,z=.bl k∧ (if k=be then tc d e λg h=>r' y g h Q else Q (.bl bi) e)
def TJ(C:c7 X (c5 m) r)(j:c7 X (c5 g) r')(E:PE X a ta)(J:PE X b tb)(L:PE X c tc)(M:lastMarks [m,g] [b,c]=bi:=by with_unfolding_all rfl):PE X (.Compare a [m,g] [b,c] pos) (HH r r' ta tb tc):=by intro f s i H Q I h;refine Compare_chain (aL (E f s i H _ I h) λv N t=>ay t λx O T U Y=>chain_link (aL (J f N i O _ T Y) λu s2 t=>ay t λy H2 I2 p q2=> aL (C f s2 i H2 x y v u _ I2 U p q2) λd s3 t=>ay t λz q A r3 w=>ax w λk e B=>?_)) M;subst e;cases r3;refine wpAny_truthy_bool ?_;cases k with|false=>exact ite_ff ⟨.bl bi,q,A,W,B⟩|true=>exact ite_tt (chain_last (aL (L f s3 i q _ A B) λw' s4 t=>ay t λz' H4 I4 r4 q4=>j f s4 i H4 y z' u w' Q I4 p r4 q4))
def TK(C:c7 X (c5 m) r)(j:c7 X (c5 g) r')(E:PE X a ta)(J:PE X b tb)(L:PE X c tc)(M:lastMarks [m,g] [b,c]=bi:=by with_unfolding_all rfl):PT X (.Compare a [m,g] [b,c] pos) (HE (HH r r' ta tb tc)):=by intro f s i H Q I h;refine isTrue_chain (aL (E f s i H _ I h) λv N t=>ay t λx O T U Y=>test_link (aL (J f N i O _ T Y) λu s2 t=>ay t λy H2 I2 p q2=> aL (C f s2 i H2 x y v u _ I2 U p q2) λd s3 t=>ay t λz q A r3 w=>ax w λk e B=>?_)) M;subst e;cases r3;refine wpAny_truthy_bool ?_;cases k with|false=>obtain⟨k',e',q'⟩:=B;cases e';exact ite_ff ⟨q,A,q'⟩|true=>refine ite_tt (test_last (aL (L f s3 i q _ A B) λw' s4 t=>ay t λz' H4 I4 r4 q4=>aL (j f s4 i H4 y z' u w' _ I4 p r4 q4) λd' s5 t=>ay t λz2 H5 I5 r5 w=>ax w λk2 e2 q5=>?_));subst e2;cases r5;exact wpAny_truthy_bool ⟨H5,I5,q5⟩
def BE(K:au)(x:V)(H:Hp)(k:Bool):Prop:=match x with|.aD=>k=bi|.bl b=>k=b|.int i=>k=(i != 0)|.str y=>y.length<=aA/\k=((y.length:Int) != 0)|.pZ y=>y.size<=aA/\k=((y.size:Int) != 0)|.ref p=>(∃xs,bX K H p xs/\k=!xs.isEmpty)\/(∃xs,cX K H p xs/\k=!xs.isEmpty)\/∃kvs,H p=Z (.dK kvs)/\k=!kvs.isEmpty|_=>False
theorem TL{κ:Type}{kvs:List (κ×V)}{vs:List (κ×ω)}(r:KV kvs vs):(!vs.isEmpty)=!kvs.isEmpty:=by induction r using Gd<;>rfl
theorem HJ{xs:List V}{d:List ω}(r:Vals xs d):(!d.toArray.isEmpty)=!xs.isEmpty:=by induction r using Gd<;>exact W
def qi:(aA:Nat)<2^63:=by rw[rq];simp
theorem TM:Tn X (λx H Q=>∃k,BE X.K x H k/\Q k H):=by intro u s B H x v Q I f h;obtain⟨k,e,q⟩:=h;have C:=qi;have hs:aA=16777216:=rq;cases x with|aD=>cases f;have d:k=bi:=e;subst d;exact truthy_none ⟨H,I,q⟩|bl b=>cases f;have d:k=b:=e;subst d;exact wpAny_truthy_bool ⟨H,I,q⟩|int i=>obtain⟨t,rfl⟩:=f;have d:k=(i != 0):=e;subst d;exact PySem.P.truthy_int ⟨H,I,q⟩|str y=>obtain⟨t,rfl⟩:=f;obtain⟨z,d⟩:y.length<=aA/\k=((y.length:Int) != 0):=e;subst d;exact PySem.P.truthy_str 'c' ⟨H,I.tok _,q⟩|pZ y=>obtain⟨t,rfl⟩:=f;obtain⟨z,d⟩:y.size<=aA/\k=((y.size:Int) != 0):=e;subst d;exact PySem.W.truthy_bytes (fo z) ⟨H,I.tok _,q⟩|ref p=>
  cases f;have d:(∃xs,bX X.K H p xs/\k=!xs.isEmpty)\/(∃xs,cX X.K H p xs/\k=!xs.isEmpty)\/∃kvs,H p=Z (.dK kvs)/\k=!kvs.isEmpty:=e;rcases d with⟨xs,g,d⟩|⟨xs,g,d⟩|⟨kvs,g,d⟩;·subst d;refine aJ (I.list g) λj r pl hz=>?_;have hlen:=r.length;exact wpAny_truthy_list pl.isList (by simp only[dY];lia) ⟨H,I.tok _,by rw[HJ r];exact q⟩
  ·subst d;refine aJ (I.tuple g) λj r pl hz=>?_;have hlen:=r.length;exact truthy_tuple pl (by simp only[dY];omega) ⟨H,I.tok _,by rw[HJ r];exact q⟩
  ·subst d;obtain⟨hz,A,vs,r,m⟩:kvs.length<=aA/\(p==iu)=bi/\∃vs,KV kvs vs/\s.heap.DictOf (h7 X.prog X.w) p vs:=I.aV p _ g;have hlen:kvs.length=vs.length:=FX r;exact wpAny_truthy_dict A m 'c' ⟨H,I.tok _,by rw[TL r];exact q⟩|_=>exact(show False from e).elim
def TN(g:PE X a ta)(i:∀d,isTrue a X.env d=(do let v<-d;standAt a.pos;holding [v] (truthy v))):PT X a (λf H Q=>ta f H λx H'=>∃k,BE X.K x H' k/\Q k H'):=by intro e s f H Q I h;exact isTrue_plain (aL (g e s f H _ I h) λv j z=>ay z λx m p q r=>TM e j f m x v Q p q r) (i _)
def TQ:c7 X (hV .Add) (λx y H Q=>∃i j,x=.str i/\y=.str j/\i.length+j.length<=aA/\Q (.str (i++j)) H):=by intro f s p H x y v u Q I g m h;refine bV h λi j d e hz q=>?_;clear h;subst d;subst e;obtain⟨t,rfl⟩:=g;obtain⟨t',rfl⟩:=m;exact add_str (λt' tk=>⟨.str (i++j),H,I.tok _,⟨_,W⟩,q⟩) hz
def mE(r:Vals [x] us):∃u,us=[u]/\RelV x u:=by induction r using eL with|cons d e=>induction e using gM;exact⟨_,W,d⟩
def vals2(r:Vals [x,y] us):∃u d,us=[u,d]/\RelV x u/\RelV y d:=by induction r using eL with|cons e f=>induction f using eL with|cons g h=>induction h using gM;exact⟨_,_,W,e,g⟩
def HK:mC X (.type "int") (λxs H Q=>(∃i,xs=[.int i]/\Q (.int i) H)\/∃k,xs=[.bl k]/\Q (.int (if k then 1 else 0)) H):=by
 intro f s j H xs us Q I r h;rcases h with⟨i,rfl,q⟩|⟨k,rfl,q⟩;·refine ax (mE r) λu d z=>hZ z λt e=>?_;clear z;subst d;subst e;exact call_int_int ⟨.int i,H,I,⟨_,W⟩,q⟩
 ·obtain⟨u,rfl,g⟩:=mE r;cases g;exact call_int_bool ⟨.int (if k then 1 else 0),H,I.tok _,⟨_,W⟩,q⟩
end
structure qj(h:Heap)(x dx C:Λ)(mA:Zac):Prop where
 obj:h.get? x=Z (ro C dx)
 ns:h.Ns1 dx mA
 ne:dx≠x
def TR{h:Heap}(n:h.Ns1 d f):∃od,h.get? d=Z od/\∀name,Ge name od=Z (f name):=by
 refine aS n λo es ep g i u=>aQ u λj _ m=>?_;clear n u;refine⟨o,g,λname=>?_⟩;have e:=m name;unfold nsFind findBy at e;rw[<-Array.find?_toList]at e;unfold Ge;rw[i];dsimp only;split;·rename_i y q;rw[q]at e;exact congrArg Z e
 ·rename_i q;rw[q]at e;have a:es.toList.any (·.refKey)=bi:=by rw[Qo];intro y p;obtain⟨z,t,c⟩:=j y (Array.mem_toList_iff.mp p);simp[DictEntry.refKey,c]
  have r:¬es.toList.any (·.refKey)=be:=by rw[a];exact dg
  rw[if_neg r];exact congrArg Z e
def qj.look(I:qj h x c C d):∃od,PySem.W.InstAt h x (ro C c) C (Z od)/\∀name,Ge name od=Z (d name):=let ⟨od,e,f⟩:=TR I.ns
 ⟨od,⟨I.obj,W,W,e⟩,f⟩
section
variable {prog:a8}{w:World}{A:Around}{E:Zab}{s:ψ}{K:au}{x dx C f:Λ}{mA:Zac}{name:Str}{v:ω}
def TU(X:K.In s.heap)(I:qj s.heap x dx C mA)(e:Gf K C name=be)(g:Qp K C=be)(i:lu K (.ref C) name=Z am)(j:mA name=Z v)(d:Zwf v=be)(h:Q v {s with toks:=s.toks+1}):wpAny 'j' A (getAttr (.ref x) name c) Q E s:=by obtain⟨od,J,m⟩:=I.look;exact PySem.W.get_value X J (Qq e).1 (PySem.W.findObj_own g i W (by rw[m,j])) d h
def TV(X:K.In s.heap)(I:qj s.heap x dx C mA)(c:Gf K C name=be)(d:lu K (.ref C) name=Z (Z (.ref f)))(e:AQ K (.ref f)=be)(g:mA name=am)(h:Q (.ref f,[.ref x]) s):wpAny 'j' A (m7 (.ref x) name pl) Q E s:=by obtain⟨od,J,i⟩:=I.look;exact PySem.W.method_fn X J (Qq c).1 (Qq c).2 d (beq_iff_eq.mp e) (by show(Ge name od).map (·.isSome)=Z bi;rw[i,g];rfl) h
def TX{ns:List Str}(X:K.In s.heap)(I:qj s.heap x dx C mA)(hs:lu K (.ref C) "__setattr__"=Z (Z (.builtin "object.__setattr__")))(m:Zwg K C=be)(p:Qr K C name=Z am)(q:Qp K C=be)(hw:Qi mA ns)(hsz:ns.length<=aA)(h:∀h',qj h' x dx C (λy=>if y=name then Z v else mA y)->lj dx s.heap h'->Q () {s with heap:=h',toks:=s.toks+2}):wpAny 'j' A (setAttr (.ref x) name v) Q E s:=by obtain⟨od,J,H⟩:=I.look;refine PySem.W.set_plain X J hs (PySem.W.osa_open (s:={s with toks:=s.toks+1}) (r:=am) X J m p λb=>?_);obtain⟨L,t,e⟩:=PySem.W.any_some q;have u:s.heap.get? x=Z ⟨.ref C,Z dx,.plain,#[]⟩:=I.obj;refine υ (χ (υ (υ (wpAny_loadPart u (υ (Zyz (s:={s with toks:=s.toks+1}) (PySem.W.looks_clsIn X t) ?_))))));rw[e];refine χ (a:=Z dx) (υ (χ (υ ?_)));refine wpAny_nsSet1 (s:={s with toks:=s.toks+1}) I.ns λh' c d=>aS (c.count (ZyA name v hw)) λM z B g i j=>υ (wpAny_lookBehind g (by rw[i];exact pastItsLine_dict (c3 j (by rw[bz];lia))) ?_);exact χ (h _ ⟨(d.2 _ (bW I.ne)).trans I.obj,c,I.ne⟩ d)
def TY(X:K.In s.heap)(e:Qs K C=be)(i:lu K (.ref C) "__init__"=Z (Z (.ref f)))(j:PySem.W.typeIn K (.ref f)=Z (.type "function"))(h:uu 'j' (A.under (.builtin "type.__call__" ⟨.ref C::vs,c⟩)) (.call (.ref f) ⟨.ref 'n'::vs,c⟩) (PySem.W.InitBack 'n' R) {s with heap:=(s.heap.push pU).push (ro C s.heap.objs.size)}):uu 'j' A (.call (.ref C) ⟨vs,c⟩) R s:=by obtain⟨m,g,d,t,os⟩:=s;exact PySem.W.make_core (PySem.W.makes_of X e) (PySem.W.looks_findIn X i) (λself=>PySem.W.bind_fn X self j) (.inl W) h
end
noncomputable def g8(f:Str)(v:V):List (Str×V)->List (Str×V)|[]=>[(f,v)]|(g,x)::r=>if g=f then(g,v)::r else(g,x)::g8 f v r
theorem HL(f g:Str)(v:V):∀fs:List (Str×V),(g8 f v fs).lookup g=if g=f then Z v else fs.lookup g
  |[]=>by
    show uv g [(f,v)]=_;by_cases h:g=f;·have c:(g==f)=be:=beq_iff_eq.mpr h;simp only[uv,c,if_pos h]
    ·have c:(g==f)=bi:=beq_eq_false_iff_ne.mpr h;simp only[uv,c,if_neg h]|(k,x)::r=>by
    have i:=HL f g v r;rw[show g8 f v ((k,x)::r)=(if k=f then(k,v)::r else(k,x)::g8 f v r) from W];by_cases d:k=f
    ·rw[if_pos d];by_cases h:g=k;·have c:(g==k)=be:=beq_iff_eq.mpr h;simp only[uv,c,if_pos (h.trans d)]
     ·have c:(g==k)=bi:=beq_eq_false_iff_ne.mpr h;simp only[uv,c,if_neg (λe:g=f=>h (e.trans d.symm))]
    ·rw[if_neg d];by_cases h:g=k;·have c:(g==k)=be:=beq_iff_eq.mpr h;simp only[uv,c,if_neg (λe:g=f=>d (h.symm.trans e))]
     ·have c:(g==k)=bi:=beq_eq_false_iff_ne.mpr h;simp only[uv,c];exact i
theorem BF(f:Str)(v:V):∀fs:List (Str×V),f∈(g8 f v fs).map (·.1)/\∀g,g∈fs.map (·.1)->g∈(g8 f v fs).map (·.1)
  |[]=>⟨by exact .head _,λg h=>by simp at h⟩|(k,x)::r=>by
    obtain⟨i1,i2⟩:=BF f v r;rw[show g8 f v ((k,x)::r)=(if k=f then(k,v)::r else(k,x)::g8 f v r) from W];by_cases c:k=f;·rw[if_pos c];subst c;exact⟨by exact .head _,λg h=>by simpa using h⟩
    ·rw[if_neg c];refine⟨?_,λg h=>?_⟩;·rw[bG];exact b8 _ i1
     ·rw[bG]at h⊢;rcases a6.mp h with e|e;·exact a6.mpr (.inl e)
      ·exact b8 _ (i2 g e)
theorem HM(f:Str)(v:V):∀fs:List (Str×V),(g8 f v fs).length<=fs.length+1
  |[]=>by exact a9 _|(k,x)::r=>by
    have d:=HM f v r;rw[show g8 f v ((k,x)::r)=(if k=f then(k,v)::r else(k,x)::g8 f v r) from W];by_cases c:k=f;·rw[if_pos c,bz,bz];exact jC _
    ·rw[if_neg c,bz,bz];lia
def gA.some_of(r:gA (Z v) o):∃u,o=Z u/\RelV v u:=by cases o with|none=>exact(show False from r).elim|some u=>exact⟨u,W,r⟩
def gA.none_of(r:gA am o):o=am:=by cases o with|none=>rfl|some u=>exact(show False from r).elim
def TZ(r:RelV v u):Zwf u=be:=by cases v with|aD=>cases(show u=eJ from r);rfl|bl b=>cases(show u=lh b from r);rfl|int i=>obtain⟨t,e⟩:=(show ∃t,u=AM i t from r);subst e;rfl|str x=>obtain⟨t,e⟩:=(show ∃t,u=uk x t from r);subst e;rfl|pZ b=>obtain⟨t,e⟩:=(show ∃t,u=Zv_ b t from r);subst e;rfl|uT b=>obtain⟨t,e⟩:=(show ∃t,u=Zwa b t from r);subst e;rfl|ref a=>cases(show u=cN a from r);rfl|ty n=>cases(show u=FW n from r);rfl
section
variable {P:a8}{w:World}{H:Hp}{h:Heap}{a C dx:Λ}{fs:List (Str × V)}
def BG(g:dE P w H h)(e:H a=Z (.ins C dx fs)):∃c,qj h a dx C c/\(∀f,gA (fs.lookup f) (c f))/\Qi c (fs.map (·.1))/\fs.length<=1000/\H dx=Z (.own a):=by refine jG ((show d6 P w H h a (.ins C dx fs) from g a _ e)) λd z i ob y=>aJ y λc n r q=>?_;clear y;exact⟨c,⟨ob,n,i⟩,r,q,z,d⟩
end
structure eO(K:au)(C:Λ):Prop where
 pg:Gf K C Str.empty=be
 hd:Qp K C=be
 po:Zwg K C=be
 sa:lu K (.ref C) "__setattr__"=Z (Z (.builtin "object.__setattr__"))
def eO.get{K:au}{C:Λ}(c:eO K C)(f:Str):Gf K C f=be:=c.pg
def gh(K:au)(C:Λ)(f:Str):Prop:=lu K (.ref C) f=Z am
def gh.T1{K:au}{C:Λ}(n:gh K C f):Qr K C f=Z am:=by unfold Qr;rw[show lu K (.ref C) f=Z am from n];rfl
structure xV(K:au)(C:Λ)(f:Str)(v:V)(u:ω):Prop where
 at_:lu K (.ref C) f=Z (Z u)
 rel:RelV v u
 get:PySem.W.specialIn K u "__get__"=Z am
 cp:PySem.W.copiedNames.contains f=bi
structure Meth(K:au)(C:Λ)(m:Str)(f:Λ):Prop where
 at_:lu K (.ref C) m=Z (Z (.ref f))
 fn:AQ K (.ref f)=be
 kp:ma K (.ref f)=be
section
variable {X:Cx}{π:Zaa}{σ:St}{H:Hp}{s:ψ}{a C dx:Λ}{fs:List (Str × V)}{f:Str}{v:V}{A:Around}{E:Zab}
def T3(I:Inv X π σ H s)(e:H a=Z (.ins C dx fs))(c:eO X.K C)(n:gh X.K C f)(l:fs.lookup f=Z v)(h:∀u s',Inv X π σ H s'->RelV v u->Q u s'):wpAny 'd' A (getAttr (.ref a) f b) Q E s:=by refine bh (BG I.aV e) λg O r _ z=>aM z λ_ _=>?_;clear z;obtain⟨u,i,d⟩:=gA.some_of (v:=v) (o:=g f) (by rw[<-l];exact r f);exact TU I.eN O (c.get f) c.hd n i (TZ d) (h u _ (I.tok _) d)
def BH(I:Inv X π σ H s)(e:H a=Z (.ins C dx fs))(c:eO X.K C)(k:Meth X.K C m g)(l:fs.lookup m=am)(h:Q (.ref g,[.ref a]) s):wpAny 'd' A (m7 (.ref a) m pl) Q E s:=by refine bh (BG I.aV e) λd O r _ z=>aM z λ_ _=>?_;clear z;have hn:d m=am:=gA.none_of (by rw[<-l];exact r m);exact TV I.eN O (c.get m) k.at_ k.fn hn h
def T7(I:Inv X π σ H s)(e:H a=Z (.ins C dx fs))(c:eO X.K C)(n:gh X.K C f)(T:fs.length<1000)(p:RelV y u)(h:∀s',Inv X π σ (upd H a (.ins C dx (g8 f y fs))) s'->Q () s'):wpAny 'd' A (setAttr (.ref a) f u) Q E s:=by
 refine bh (BG I.aV e) λi O r j t=>aM t λ_ m=>?_;clear t;have hz:(fs.map (·.1)).length<=aA:=by rw[aG,rq];lia
 refine TX I.eN O c.sa c.po n.T1 c.hd j hz λh' d B=>h _ ?_;have J:∃o,h'.get? dx=Z o:=eM d.ns λo _ _ L _=>⟨o,L⟩;refine I.write (x:=a) (e:=dx) (by rw[e];exact jD) (.inr m) (λb q M z=>(B.2 b M).trans z) J<|⟨dD m O.ne,?_,O.ne,d.obj,_,d.ns,λg=>?_,λg N=>?_⟩;·have:=HM f y fs;grind
 ·show gA ((g8 f y fs).lookup g) (if g=f then Z u else i g);rw[HL];by_cases q:g=f;·rw[if_pos q,if_pos q];exact p
  ·rw[if_neg q,if_neg q];exact r g
 ·by_cases q:g=f;·rw[q];exact(BF f y fs).1
  ·refine(BF f y fs).2 g (j g λz=>N ?_);show(if g=f then Z u else i g)=am;rw[if_neg q];exact z
theorem Inv.made(I:Inv X π σ H s):Inv X π σ (upd (upd H s.heap.objs.size (.own 'n')) 'n' (.ins C s.heap.objs.size [])) {s with heap:=(s.heap.push pU).push (ro C s.heap.objs.size)}:=by
 have c:(s.heap.push pU).get? s.heap.objs.size=Z pU:=eo s.heap W;have g:((s.heap.push pU).push (ro C s.heap.objs.size)).get? 'n'=Z (ro C s.heap.objs.size):=by have:=eo (s.heap.push pU) (o:=ro C s.heap.objs.size) W;rwa [AR]at this
 have h:(s.heap.push pU).Ns s.heap.objs.size (λ_=>am):=⟨pU,#[],_,c,W,(λe i=>absurd i 'o'),λ_=>rfl⟩;have j:=I.laid (a:=s.heap.objs.size) (o:=.own 'n') (h':=s.heap.push pU) (t':=s.toks) (λb u q=>cO _ q) (a9 _) ⟨_,c⟩;refine j.laid (a:=s.heap.objs.size+1) (o:=.ins C s.heap.objs.size []) (t':=s.toks) (λb u q=>cO _ q) (uw (AR _ _)) ?_;have d:s.heap.objs.size≠s.heap.objs.size+1:=df (uz _);refine⟨by rw[bu d,br],dZ _,d,g,λ_=>am,(Heap.Ns1.of_empty h).at λo q=>cO _ q,λ_=>jD,λy m=>absurd W m⟩
def T8(g:md e f c (eval e c)=eval e c)(h:wpAny 'j' A (eval e c) (λo d=>wpAny 'j' A (getAttr o f be) Q E d) E s):wpAny 'j' A (eval (.Attribute e f pos) c) Q E s:=Attribute_any_ h (by rw[arm_eval_Attribute,g])
end
def T9(K:au)(d:TE)(f:Str):TE:=λe H Q=>d e H λx c=>∃a C g fs v,x=.ref a/\c a=Z (.ins C g fs)/\eO K C/\gh K C f/\fs.lookup f=Z v/\Q v c
def T_(K:au)(e g:TE)(f:Str):TS:=λD c H=>g c H λy h=>e c h λx H2=>∃a C d fs,x=.ref a/\H2 a=Z (.ins C d fs)/\eO K C/\gh K C f/\fs.length<1000∧ D.nx c (upd H2 a (.ins C d (g8 f y fs)))
section
variable {X:Cx}{o e value:Expr}{f:Str}{pos pos':Pos}{ta tv:TE}
def u0(g:PE X e ta)(i:md e f X.env (eval e X.env)=eval e X.env):PE X (.Attribute e f pos) (T9 X.K ta f):=by intro d s j H Q I h;refine T8 i (aL (g d s j H _ I h) λu L y=>ay y λx m p r t=>aU t λa C M w=>cv w λfs v A B c n z=>aM z λl q=>?_);subst A;obtain rfl:u=cN a:=r;exact T3 p B c n l λN O E J=>⟨v,m,E,J,q⟩
def u6(i:PE X o ta)(j:PE X value tv)(hs:d4 value (Z (.Attribute o f pos')) pos.line X.env=pure bi):PS X (.Assign [.Attribute o f pos'] value pos) (T_ X.K ta tv f):=by intro d s g H D I h;refine plainObj_wpAny_Assign_Attribute (aL (j d s g H _ I h) λu m z=>ay z λy p r A q=>aL (i d m g p _ r q) λB Q z=>ay z λx H2 E J v=>aU v λa C T w=>bh w λfs L M c t=>aQ t λn l N=>?_) hs;subst L;obtain rfl:B=cN a:=J;exact T7 E M c n l A λU O=>⟨g,_,O,N⟩
end
structure bA(k:Nat)(A:Around):Prop where
 hd:A.handled=am
 dp:A.depth+3*k+5<recursionLimit
 un:A.units+16*k+200<cLine
theorem bA.deeper{k:Nat}{A:Around}(r:bA (k+1) A)(c:Env):bA k (A.deeper c):=⟨r.hd,by have:=r.dp;show A.depth+1+3*k+5<_;lia,by have:=r.un;show A.units+3+16*k+200<_;lia⟩
theorem Ua{A:Around}:(A.under (.builtin "type.__call__" ⟨.ref C::us,c⟩)).depth=A.depth+1:=by first|rfl|simp[Qt,Code.weight,Code.isCreation,Code.isGuard,Code.isCaller,Zwh,Qu,guardIds]
theorem Ub{A:Around}:(A.under (.builtin "type.__call__" ⟨.ref C::us,c⟩)).units=A.units+1:=by first|rfl|simp[Qt,Code.cUnits,Zwh,Qu]
def bA.make{k:Nat}{A:Around}(r:bA (k+1) A)(C:Λ)(us:List ω)(c:List (Str×ω)):bA k (A.under (.builtin "type.__call__" ⟨.ref C::us,c⟩)):=⟨r.hd,by have:=r.dp;rw[Ua];lia,by have:=r.un;rw[Ub];lia⟩
theorem bA.depth{k:Nat}{A:Around}(r:bA k A):A.depth<recursionLimit:=by have:=r.dp;lia
theorem bA.units{k:Nat}{A:Around}(r:bA k A):A.units+64<cLine:=by have:=r.un;lia
def HN:TA:=λ_ H Q=>Q [] H
def Uc(d:TE)(e:TA):TA:=λc H Q=>d c H λx f=>e c f λxs H2=>Q (x::xs) H2
section
variable {X:Cx}{e:Expr}{es:List Expr}{te:TE}{t:TA}{pos:Pos}
def eT:PA X [] HN:=λ_ _ _ _ H Q I h=>Zwi ⟨[],H,I,.nil,h⟩
theorem ed(f:PE X e te)(hr:PA X es t)(hs:bq (e::es) X.env=(bi,eval e X.env)::bq es X.env:=by rfl):PA X (e::es) (Uc te t):=by intro pos c s d H Q I h;rw[hs];show wpAny _ _ (spliced ((bi,eval e X.env)::dW pos (bq es X.env))) _ _ s;refine Zwj (aL (f c s d H _ I h) λu g z=>ay z λx i j m p=>?_);exact aL (hr pos c g d i _ j p) λus w z=>ay z λxs H2 q r v=>⟨x::xs,H2,q,.cons m r,v⟩
def Ud(t:TA):TE:=λd H Q=>t d H λxs c=>xs.length<=aA/\∀p,c p=am->Q (.ref p) (upd c p (.tup xs))
def Ue(t:TA):TE:=λd H Q=>t d H λxs c=>xs.length<=aA/\∀p,c p=am->Q (.ref p) (upd c p (.lst xs))
theorem HQ(h:PA X es t):PE X (.Tuple es x1 pos) (Ud t):=by intro c s i H Q I y;refine wpAny_Tuple_spliced (aL (h pos c s i H _ I y) λus d y=>bV y λxs f g r z q=>⟨by rw[<-r.length];exact z,?_⟩);have j:f d.heap.objs.size=am:=g.aV.fresh (a9 _);refine⟨.ref d.heap.objs.size,upd f d.heap.objs.size (.tup xs),g.laid (t':=d.toks) (λb u e=>cO _ e) (a9 _) ?_,W,q _ j⟩;exact⟨z,us,r,⟨_,eo _ W,W,_,W⟩⟩
theorem u7(h:PA X es t):PE X (.List es pos) (Ue t):=by intro c s i H Q I y;refine wpAny_List_spliced (aL (h pos c s i H _ I y) λus d y=>bV y λxs f g r z q=>⟨by rw[<-r.length];exact z,?_⟩);have j:f d.heap.objs.size=am:=g.aV.fresh (a9 _);refine⟨.ref d.heap.objs.size,upd f d.heap.objs.size (.lst xs),g.laid (t':=d.toks) (λb u e=>cO _ e) (a9 _) ?_,W,q _ j⟩;exact⟨z,us,0,r,eo _ W⟩
end
abbrev Sp:=List V->Hp->VK->XK->Prop
abbrev lG:=List Env->Hp->ψ->XK->Zab
structure qk(P:a8)(w:World)(K:au)(mg:Zac)(base:Heap)(A:Around)(outer:List Env)(s:ψ)(H:Hp):Prop where
 frames:A.frames=Z outer
 mod:Mod K mg base
 bs:∀b o,base.get? b=Z o->s.heap.get? b=Z o/\H b=am
 nj:base.objs.size<=s.heap.objs.size
 jZ:s.heap.FunFrames base outer
 oK:∀b∈kC outer,H b=am
 aV:dE P w H s.heap
 bare:pS s.gens
def CE(c:List Env)(P:a8)(w:World)(H:Hp)(s:ψ)(Q:VK)(u:ω)(s':ψ):Prop:=∃v H',s'.os=s.os/\pS s'.gens/\Un (kC c) [] H H' s.heap s'.heap/\dE P w H' s'.heap/\RelV v u/\Q v H'
def CR(CX:lG)(c:List Env)(P:a8)(w:World)(H:Hp)(s:ψ)(Q:VK)(E:XK)(r:Result)(s':ψ):Prop:=match r with|.ok (.ret u)=>CE c P w H s Q u s'|.ok _=>False|.error e=>CX c H s E e s'
structure cP(P:a8)(w:World)(K:au)(mg:Zac)(base:Heap)(CX:lG)(k:Nat)(f:Λ)(fd:dt)(ps:List Str)(sp:Sp):Prop where
 len:∀vs H Q E,sp vs H Q E->vs.length=ps.length
 run:∀(A:Around)(outer:List Env)(s:ψ)(H:Hp)(args:Args)(us:List ω)(vs:List V)(Q:VK)(E:XK),bA k A->qk P w K mg base A outer s H->AS s fd args (ps.zip us)->Vals vs us->sp vs H Q E-> uu (model P w) A (.call (.ref f) args) (CR CX outer P w H s Q E) s
def cP.imp{P:a8}{w:World}{K:au}{e:Zac}{base:Heap}{CX:lG}{k:Nat}{f:Λ}{g:dt}{ps:List Str}{sp d:Sp}(F:cP P w K e base CX k f g ps sp) (h:∀vs H Q E,d vs H Q E->sp vs H Q E):cP P w K e base CX k f g ps d:=⟨λvs H Q E q=>F.len vs H Q E (h _ _ _ _ q),λA c s H args us vs Q E hr i j m hs=>F.run A c s H args us vs Q E hr i j m (h _ _ _ _ hs)⟩
def qk.make{P:a8}{w:World}{K:au}{d:Zac}{base:Heap}{A:Around}{c:List Env}{s:ψ}(e:qk P w K d base A c s H)(C:Λ)(us:List ω)(f:List (Str×ω)):qk P w K d base (A.under (.builtin "type.__call__" ⟨.ref C::us,f⟩)) c s H:=⟨by first|exact e.frames|(simpa [Qt,Code.envs,Qu,pushEnvs]using e.frames),e.mod,e.bs,e.nj,e.jZ,e.oK,e.aV,e.bare⟩
section
variable {X:Cx}{π:Zaa}{σ:St}{H:Hp}{s s':ψ}
def Inv.HR(I:Inv X π σ H s):qk X.prog X.w X.K X.mg X.base X.A X.stack s H:=⟨I.ok.frames,I.ok.mod,I.bs,c3 I.ok.nj I.sz,I.stack,I.Hf,I.aV,I.bare⟩
def Inv.after(I:Inv X π σ H s)(h:CE X.stack X.prog X.w H s Q u s'):EP X π σ Q u s':=by refine cv h λv H' os c un e y=>aM y λr q=>?_;clear h y;obtain⟨i,g,d,t,f⟩:=s';obtain rfl:f=s.os:=os;exact⟨v,H',I.call (h':=i) (g':=g) (d':=d) (t':=t) (ch:=[]) un e c (λb z=>absurd z (by exact nofun)),r,q⟩
end
def Ug(sp:Sp)(c:List V)(E:XK)(t:TA):TE:=λd H Q=>t d H λvs e=>sp (vs++c) e Q E
def HS(C:Λ)(m:Str)(sp:Sp)(c:List V)(E:XK)(f:TE)(t:TA):TE:=λd H Q=>f d H λx e=>∃a g fs,x=.ref a/\e a=Z (.ins C g fs)/\fs.lookup m=am∧ t d e λvs H2=>sp (x::(vs++c)) H2 Q E
def i8(K:au)(c:dt)(ps:List Str)(ds:List ω):Prop:=∀(s:ψ)(us:List ω),K.In s.heap->(us++ds).length=ps.length->AS s c ⟨us,[]⟩ (ps.zip (us++ds))
def i8.all{K:au}{c:dt}{ps:List Str}(h:∀us:List ω,us.length=ps.length->AU c ⟨us,[]⟩=pure (ps.zip us)):i8 K c ps []:=λs us _ d=>by rw[eS]at d⊢;exact .of_eq (h us d)
def rY(CX:lG)(X:Cx)(E:XK):Prop:=∀(c:Zaa)(d:St)(H:Hp)(s:ψ)(e:ω)(s':ψ),Inv X c d H s->CX X.stack H s E e s'->X.xe e s'
section
variable {X:Cx}{CX:lG}{k:Nat}{f C:Λ}{fd:dt}{ps:List Str}{sp:Sp}{j8:List V}{ds:List ω}{E:XK}{x m:Str}{p pos apos:Pos}{e o:Expr}{es:List Expr}{ta:TE}{t:TA}
theorem u9(F:cP X.prog X.w X.K X.mg X.base CX k f fd ps sp)(hr:bA k X.A)(i:i8 X.K fd ps ds)(j:Vals j8 ds)(q:rY CX X E)(I:Inv X c d H s)(r:Vals vs us)(h:sp (vs++j8) H Q E):wpAny 'd' X.A (call (.ref f) us) (EP X c d Q) X.xe s:=by
 have g:Vals (vs++j8) (us++ds):=r.append j;have v:(us++ds).length=ps.length:=by rw[<-g.length];exact F.len _ _ _ _ h
 refine wpAny_call (AV (F.run X.A X.stack s H ⟨us,[]⟩ (us++ds) (vs++j8) Q E hr I.HR (i s us I.eN v) g h) λr s' z=>?_);cases r with|error e=>exact q c d H s e s' I z|ok fl=>cases fl with|ret u=>exact I.after z|next=>exact dX z|brk=>exact dX z|cont=>exact dX z
def Uh(F:cP X.prog X.w X.K X.mg X.base CX k f fd ps sp)(hr:bA k X.A)(j:Gl X x)(u:X.mg x=Z (.ref f))(v:ma X.K (.ref f)=be)(y:i8 X.K fd ps ds)(B:Vals j8 ds)(J:rY CX X E) (L:PA X (e::es) t) (d:'f'=bi:=by decide) (M:bq (e::es) X.env=(bi,eval e X.env)::bq es X.env:=by rfl) (g:(dW pos (bq es X.env)).any (·.1)=bi:=by rfl):PE X 'p' (Ug sp j8 E t):=by intro c s N H Q I h;refine wpAny_Call_Name_kw (xO I j u ?_ d);refine AW (h₀:=X.base) I.ok.mod.qc v (aL (L pos c s N H _ I h) λus O z=>ay z λvs T i r q=>⟨i.eN,?_⟩) M g;exact u9 F hr y B J i r q
def Ui(N:PE X o ta)(c:eO X.K C)(j:Meth X.K C m f)(F:cP X.prog X.w X.K X.mg X.base CX k f fd ps sp)(hr:bA k X.A)(O:i8 X.K fd ps ds)(T:Vals j8 ds)(U:rY CX X E)(Y:PA X (e::es) t)(g:bq (e::es) X.env=(bi,eval e X.env)::bq es X.env:=by rfl)(i:(dW pos (bq es X.env)).any (·.1)=bi:=by rfl)(ht:eval 'A' X.env=(do
   let B<-eval o X.env
   standAt apos.atName;let (f,first)<-holding [B] (m7 B m pl)
   pV pos f first (dW pos (bq (e::es) X.env)) (me pos (mf [] X.env))):=by rfl):PE X 'A' (HS C m sp j8 E ta t):=by intro d s J H Q I h;refine Qw (pl:=pl) (aL (N d s J H _ I h) λu s1 z=>ay z λx H1 L rx y=>aS y λa dx fs ex ea v=>aM v λl q=>?_) ht;subst ex;obtain rfl:u=cN a:=rx;refine BH L ea c j l<|AW (first:=[.ref a]) (h₀:=X.base) I.ok.mod.qc j.kp (aL (Y pos d s1 J H1 _ L q) λus s2 z=>ay z λvs H2 M r q2=>⟨M.eN,?_⟩) g i;exact u9 (us:=.ref a::us) (vs:=.ref a::vs) F hr O T U M (.cons W r) q2
theorem Uj(r:PE X o ta)(c:eO X.K C)(i:Meth X.K C m f)(F:cP X.prog X.w X.K X.mg X.base CX k f fd ps sp)(hr:bA k X.A)(v:i8 X.K fd ps ds)(B:Vals j8 ds)(J:rY CX X E)(L:eval (.Call (.Attribute o m apos) [] [] pos) X.env=(do
   let j<-eval o X.env
   standAt apos.atName;let (f,first)<-holding [j] (m7 j m pl)
   pV pos f first (dW pos (bq [] X.env)) (me pos (mf [] X.env))):=by rfl):PE X (.Call (.Attribute o m apos) [] [] pos) (HS C m sp j8 E ta HN):=by intro d s M H Q I h;refine Qw (pl:=pl) (aL (r d s M H _ I h) λu U z=>ay z λx Y g N y=>aS y λa dx fs O T t=>aM t λl q=>?_) L;subst O;obtain rfl:u=cN a:=N;exact BH g T c i l<|PySem.W.callWith_K0 (first:=[.ref a]) g.eN i.kp (u9 (us:=[.ref a]) (vs:=[.ref a]) F hr v B J g (.cons W .nil) q)
structure Mk(K:au)(C f:Λ):Prop where
 makes:Qs K C=be
 init:lu K (.ref C) "__init__"=Z (Z (.ref f))
 fn:AQ K (.ref f)=be
 kp:ma K (.ref C)=be
theorem Uk(M:Mk X.K C f)(F:cP X.prog X.w X.K X.mg X.base CX k f fd ps sp)(hr:bA (k+1) X.A)(y:i8 X.K fd ps ds)(B:Vals j8 ds)(J:rY CX X E)(I:Inv X c j H s)(r:Vals vs us)(h:∀x g,H x=am->H g=am->g≠x->sp (.ref x::(vs++j8)) (upd (upd H g (.own x)) x (.ins C g [])) (λv H2=>v=.aD/\Q (.ref x) H2) E):wpAny 'd' X.A (call (.ref C) us) (EP X c j Q) X.xe s:=by
 have z:=h 'n' s.heap.objs.size (I.aV.fresh (jC _)) (I.aV.fresh (a9 _)) (df (uz _));have i:=Inv.made (C:=C) I;have q:Vals (V.ref 'n'::(vs++j8)) (cN 'n'::(us++ds)):=.cons W (r.append B);have L:(cN 'n'::us++ds).length=ps.length:=by have e:=q.length;rw[F.len _ _ _ _ z]at e;exact e.symm
 refine wpAny_call (TY (f:=f) I.eN M.makes M.init (beq_iff_eq.mp M.fn) (AV (F.run _ X.stack _ _ ⟨cN 'n'::us,[]⟩ (cN 'n'::(us++ds)) _ _ E (hr.make C us []) (i.HR.make C us []) (y _ (cN 'n'::us) i.eN L) q z) λr s' d=>?_));cases r with|error e=>exact J c j _ _ e s' i d|ok fl=>cases fl with|ret u=>refine bV (i.after d) λv H' N O ev T=>?_;subst ev;exact⟨O,⟨V.ref 'n',H',N,W,T⟩⟩|next=>exact dX d|brk=>exact dX d|cont=>exact dX d
end
structure nq(N P:List Str)(sc:Scope):Prop where
 kind:sc.kind=.function
 co:sc.isCoroutine=bi
 gen:sc.isGenerator=bi
 nd:N.Nodup
 pre:N.take P.length=P
 par:∀x∈P,sc.names.lookup x=Z .local\/sc.names.lookup x=Z .cell
 Ul:∀y∈sc.names,y.2≠ .free
theorem HV{kindOf:Str->Option xc}{x:Str}:∀{binds:List (Str×ω)}{m:Zac},(∀v,(x,v)∉binds)->bindL kindOf binds m x=m x
  |[],_,_=>rfl|(n,v)::r,m,h=>by
    unfold bindL;rw[HV λw hw=>h w (b8 _ hw)];split;·grind
    ·rfl
theorem HW{kindOf:Str->Option xc}{x:Str}:∀{binds:List (Str×ω)}{m:Zac},(∀v,(x,v)∉binds)->bindC kindOf binds m x=m x
  |[],_,_=>rfl|(n,v)::r,m,h=>by
    unfold bindC;rw[HW λw hw=>h w (b8 _ hw)];split;·rfl
    grind
theorem HY{kindOf:Str->Option xc}{x:Str}{v:ω}:∀{P:List Str}{vs:List ω}{i:Nat}{m:Zac},P.Nodup->P[i]?=Z x->vs[i]?=Z v->kindOf x=Z .local-> bindL kindOf (P.zip vs) m x=Z v|[],_,_,_,_,h,_,_=>by simp at h|_::_,[],_,_,_,_,h,_=>by simp at h|p::P,w::vs,0,m,nd,c,d,e=>by simp at c d;subst c;subst d;show bindL kindOf ((p,w)::P.zip vs) m p=_;unfold bindL;rw[HV λv f=>(d8.mp nd).1 (rz f).1,if_pos e];simp|p::P,w::vs,i+1,m,nd,c,d,e=>by show bindL kindOf ((p,w)::P.zip vs) m x=_;unfold bindL;exact HY (i:=i) (d8.mp nd).2 (by simpa using c) (by simpa using d) e
theorem HZ{kindOf:Str->Option xc}{x:Str}{v:ω}:∀{P:List Str}{vs:List ω}{i:Nat}{m:Zac},P.Nodup->P[i]?=Z x->vs[i]?=Z v->kindOf x≠Z .local-> bindC kindOf (P.zip vs) m x=Z v|[],_,_,_,_,h,_,_=>by simp at h|_::_,[],_,_,_,_,h,_=>by simp at h|p::P,w::vs,0,m,nd,c,d,e=>by simp at c d;subst c;subst d;show bindC kindOf ((p,w)::P.zip vs) m p=_;unfold bindC;rw[HW λv f=>(d8.mp nd).1 (rz f).1,if_neg e];simp|p::P,w::vs,i+1,m,nd,c,d,e=>by show bindC kindOf ((p,w)::P.zip vs) m x=_;unfold bindC;exact HZ (i:=i) (d8.mp nd).2 (by simpa using c) (by simpa using d) e
noncomputable def start(N:List Str)(vs:List V):St:=vs.map Z++lx (N.length-vs.length) am
noncomputable def i_(CX:lG)(P:a8)(w:World)(K:au)(mg:Zac)(base:Heap)(N:List Str)(d:Str)(c:Scope)(f:Λ)(h:ω)(A:Around)(outer:List Env)(s:ψ)(H:Hp)(E:XK):Cx where
 prog:=P
 w:=w
 K:=K
 mg:=mg
 base:=base
 A:=A.deeper (iH d c s.heap.objs.size f h)
 N:=N
 d_:=s
 kB:=H
 env:=iH d c s.heap.objs.size f h
 outer:=outer
 stack:=iH d c s.heap.objs.size f h::outer
 ex:=[]
 calm:=be
 fn:=λ_=>be
 pn:=[]
 xe:=λe s'=>wpAny (model P w) (A.deeper (iH d c s.heap.objs.size f h)) (leaving (iH d c s.heap.objs.size f h) e) (λ_ g=>CX outer H s E e g) (λi g=>CX outer H s E i g) s'
def H_{sc:Scope}{n:Nat}(h:sc.names.lookup x=Z .cell):∃c,(cellsFrom n sc.names []).lookup x=Z c:=by have q:=Zwk sc.names n [] (.inl h);exact xf.mp q
def Um{CX:lG}{P:a8}{w:World}{K:au}{M:Zac}{base:Heap}{N ps:List Str}{j:Str}{d:Scope}{f:Λ}{J:ω}{A:Around}{g:List Env}{s T:ψ}{H:Hp}{E:XK}{us:List ω}{vs:List V} (S:nq N ps d) (hd:A.handled=am) (m:qk P w K M base A g s H) (hl:vs.length=ps.length) (r:Vals vs us) (x:InCallC s s.heap.objs.size (bindL (iH j d s.heap.objs.size f J).kindOf (ps.zip us) λ_=>am) (cellsFrom 'n' d.names []) (bindC (iH j d s.heap.objs.size f J).kindOf (ps.zip us) λ_=>am) T):Inv (i_ CX P w K M base N j d f J A g s H E) [] (start N vs) H T:=by
 have xW:ps.length<=N.length:=by have:=congrArg uB S.pre;rw[ly]at this;lia
 refine cA x.done λL tk O U=>?_;subst O;have t:∀b:Λ,b∉(i_ CX P w K M base N j d f J A g s H E).ex:=λb z=>absurd (show b∈([]:List Λ) from z) (by exact nofun);refine⟨⟨m.mod,S.kind,W,W,a9 _,λy z c L B=>?_,λy hy=>?_,λy c _ h=>?_,λ_=>hd,Around.frames_deeper m.frames,.inr ⟨W,W⟩,λb z=>absurd z (t b),m.bs,m.nj,λb _ _=>t b,λb z=>absurd z (t b),m.jZ,m.oK⟩,
  rfl,m.bare,Un.kept U,⟨_,x.toInCall.ns,λi y v L B h3=>?_⟩,λy c h=>⟨_,x.cell y c h⟩,m.aV.fresh (a9 _),λy c h=>?_,λp C=>absurd (show p∈([]:Zaa) from C) 'o',m.aV.kept U,?_⟩;·exact name_of_addr x.apart (AX L) (AX B)
 ·have hy:d.names.lookup y=Z .cell\/d.names.lookup y=Z .free:=hy;rcases hy with hy|hy;·exact H_ hy
  ·exact absurd W (S.Ul _ (AX hy))
 ·exact gK (x.above y c (AX h))
 ·have Q:i<vs.length:=by
   unfold start at B;by_cases Q:i<vs.length
   ·exact Q
   ·grind
  have ha:vs[i]?=Z v:=by
   unfold start at B;rw[gL (by simpa using Q),bJ]at B;cases e:vs[i]? with|none=>simp_all|some a=>simp_all
  obtain⟨u,Y,rv⟩:=r.get ha;have C:ps[i]?=Z y:=by rw[<-S.pre,List.getElem?_take_of_lt 'c'];exact L
  have I:ps.Nodup:=by rw[<-S.pre];exact S.nd.sublist (List.take_sublist _ _)
  refine⟨u,rv,?_⟩;rcases S.par y (cu C)with k|k
  ·exact .inl ⟨k,HY I C Y k⟩
  ·obtain⟨c,e⟩:=H_ (n:=s.heap.objs.size+1) k;refine .inr ⟨.inl k,c,e,?_⟩;have q:=x.cell y c e;rw[HZ I C Y (by show d.names.lookup y≠_;grind)]at q;exact q
 ·exact m.aV.fresh (gK (x.above y c (AX h)))
 ·unfold start;show _=N.length;simp_all
def Uo{K:au}{k:Nat}{body:List Stmt}{kV:ω} {ps:List Str} (lk:K.lookup f=Z ⟨oc,od,.func (mh name g i body c dV kV doc pm an h ct),O⟩) (T:xg K h g=be) (S:nq N ps c) (len:∀vs H Q E,sp vs H Q E->vs.length=ps.length) (m:∀(A:Around)(d:List Env)(s:ψ)(H:Hp)(vs:List V)(Q:VK)(E:XK),bA k (A.deeper (iH g c s.heap.objs.size f h))->sp vs H Q E-> ∃t,gr (i_ CX P w K M base N g c f h A d s H E) body t/\t {nx:=λ_ H'=>Q .aD H',rt:=Q} (start N vs) H):cP P w K M base CX (k+1) f (mh name g i body c dV kV doc pm an h ct) ps sp:=by
 refine⟨len,λA d s H args us vs Q E hr B hb r C=>?_⟩;have hl:=len _ _ _ _ C;have KX:K.In s.heap:=B.mod.qc.keeps λb o e=>(B.bs b o e).1;have U:s.heap.NoLimit:=B.mod.nolimit.keeps λb o e=>(B.bs b o e).1;have p:∀y∈ps.zip us,c.names.lookup y.1=Z .local\/(c.names.lookup y.1=Z .cell/\((cellsFrom 'n' c.names []).lookup y.1).isSome=be):=λ⟨n,v⟩ hy=>by
  rcases S.par n (rz hy).1 with q|q;·exact .inl q
  ·exact .inr ⟨q,Zwk _ _ _ (.inl q)⟩
 refine codeAny_call_function hr.depth (KX _ _ lk) W S.co S.gen W (PySem.W.codeRec_of KX T) (hb _ _ _ _ ?_);refine wpAny_newFunctionEnv_cells S.kind p λenv he s1 x=>?_;subst he;refine⟨U.keeps x.toInCall.keep,codeAny_func ?_⟩;obtain⟨t,ht,z⟩:=m A d s H vs Q E (hr.deeper _) C;have I:Inv (i_ CX P w K M base N g c f h A d s H E) [] (start N vs) H s1:=Um S hr.hd B hl r x;refine lq (ht [] s1 (start N vs) H _ I z) (λfl s' hs=>?_) λe s' hs=>hs;have L:∀{j:St}{H':Hp}{v:V}{u:ω},Inv (i_ CX P w K M base N g c f h A d s H E) [] j H' s'->RelV v u->Q v H'->CE d P w H s Q u s':=λ{j H' v u} J Y q=>⟨v,H',J.os,J.bare,J.base,J.aV,Y,q⟩;cases fl with|ret u=>refine aS hs λv j H' J Y q=>?_;clear hs;exact L J Y q|next=>refine cA hs λj H' J q=>?_;clear hs;exact L (v:=V.aD) (u:=eJ) J W q|brk=>refine cA hs λ_ _ _ q=>?_;clear hs;simp_all|cont=>refine cA hs λ_ _ _ q=>?_;clear hs;simp_all
section
variable {X:Cx}{x:Str}{p pos:Pos}{e:Expr}{es:List Expr}{t:TA}{id T:String}{r:List V->Hp->VK->Prop}
def Ia(r:List V->Hp->VK->Prop)(t:TA):TE:=λc H Q=>t c H λvs d=>r vs d Q
def Ib(i:mC X (.builtin id) r)(j:Gl X x)(m:X.mg x=am)(q:gy x=Z (.builtin id))(u:PA X (e::es) t)(hn:x≠"__name__":=by decide)(d:'f'=bi:=by decide) (v:bq (e::es) X.env=(bi,eval e X.env)::bq es X.env:=by rfl) (f:(dW pos (bq es X.env)).any (·.1)=bi:=by rfl):PE X 'p' (Ia r t):=by intro c s g H Q I h;refine wpAny_Call_Name_kw (oM I j m q ?_ hn d);exact ZyB (aL (u pos c s g H _ I h) λus w z=>ay z λvs y A B C=>i c w g y vs us Q A B C) v f
def Ic(i:mC X (.type T) r)(j:Gl X x)(m:X.mg x=am)(q:gy x=Z (.type T))(u:PA X (e::es) t)(hn:x≠"__name__":=by decide)(d:'f'=bi:=by decide) (v:bq (e::es) X.env=(bi,eval e X.env)::bq es X.env:=by rfl) (f:(dW pos (bq es X.env)).any (·.1)=bi:=by rfl):PE X 'p' (Ia r t):=by intro c s g H Q I h;refine wpAny_Call_Name_kw (oM I j m q ?_ hn d);exact xa (aL (u pos c s g H _ I h) λus w z=>ay z λvs y A B C=>i c w g y vs us Q A B C) v f
end
end L2
namespace HT
open PySem PyProof.Rows
section
open PySem.SeqAt
open PySem.AutoSeq1 (wpAny_loadPart')
open PySem.MeetsSeq PySem.MeetsSeq2 PySem.MeetsSeq3
end
section
variable {prog:a8}{w:World}{A:Around}{E:Zab}{s:ψ}
def Up{vs ws:List ω}(u:IsTup s.heap t vs.toArray)(v:IsTup s.heap b ws.toArray)(z:vs≠[])(x:ws=[]->Q (.ref t) s)(y:ws≠[]->Q (.ref s.heap.objs.size) {s with heap:=s.heap.push {cls:=.type "tuple",data:=.seq (vs++ws).toArray}})(hsz:vs.length+ws.length<=aA):wpAny 'j' A (hV .Add (.ref t) (.ref b)) Q E s:=by
 obtain⟨⟨cls,j,data,m⟩,i,p,n,q⟩:=id u;obtain⟨⟨r,d,data2,f⟩,c,g,n2,h⟩:=id v;simp only at p q g h;subst p q g h;have e:vs.toArray++ws.toArray=(vs++ws).toArray:=by simp
 by_cases hw:ws=[]
 ·exact Qx ⟨_,i,W⟩ ⟨_,c,W⟩ Qy Qz QA QB (QC _ _) (tuple_addW1 t b vs.toArray ws.toArray n n2 j d m f 'm' (by simp[hw])) ⟨i,c,x hw⟩
 ·refine Qx ⟨_,i,W⟩ ⟨_,c,W⟩ Qy Qz QA QB (QC _ _) (tuple_addW2 t b vs.toArray ws.toArray n n2 j d m f 'm' 'm' (by omega)) ⟨i,c,?_⟩;rw[e];exact y hw
noncomputable def ba(n d:Nat):Option Int->Nat|none=>d|some v=>if v<0 then(v+(n:Int)).toNat else min v.toNat n
def BI(n d:Nat)(c:d<=n)(o:Option Int):ba n d o<=n:=by cases o with|none=>exact c|some v=>show(if v<0 then(v+(n:Int)).toNat else min v.toNat n)<=n;lia
theorem BJ(v:Int)(n d:Nat):(if v<0 then max (v+(n:Int)) 0 else min v (n:Int))=((ba n d (Z v):Nat):Int):=by show(if v<0 then max (v+(n:Int)) 0 else min v (n:Int))=(((if v<0 then(v+(n:Int)).toNat else min v.toNat n):Nat):Int);grind
theorem Uq(lo c:Option Int)(n:Nat):QD lo c 1 (n:Int)=(((ba n 0 lo:Nat):Int),((ba n n c:Nat):Int)):=by
 have d:¬((1:Int)<0):=by decide
 unfold QD;simp only[d,if_false];refine Prod.ext ?_ ?_;·cases lo with|none=>rfl|some v=>exact BJ v n 0
 ·cases c with|none=>rfl|some v=>exact BJ v n n
theorem Ur(i j:Nat):Gg (i:Int) (j:Int) 1=j-i:=by unfold Gg;lia
def Ie(p:IsPart v o)(h:Q o s):wpAny 'j' A (ZyC v) Q E s:=by induction p using Gh with|none=>exact slicePart_none h|int i t=>exact slicePart_int h
def Ig{i:Λ}{f g:ω}{lo c:Option Int}{n:Nat}{Q:Int×Int×Nat->ψ->Prop}(hs:s.heap.IsSliceOf i f g .none)(pl:IsPart f lo)(j:IsPart g c) (h:Q (((ba n 0 lo:Nat):Int),1,ba n n c-ba n 0 lo) s):wpAny 'j' A (Zwl (.ref i) (pure (n:Int))) Q E s:=by refine aJ (id hs) λos d m e=>?_;unfold Zwl ZyD;refine υ (υ (rA d e (x:=f) W (υ (rA d e (x:=g) W (υ (rA d e (x:=.none) W (χ ?_)))))));refine υ (slicePart_none ?_);show wpAny _ _ (if((1:Int)==0)=be then _ else _) _ _ s;rw[if_neg 'b'];refine υ (Ie pl (υ (Ie j (υ (χ ?_)))));show wpAny _ _ (match QD lo c 1 (n:Int)with|(lo,c)=>pure (lo,(1:Int),Gg lo c 1)) _ _ s;rw[Uq lo c n];show wpAny _ _ (pure (((ba n 0 lo:Nat):Int),(1:Int),Gg ((ba n 0 lo:Nat):Int) ((ba n n c:Nat):Int) 1)) _ _ s;rw[Ur];exact χ h
theorem Us(xs:Array ω)(i k:Nat):((gd k).filterMap λ(m:Nat)=>xs[((i:Int)+(m:Int)*1).toNat]?).toArray=((xs.toList.drop i).take k).toArray:=by
 have e:(λ(m:Nat)=>xs[((i:Int)+(m:Int)*1).toNat]?)=λm=>xs[i+m]?:=by
  funext m;have:((i:Int)+(m:Int)*1).toNat=i+m:=by lia
  rw[this]
 rw[e];have:=pick_run xs i k;rw[Zwm]at this;have c:((λx=>xs[x]?)∘λx=>i+x)=λm=>xs[i+m]?:=rfl;rw[c]at this;rw[this]
def Ut{t g:Λ}{c:Array ω}{u v:ω}{lo e:Option Int}{Q:Zab}(f:IsTup s.heap t c)(hs:s.heap.IsSliceOf g u v .none)(pl:IsPart u lo)(x:IsPart v e) (hw:¬(ba c.size 0 lo=0/\ba c.size c.size e=c.size)) (h:Q (.ref s.heap.objs.size) {s with heap:=s.heap.push {cls:=.type "tuple",data:=.seq ((c.toList.drop (ba c.size 0 lo)).take (ba c.size c.size e-ba c.size 0 lo)).toArray}}) (hsz:c.size<=aA):wpAny 'j' A (mi (.ref t) (.ref g)) Q E s:=by
 have d:sizeOk (.seq ((c.toList.drop (ba c.size 0 lo)).take (ba c.size c.size e-ba c.size 0 lo)).toArray):=by show((c.toList.drop (ba c.size 0 lo)).take (ba c.size c.size e-ba c.size 0 lo)).toArray.size<=aA;rw[dY,ly,AY,oE];omega
 have z:ba c.size c.size e<=c.size:=BI _ _ (a9 _) e;refine aJ (id hs) λos i j y=>?_;have p:s.TypeIs (.ref g) "slice":=⟨os,i,j⟩;unfold mi;try with_reducible refine wpAny_holding ?_
 first|refine υ (χ ?_)|skip
 refine υ (QE f.typeIs (by exact W) ?_);refine υ (uC (name:=AZ "__getitem__") f.typeIs xh (mj xh f.typeIs Zwn ?_ (Zwo _ _)));show wpAny _ _ (QF (.ref t)>>=_) _ _ s;refine υ (tupleItemsOf_ f ?_);refine υ (A0 p ?_);rw[if_pos (by exact W)];refine υ (Ig hs pl x ?_);have r:¬((((ba c.size 0 lo:Nat):Int)==0&&(1:Int)==1&&(ba c.size c.size e-ba c.size 0 lo)==c.size)=be):=by intro q;rw[cV,cV]at q;have B:((ba c.size 0 lo:Nat):Int)=0:=eq_of_beq q.1.1;have C:ba c.size c.size e-ba c.size 0 lo=c.size:=eq_of_beq q.2;exact hw ⟨by lia,by omega⟩
 show wpAny _ _ (if(((ba c.size 0 lo:Nat):Int)==0&&(1:Int)==1&&(ba c.size c.size e-ba c.size 0 lo)==c.size)=be then _ else _) _ _ s;rw[if_neg r,Us];first|exact υ (m:=xj _) (wpAny_newObj_type (χ ⟨_,W,χ h⟩) d)|exact υ (m:=xj _) (wpAny_newObj_type (υ (χ (χ ⟨_,W,χ h⟩))) d)|exact υ (υ (m:=xj _) (wpAny_newObj_type (χ (χ ⟨_,W,χ h⟩)) d))|exact υ (υ (m:=xj _) (wpAny_newObj_type (χ ⟨_,W,χ h⟩) d))
end
end HT
namespace L2
open PySem PySem.Spec PyProof.Rows
abbrev TO:=St->Hp->(Option Int->Hp->Prop)->Prop
def PO(X:Cx)(e:Option Expr)(t:TO):Prop:=∀(c:Zaa)(s:ψ)(d:St)(H:Hp)(Q:Option Int->Hp->Prop),Inv X c d H s->t d H Q-> wpAny 'd' X.A (evalPart e X.env) (λu s'=>∃o H',Inv X c d H' s'/\IsPart u o/\Q o H') X.xe s
def Uu:TO:=λ_ H Q=>Q am H
def Uv(t:TE):TO:=λc H Q=>t c H λx d=>∃i,x=.int i/\Q (Z i) d
section
variable {X:Cx}{e:Expr}{te:TE}{lo hi:Option Expr}{tl th:TO}{pos p2:Pos}
def Uw:PO X am Uu:=by intro c s d H Q I h;rw[evalPart_none];exact χ ⟨am,H,I,.none,h⟩
def Ux(h:PE X e te):PO X (Z e) (Uv te):=by intro c s d H Q I hw;rw[evalPart_some];refine aL (h c s d H _ I hw) λu p z=>ay z λx f g j m=>?_;obtain⟨i,rfl,q⟩:=m;obtain⟨t,rfl⟩:=j;exact⟨Z i,f,g,.int i t,q⟩
def nt(X:Cx)(r:V->Option Int->Option Int->Hp->VK->Prop):Prop:=∀(c:Zaa)(s:ψ)(d:St)(H:Hp)(x:V)(v f g:ω)(lo hi:Option Int)(h:Λ)(Q:VK),Inv X c d H s->RelV x v->s.heap.IsSliceOf h f g .none->IsPart f lo->IsPart g hi->r x lo hi H Q-> ∃T id,Gi (.type T) "__getitem__"=pure (Z (.builtin id))/\s.TypeIs v T/\wpAny 'd' X.A (mi v (.ref h)) (EP X c d Q) X.xe s
def nt.or(h:nt X r)(h':nt X r'):nt X (λx lo hi H Q=>r x lo hi H Q\/r' x lo hi H Q):=by
 intro c s d H x v f g lo hi i Q I j hs pl m q;rcases q with q|q;·exact h c s d H x v f g lo hi i Q I j hs pl m q
 ·exact h' c s d H x v f g lo hi i Q I j hs pl m q
def Uy(r:V->Option Int->Option Int->Hp->VK->Prop)(te:TE)(tl th:TO):TE:=λc H Q=>te c H λx d=>tl c d λl H2=>th c H2 λu f=>r x l u f Q
def Uz(hr:nt X r)(m:PE X e te)(p:PO X lo tl)(t:PO X hi th):PE X (.Subscript e (.Slice lo hi am p2) pos) (Uy r te tl th):=by intro c s f H Q I h;refine Subscript_ (aL (m c s f H _ I h) λv y z=>ay z λx B C E J=>?_);refine wpAny_Slice (aL (p c y f B _ C J) λg L z=>ay z λl H2 M pl N=>aL (t c L f H2 _ M N) λi d z=>ay z λu j O U Y=>?_);rw[evalPart_none];refine χ ?_;have I4:Inv X c f j {d with heap:=d.heap.push {cls:=.type "slice",data:=.fields #[g,i,.none]}}:=O.kept (t':=d.toks) λb ob q=>cO _ q;obtain⟨T,id,hT,ht,hg⟩:=hr c {d with heap:=d.heap.push {cls:=.type "slice",data:=.fields #[g,i,.none]}} f j x v g i l u d.heap.objs.size Q I4 E (ZyE ..) pl U Y;show wpAny 'd' X.A (QG e (.Slice lo hi am p2) v (.ref d.heap.objs.size)) (EP X c f Q) X.xe {d with heap:=d.heap.push {cls:=.type "slice",data:=.fields #[g,i,.none]}};exact tail_any (ops:=[.ref d.heap.objs.size,v]) ht hT hg (by rfl)
def nu(xs:List V)(lo hi:Option Int):List V:=(xs.drop (HT.ba xs.length 0 lo)).take (HT.ba xs.length xs.length hi-HT.ba xs.length 0 lo)
def Ih(xs:List V)(lo hi:Option Int):(nu xs lo hi).length<=xs.length:=by grind[nu,ly,AY]
def UA(K:au):V->Option Int->Option Int->Hp->VK->Prop:=λx lo hi H Q=>∃a xs,x=.ref a/\cX K H a xs∧ ¬(HT.ba xs.length 0 lo=0/\HT.ba xs.length xs.length hi=xs.length)/\∀p,H p=am->Q (.ref p) (upd H p (.tup (nu xs lo hi)))
theorem UB:nt X (UA X.K):=by
 intro f s p H x v t u lo hi w Q I i hs pl j h;refine bV h λa xs c m hw q=>?_;clear h;subst c;cases i;refine aJ (I.tuple m) λd r g hz=>?_;have hlen:d.toArray.size=xs.length:=by rw[dY];exact r.length.symm
 refine⟨"tuple",_,xh.lookup,g.typeIs,?_⟩;refine HT.Ut g hs pl j (by rw[hlen];exact hw) ?_ 'c';rw[hlen];refine⟨.ref s.heap.objs.size,_,I.laid (t':=s.toks) (o:=.tup (nu xs lo hi)) (λb ob q=>cO _ q) (a9 _) ?_,W,q _ (I.aV.fresh (a9 _))⟩;exact⟨c3 (Ih xs lo hi) hz,_,(r.drop (HT.ba xs.length 0 lo)).take (HT.ba xs.length xs.length hi-HT.ba xs.length 0 lo),Gj _ _⟩
def UC(K:au):R2:=λx y H Q=>∃a b xs ys,x=.ref a/\y=.ref b/\cX K H a xs/\cX K H b ys/\xs≠[]/\xs.length+ys.length<=aA∧ (ys=[]->Q (.ref a) H)/\(ys≠[]->∀p,H p=am->Q (.ref p) (upd H p (.tup (xs++ys))))
def Vals.BL(r:Vals xs us):us=[]↔xs=[]:=by induction r using Gd with|nil=>decide|cons _ _=>simp
theorem UD:c7 X (hV .Add) (UC X.K):=by intro i s N H x y v u Q I m r h;refine aU h λa b xs t=>bh t λys d f A p=>jG p λB C hz E J=>?_;clear h t p;subst d;subst f;cases m;cases r;refine aJ (I.tuple A) λL g M _=>aJ (I.tuple B) λj c p2 _=>HT.Up M p2 (λz=>C (g.BL.mp z)) (λz=>⟨.ref a,H,I,W,E (c.BL.mp z)⟩) (λz=>?_) (by rw[<-g.length,<-c.length];exact hz);refine⟨.ref s.heap.objs.size,_,I.laid (t':=s.toks) (o:=.tup (xs++ys)) (λb ob q=>cO _ q) (a9 _) ?_,W,J (λw=>z (c.BL.mpr w)) _ (I.aV.fresh (a9 _))⟩;exact⟨by simp_all,_,g.append c,Gj _ _⟩
end
noncomputable def g9(n:Nat)(i:Int):Option Nat:=if 0<=i then(if i<n then Z i.toNat else am)else if-(n:Int)<=i then Z (i+n).toNat else am
def b4{c:Type}(xs:List c)(i:Int):Option c:=(g9 xs.length i).bind λj=>xs[j]?
theorem Ii{n:Nat}(h:g9 n i=Z j):Gm i n=Z j/\j<n/\ -(n:Int)<=i/\i<n:=by
 unfold g9 at h;by_cases d:0<=i
 ·rw[if_pos d]at h;by_cases c:i<n;·rw[if_pos c]at h;grind[ao,QH]
  simp_all
 ·rw[if_neg d]at h;by_cases c: -(n:Int)<=i;·rw[if_pos c]at h;grind[ao,seqIndex_neg]
  simp_all
def BM{c:Type}{xs:List c}{v:c}(h:b4 xs i=Z v):∃j,Gm i xs.length=Z j/\xs[j]?=Z v/\j<xs.length/\ -(xs.length:Int)<=i/\i<xs.length:=by grind[b4,g9,Ii]
def u_{c:Type}{xs:List c}{j:Nat}{v:c}(h:xs[j]?=Z v):b4 xs (j:Int)=Z v:=by have d:j<xs.length:=(bt.mp h).1;simp_all[g9,if_pos,b4]
def UE(b:Expr):Prop:=∀o i,A1 b bi o i=operate [o,i] (mi o i)
def nv(X:Cx)(r:R2):Prop:=∀(e c:Expr)(d:Zaa)(s:ψ)(f:St)(H:Hp)(x y:V)(v u:ω)(Q:VK),Inv X d f H s->RelV x v->RelV y u->r x y H Q-> A1 c bi v u=operate [v,u] (mi v u)->wpAny 'd' X.A (QG e c v u) (EP X d f Q) X.xe s
def BN(X:Cx)(id:String)(r:V->List V->Hp->VK->Prop):Prop:=∀(c:Zaa)(s:ψ)(d:St)(H:Hp)(x:V)(xs:List V)(v:ω)(us:List ω)(Q:VK),Inv X c d H s->RelV x v->Vals xs us->r x xs H Q-> wpAny 'd' X.A (call (.builtin id) (v::us)) (EP X c d Q) X.xe s
section
variable {X:Cx}{a b:Expr}{ta tb:TE}{pos:Pos}
def nv.or(h:nv X r)(h':nv X r'):nv X (λx y H Q=>r x y H Q\/r' x y H Q):=by
 intro c d e s f H x y v u Q I g i q hs;rcases q with q|q;·exact h c d e s f H x y v u Q I g i q hs
 ·exact h' c d e s f H x y v u Q I g i q hs
def xX(hr:nv X r)(d:PE X a ta)(e:PE X b tb)(hs:UE b):PE X (.Subscript a b pos) (uZ r ta tb):=by intro c s f H Q I h;exact Subscript_ (BB d e I h λv u g x y H2 i j m q=>hr a b c g f H2 x y v u Q i j m q (hs _ _))
def Ij(K:au):R2:=λx y H Q=>∃p xs i v,x=.ref p/\y=.int i/\bX K H p xs/\b4 xs i=Z v/\Q v H
def Ik(K:au):R2:=λx y H Q=>∃p xs i v,x=.ref p/\y=.int i/\cX K H p xs/\b4 xs i=Z v/\Q v H
def Il:R2:=λx y H Q=>∃z i c,x=.str z/\y=.int i/\z.length<=aA/\b4 z.cps.toList i=Z c/\Q (.str ⟨#[c]⟩) H
def BO:nv X (Ij X.K):=by
 intro m A e s M H x y v u Q I T U h hs;refine aU h λp xs i l=>bh l λz B C d c=>aM c λY q=>?_;clear h l c;subst B;subst C;cases T;obtain⟨t,rfl⟩:=U;refine aJ (I.list d) λE r pl hz=>bh (BM Y) λj g h2 h3 l=>aM l λh4 h5=>?_;clear l;obtain⟨w,N,J⟩:=r.get h2;have hl:=r.length;have hn:=qi;have f:EP X e M Q w s:=⟨z,H,I,J,q⟩;by_cases O:0<=i
 ·have L:i.toNat=j:=by rw[QH O h5]at g;exact ao g
  exact item_listR pl.isList O 'c' (by rw[L];simpa using N) f hs
 ·have L:(i+(E.toArray.size:Int)).toNat=j:=by rw[seqIndex_neg 'c' h4]at g;rw[dY,<-hl];exact ao g
  exact Zwp (x:=w) pl.isList.typeIs Zwq.lookup (wpAny_getItem_list_neg (Q:=λr s'=>r=w/\EP X e M Q r s') pl.isList 'c' (by simp_all) 'c' (by rw[L];simpa using N) ⟨W,f⟩) hs
def Im:nv X (Ik X.K):=by intro f g e s E H x y v u Q I J L h hs;refine aU h λp xs i l=>bh l λz m A d c=>aM c λM q=>?_;clear h l c;subst m;subst A;cases J;obtain⟨t,rfl⟩:=L;refine aJ (I.tuple d) λN r pl hz=>bh (BM M) λj T O U l=>aM l λY h5=>?_;clear l;obtain⟨w,ew,B⟩:=r.get O;have hl:=r.length;have hn:=qi;have C:EP X e E Q w s:=⟨z,H,I,B,q⟩;exact Zwp (x:=w) pl.typeIs slot_tuple_getitem.lookup (getItem_tuple (j:=j) (Q:=λr s'=>r=w/\EP X e E Q r s') pl 'c' 'c' (by simp_all) 'm' ⟨W,C⟩) hs
def UG:nv X Il:=by
 intro d e m s M H x y v u Q I r A h hs;refine aS h λz i c f g w=>aQ w λhz B q=>?_;clear h w;subst f;subst g;obtain⟨t,rfl⟩:=r;obtain⟨t',rfl⟩:=A;refine bh (BM B) λj p C N w=>aM w λE J=>?_;clear w;have L:z.cps.toList.length=z.length:=by simp[Str.length]
 rw[L]at p E J;have hn:=qi;exact tail_any (QI s z t) slot_str_getitem.lookup (getItem_str (c:=c) 'c' (by rw[p];simpa using C) ⟨.str ⟨#[c]⟩,H,I.tok _,⟨_,W⟩,q⟩) hs
def UH(K:au):R2:=λx y H Q=>Ij K x y H Q\/Ik K x y H Q\/Il x y H Q
def UI:nv X (UH X.K):=BO.or (Im.or UG)
def UJ(c:List ω)(n j:Nat)(u:ω):i4 (·.setIfInBounds j u) {cls:=.type "list",data:=.seq c.toArray n}={cls:=.type "list",data:=.seq (c.set j u).toArray n}:=by simp[i4]
theorem Inv.lst{s:ψ}{xs:List V}(I:Inv X d f H s)(h:H p=Z (.lst xs)):∃(c:List ω)(n:Nat),Vals xs c/\s.heap.get? p=Z {cls:=.type "list",data:=.seq c.toArray n}/\xs.length<=aA:=by refine aM (I.aV p _ h) λz y=>cA y λc n r e=>?_;clear y;exact⟨c,n,r,e,z⟩
def Inv.UK{s:ψ}{ys:List V}{c its':List ω}{n:Nat}(I:Inv X d j H s)(h:H p=Z (.lst xs))(m:s.heap.get? p=Z {cls:=.type "list",data:=.seq c.toArray n})(i:f {cls:=.type "list",data:=.seq c.toArray n}={cls:=.type "list",data:=.seq its'.toArray g})(r:Vals ys its')(hz:ys.length<=aA)(t:Nat):Inv X d j (upd H p (.lst ys)) {s with heap:=s.heap.update p f,toks:=t}:=by
 have e:(s.heap.update p f).get? p=Z {cls:=.type "list",data:=.seq its'.toArray g}:=by rw[A2 f m (by rw[i]<;>rfl),i]
 refine I.write (x:=p) (e:=p) (by rw[h];trivial) (.inl W) (λb u v q=>(Zwr _ _ (bW v)).trans q) ⟨_,e⟩ ?_;exact⟨hz,its',g,r,e⟩
def UL:V->V->V->Hp->(Hp->Prop)->Prop:=λo i v H Q=>∃p xs k j,o=.ref p/\i=.int k/\H p=Z (.lst xs)/\g9 xs.length k=Z j/\Q (upd H p (.lst (xs.set j v)))
def Io:Hl X UL:=by intro c s m H o i v E J u Q I w x A h;refine aU h λp xs k z=>bh z λj d e g y=>aM y λB q=>?_;clear h z y;subst d;subst e;cases w;obtain⟨t,rfl⟩:=x;refine ay (I.lst g) λf n r C hz=>gz (Ii B) λL M N O=>?_;have T:=r.length;have hn:=qi;have U:Inv X c m (upd H p (.lst (xs.set j v))) {s with heap:=s.heap.update p (i4 (·.setIfInBounds j u))}:=I.UK g C (UJ f n j u) (r.set A j) (by rw[d9];exact hz) s.toks;grind[QH,ao,PySem.W.ki_setAt,dY,seqIndex_neg,PySem.W.ki_setBack]
def UM(lo c:Option Int)(n:Nat):(A3 lo c am n).1=((HT.ba n 0 lo:Nat):Int)/\(A3 lo c am n).2.1=((HT.ba n n c:Nat):Int)/\(A3 lo c am n).2.2=1:=by
 refine⟨?_,?_,W⟩;·cases lo with|none=>rfl|some i=>simp only[A3,HT.ba,Zws,show(1:Int)>0 by decide,if_true];grind
 ·cases c with|none=>rfl|some i=>simp only[A3,HT.ba,Zws,show(1:Int)>0 by decide,if_true];grind
theorem UN(c:List ω)(lo d:Option Int):slicePick c.toArray lo d am=((c.drop (HT.ba c.length 0 lo)).take (HT.ba c.length c.length d-HT.ba c.length 0 lo)).toArray:=by obtain⟨e,f,g⟩:=UM lo d c.toArray.size;unfold slicePick;rw[e,f,g];simp only[sliceRange_one,pick_run,dY]<;>rfl
def UO(K:au):V->Option Int->Option Int->Hp->VK->Prop:=λx lo c H Q=>∃a xs,x=.ref a/\bX K H a xs/\∀p,H p=am->Q (.ref p) (upd H p (.lst (nu xs lo c)))
def UP:nt X (UO X.K):=by intro e s p H x v t u lo c w Q I g hs pl i h;refine ay h λa xs d j q=>?_;clear h;subst d;cases g;refine aJ (I.list j) λm r f hz=>?_;have hlen:=r.length;refine⟨"list",_,Zwq.lookup,f.isList.typeIs,?_⟩;refine wpAny_getItem_list_slice f.isList hs pl i .none 'b' ?_ (by simp_all);rw[UN,<-hlen];refine⟨.ref s.heap.objs.size,_,I.laid (t':=s.toks) (o:=.lst (nu xs lo c)) (λb ob q=>cO _ q) (a9 _) ?_,W,q _ (I.aV.fresh (a9 _))⟩;exact⟨c3 (Ih xs lo c) hz,_,0,(r.drop (HT.ba xs.length 0 lo)).take (HT.ba xs.length xs.length c-HT.ba xs.length 0 lo),eo _ W⟩
def BP:mC X (.builtin "len") (λxs H Q=>∃p ys,xs=[.ref p]/\(bX X.K H p ys\/cX X.K H p ys)/\Q (.int ys.length) H):=by
 intro e s g H xs us Q I r h;refine ay h λp ys c z q=>?_;clear h;subst c;obtain⟨u,rfl,f⟩:=mE r;cases f;have hn:=qi;rcases z with z|z;·refine aJ (I.list z) λd r' pl hz=>?_;have hlen:=r'.length;exact Calls.call_len_list pl.isList 'm' ⟨.int ys.length,H,I.tok _,⟨s.toks+1,by rw[dY,hlen]⟩,q⟩
 ·refine aJ (I.tuple z) λd r' pl hz=>?_;have hlen:=r'.length;exact len_tuple pl 'm' ⟨.int ys.length,H,I.tok _,⟨s.toks+1,by rw[dY,hlen]⟩,q⟩
def UQ:mC X (.builtin "len") (λxs H Q=>∃z,xs=[.str z]/\z.length<=aA/\Q (.int z.length) H):=by intro e s f H xs us Q I r h;refine aJ h λz c hz q=>?_;clear h;subst c;refine ax (mE r) λu c y=>hZ y λt d=>?_;clear y;subst c;subst d;have hn:=qi;exact len_str 'c' ⟨.int z.length,H,I.tok _,⟨_,W⟩,q⟩
theorem UR:mC X (.type "list") (λxs H Q=>∃p ys,xs=[.ref p]/\(bX X.K H p ys\/cX X.K H p ys)/\∀l,H l=am->Q (.ref l) (upd H l (.lst ys))):=by
 intro d s v H xs us Q I r h;refine ay h λp ys f z q=>?_;clear h;subst f;obtain⟨u,rfl,x⟩:=mE r;cases x;have A:∀(c:List ω),Vals ys c->ys.length<=aA->∀(h':Heap)(g:Nat),(∀b t,s.heap.get? b=Z t->h'.get? b=Z t)-> h'.get? s.heap.objs.size=Z {cls:=.type "list",dict:=am,data:=.seq c.toArray g,slots:= #[]}->EP X d v Q (.ref s.heap.objs.size) {s with heap:=h'}:=λc r' hz h' g B e=> ⟨.ref s.heap.objs.size,_,I.laid (t':=s.toks) B (a9 _) (show d6 X.prog X.w _ h' _ (.lst ys) from⟨hz,c,g,r',e⟩),W,q _ (I.aV.fresh (a9 _))⟩;rcases z with z|z;·refine aJ (I.list z) λc r' pl hz=>?_;have hlen:=r'.length;refine aJ pl.isList λo i j y=>hZ y λn m=>?_;clear y;exact call_list_seq p (.inl W) i j m 'm' (by simp_all)
 ·refine aJ (I.tuple z) λc r' pl hz=>?_;have hlen:=r'.length;refine aJ pl λo i j y=>hZ y λn m=>?_;clear pl y;exact call_list_seq p (.inr W) i j m 'm' (by simp_all)
def Ip:mC X (.type "tuple") (λxs H Q=>∃p ys,xs=[.ref p]/\((bX X.K H p ys/\∀l,H l=am->Q (.ref l) (upd H l (.tup ys)))\/(cX X.K H p ys/\Q (.ref p) H))):=by
 intro c s f H xs us Q I r h;obtain⟨p,ys,rfl,h⟩:=h;obtain⟨u,rfl,i⟩:=mE r;cases i;rcases h with⟨z,q⟩|⟨z,q⟩;·obtain⟨d,r',pl,hz⟩:=I.list z;have hlen:=r'.length;refine call_tuple_list pl.isList (λh' j=>?_) (by simp_all);have g:Inv X c f H {s with heap:=h'}:=I.kept (t':=s.toks) j;have m:Inv X c f (upd H h'.objs.size (.tup ys)) {s with heap:=h'.push {cls:=.type "tuple",data:=.seq d.toArray}}:=g.laid (t':=s.toks) (λb o e=>cO _ e) (a9 _) (show d6 X.prog X.w _ _ _ (.tup ys) from⟨hz,d,r',Gj _ _⟩);exact⟨.ref h'.objs.size,_,m,W,q _ (g.aV.fresh (a9 _))⟩
 ·obtain⟨d,r',pl,hz⟩:=I.tuple z;exact call_tuple_same pl ⟨.ref p,H,I,W,q⟩
def xY(K:au)(T:String)(x:V)(H:Hp):Prop:=match x with|.str _=>T="str"|.int _=>T="int"|.ref p=>(T="list"/\∃xs,bX K H p xs)\/(T="tuple"/\∃o,K.lookup p=Z o/\o.cls=.type "tuple"/\o.dict=am)∨ (T="dict"/\((∃kvs,H p=Z (.dK kvs))\/∃kvs,H p=Z (.dT kvs)))\/(T="set"/\∃S n,H p=Z (.set S n))|_=>False
def Iq{s:ψ}(I:Inv X m B H s)(r:RelV x v)(g:xY X.K T x H):s.TypeIs v T/\∀a,v=.ref a->∃ob,s.heap.get? a=Z ob/\ob.dict=am:=by
 cases x with|str z=>obtain⟨t,rfl⟩:=r;cases(show T="str" from g);exact⟨QI s z t,λ_ e=>nomatch e⟩|int i=>obtain⟨t,rfl⟩:=r;cases(show T="int" from g);exact⟨typeIs_int s i t,λ_ e=>nomatch e⟩|ref p=>
  cases r;rcases g with⟨rfl,xs,w⟩|⟨rfl,o,d,q,h⟩|⟨rfl,d⟩|⟨rfl,S,n,d⟩
  ·refine aJ (I.list w) λA _ pl _=>⟨pl.isList.typeIs,λa e=>?_⟩;cases e;refine bV pl λo n e c h _=>?_;clear pl;exact⟨o,e,h⟩
  ·refine⟨⟨o,I.eN p o d,q⟩,λa e=>?_⟩;cases e;exact⟨o,I.eN _ o d,h⟩
  ·have z:∃o,s.heap.get? p=Z o/\o.ExactDict:=by
    rcases d with⟨kvs,d⟩|⟨kvs,d⟩;·refine aQ (I.aV p _ d) λ_ _ y=>ax y λ_ _ u=>aS u λo _ _ e f _=>?_;clear y u;exact⟨o,e,f⟩
    ·refine aQ (I.aV p _ d) λ_ _ y=>ax y λ_ _ u=>aS u λo _ _ e f _=>?_;clear y u;exact⟨o,e,f⟩
   obtain⟨o,e,f⟩:=z;refine⟨⟨o,e,f.1⟩,λa j=>?_⟩;cases j;exact⟨o,e,f.2.1⟩
  ·refine aU (I.aV p _ d) λo _ _ y=>aJ y λ_ e f _=>?_;clear y;refine⟨⟨o,e,f.1⟩,λa j=>?_⟩;cases j;exact⟨o,e,f.2.1⟩|_=>exact dX g
def US(K:au)(T:String)(r:V->List V->Hp->VK->Prop)(d:TE):TE:=λe H Q=>d e H λx c=>xY K T x c/\r x [] c Q
def UT(K:au)(T:String)(r:V->List V->Hp->VK->Prop)(e:TE)(t:TA):TE:=λc H Q=>e c H λx d=>xY K T x d/\t c d λxs H2=>r x xs H2 Q
variable {o e:Expr}{es:List Expr}{to:TE}{t:TA}{name:Str}{apos cpos:Pos}{T id:String}{r:V->List V->Hp->VK->Prop}
def UU(q:PlainAttrs T)(g:Slot T name id)(i:typeOf (.builtin id)=pure (.type "method_descriptor"))(u:BN X id r)(w:PE X o to) (d:md o name X.env (eval o X.env)=eval o X.env:=by rfl) (f:'s'=be:=by rfl):PE X (.Call (.Attribute o name apos) [] [] cpos) (US X.K T r to):=by intro c s j H Q I h;refine wpAny_Call_method0_late d f (aL (w c s j H _ I h) λv y z=>bV z λx A m p B C=>?_);obtain⟨E,J⟩:=Iq m p B;exact⟨T,id,q,g,i,E,J,QJ W (Zwt (u c y j A x [] v [] Q m p .nil C))⟩
def kF(y:PlainAttrs T)(i:Slot T name id)(m:typeOf (.builtin id)=pure (.type "method_descriptor"))(A:BN X id r)(B:PE X o to)(C:PA X (e::es) t) (f:md o name X.env (eval o X.env)=eval o X.env:=by rfl) (j:((dW cpos (bq (e::es) X.env)).all (λx=>!x.1)&&(me cpos (mf [] X.env)).all (λx=>x.1.isSome) &&decide ((e::es).length+([]:List uA).length+(if([]:List uA).isEmpty then 0 else 1)<30))=be:=by rfl) (g:'s'=be:=by rfl) (hs:bq (e::es) X.env=(bi,eval e X.env)::bq es X.env:=by rfl) (d:(dW cpos (bq es X.env)).any (·.1)=bi:=by rfl):PE X (.Call (.Attribute o name apos) (e::es) [] cpos) (UT X.K T r to t):=by intro c s p H Q I h;refine wpAny_Call_method_late f j g W (aL (B c s p H _ I h) λv E z=>bV z λx J q u L M=>?_);obtain⟨N,O⟩:=Iq q u L;refine⟨T,id,y,i,m,N,O,?_⟩;have w:=C cpos c E p J _ q M;rw[hs]at w⊢;refine QJ (by show(bi||(dW cpos (bq es X.env)).any (·.1))=bi;rw[d]<;>rfl) (Zwu ?_);exact aL w λus U z=>ay z λvs H2 Y r2 q2=>A c U p H2 x vs v us Q Y u r2 q2
end
def nz(X:Cx)(id:String)(r:V->List V->Hp->VK->Prop):Prop:=∀(c:Zaa)(s:ψ)(d:St)(H:Hp)(x:V)(xs:List V)(v:ω)(us:List ω)(Q:VK),Inv X c d H s->RelV x v->Vals xs us->r x xs H Q-> wpAny 'd' X.A (call (.builtin id) (v::us)) (EP X c d Q) X.xe s
def Vals.one(h:Vals [x] us):∃u,us=[u]/\RelV x u:=by induction h using eL with|cons r t=>induction t using gM;exact⟨_,W,r⟩
def Vals.zero:∀{us:List ω},Vals [] us->us=[]|_,.nil=>rfl
theorem Vals.dropLast{xs:List V}{us:List ω}(h:Vals xs us):Vals xs.dropLast us.dropLast:=by induction h with|nil=>exact .nil|cons r t c=>induction t using Gd with|nil=>exact .nil|cons q t'=>exact .cons r c
theorem Vals.eraseIdx:∀{xs:List V}{us:List ω}(i:Nat),Vals xs us->Vals (xs.eraseIdx i) (us.eraseIdx i)|_,_,_,.nil=>.nil|_,_,0,.cons _ t=>t|_,_,i+1,.cons r t=>.cons r (Vals.eraseIdx i t)
theorem Ir{c:Type}:∀(l:List c)(i:Nat),(l.eraseIdx i).length<=l.length|[],_=>a9 _|_::_,0=>jC _|_::r,i+1=>xm (Ir r i)
section
variable {X:Cx}{π:Zaa}{σ:St}{H:Hp}{s:ψ}{l:Λ}{xs ys:List V}
def Inv.va{c its':List ω}{n:Nat}(I:Inv X π σ H s)(d:H l=Z (.lst xs))(e:s.heap.get? l=Z {cls:=.type "list",data:=.seq c.toArray n})(g:f c.toArray=its'.toArray)(h:Vals ys its')(hz:ys.length<=aA):Inv X π σ (upd H l (.lst ys)) {s with heap:=s.heap.update l (i4 f),toks:=t'}:=by have q:=PySem.IsL.update e f;rw[g]at q;refine I.write (x:=l) (e:=l) (by rw[d];exact trivial) (.inl W) (λm u i j=>(Zwr s.heap (i4 f) (bW i)).trans j) ⟨_,q⟩ ?_;exact⟨hz,its',_,h,q⟩
def Inv.UW{c:List ω}(I:Inv X π σ H s)(d:Vals ys c)(hz:ys.length<=aA):Inv X π σ (upd H s.heap.objs.size (.lst ys)) {s with heap:=s.heap.push {cls:=.type "list",data:=.seq c.toArray},toks:=t'}:=I.laid (λ_ _ q=>cO _ q) (a9 _) ⟨hz,c,0,d,eo _ W⟩
theorem Inv.fresh(I:Inv X π σ H s):H s.heap.objs.size=am:=I.aV.fresh (a9 _)
def Inv.rZ(I:Inv X π σ H s)(d:H l=Z (.lst xs)):xs.length<=aA/\∃(c:List ω)(n:Nat),Vals xs c/\xs.length=c.length/\s.heap.get? l=Z {cls:=.type "list",data:=.seq c.toArray n}:=by refine aM (I.aV l _ d) λz y=>cA y λc n r e=>?_;clear y;exact⟨z,c,n,r,r.length,e⟩
theorem Iu{n:Nat}(h:n<=aA):Gn n=bi:=by unfold Gn;exact decide_eq_false 'c'
end
section
variable {X:Cx}
def UX:V->List V->Hp->VK->Prop:=λx vs H Q=>∃l xs y,x=.ref l/\vs=[y]/\H l=Z (.lst xs)/\xs.length<aA/\Q .aD (upd H l (.lst (xs++[y])))
def ql:nz X "list.append" UX:=by intro g s w H x vs v us Q I j m h;refine aS h λl xs y d f t=>aQ t λi hz q=>?_;clear h t;subst d;subst f;cases j;obtain⟨u,rfl,p⟩:=m.one;refine aM (I.rZ i) λz t=>ay t λc n r A e=>?_;clear t;refine A4 F.slot_list_append ⟨_,e,W⟩ F.entry_list_append (F.args_list_append_2 _ _) (PySem.list_append l c.toArray n u (by simp_all)) ⟨e,?_⟩;refine⟨.aD,_,I.va (its':=c++[u]) i e 'o' (r.append (.cons p .nil)) ?_,W,q⟩;grind
def UY:V->List V->Hp->VK->Prop:=λx vs H Q=>∃l b xs c,x=.ref l/\vs=[.ref b]/\H l=Z (.lst xs)/\H b=Z (.lst c)/\xs.length+c.length<=aA/\Q .aD (upd H l (.lst (xs++c)))
def UZ:nz X "list.extend" UY:=by
 intro j s L H x vs v us Q I p w h;refine aU h λl b xs y=>bh y λM g i m t=>aQ t λA hz q=>?_;clear h y t;subst g;subst i;cases p;obtain⟨u,rfl,B⟩:=w.one;cases B;refine aM (I.rZ m) λz y=>ay y λd n r N e=>?_;clear y;refine aM (I.rZ A) λz2 y=>ay y λc n2 C E J=>?_;clear y;have hsz:d.toArray.size+c.toArray.size<=aA:=by rw[dY,dY];lia
 have f:¬(!d.toArray.isEmpty&&Gn (d.toArray.size+c.toArray.size))=be:=by rw[Iu hsz,QK];exact dg
 refine A4 Zwv ⟨_,e,W⟩ Zww (Zwx _ _) (Zwy l d.toArray n b c.toArray n2 f (by rw[dY];lia) (fo hsz)) ⟨e,J,?_⟩;refine⟨.aD,_,I.va (its':=d++c) m e 'o' (r.append C) ?_,W,q⟩;rw[bH];omega
def U0:V->List V->Hp->VK->Prop:=λx vs H Q=>∃l xs y,x=.ref l/\vs=[]/\H l=Z (.lst xs)/\xs[xs.length-1]?=Z y/\Q y (upd H l (.lst xs.dropLast))
def U1:nz X "list.pop" U0:=by
 intro j s J H x vs v us Q I p w h;refine aS h λl xs y d f t=>aQ t λm A q=>?_;clear h t;subst d;subst f;cases p;have g:=w.zero;subst g;refine aM (I.rZ m) λz t=>ay t λc n r B e=>?_;clear t;obtain⟨u,C,E⟩:=r.get A;have i:c.toArray[c.toArray.size-1]?=Z u:=by show c.toArray[c.length-1]?=Z u;rw[<-uD,<-B];exact C
 refine A4 Zwz ⟨_,e,W⟩ ZwA (F.args_list_pop_1 _) (MeetsSeq.list_pop_last l c.toArray n u i (by simp_all)) ⟨e,?_⟩;refine⟨y,_,I.va (its':=c.dropLast) m e ?_ r.dropLast ?_,E,q⟩;·simp
 grind
def U2:V->List V->Hp->VK->Prop:=λx vs H Q=>∃l xs i k y,x=.ref l/\vs=[.int i]/\H l=Z (.lst xs)/\ -(2^63)<=i/\i<2^63/\Gm i xs.length=Z k/\xs[k]?=Z y/\Q y (upd H l (.lst (xs.eraseIdx k)))
def U3:nz X "list.pop" U2:=by
 intro m s T H x vs v us Q I B C h;refine aU h λl xs i p=>cv p λk y d f A E j=>gz j λJ L M q=>?_;clear h p j;subst d;subst f;cases B;obtain⟨u,rfl,N⟩:=C.one;obtain⟨t,rfl⟩:=N;refine aM (I.rZ A) λz p=>ay p λc n r O e=>?_;clear p;obtain⟨w,hw,g⟩:=r.get M;refine A4 Zwz ⟨_,e,W⟩ ZwA (F.args_list_pop_2 _ _) (MeetsSeq.list_pop_at l c.toArray n i t k w (fitsIndex_both E J) (by rw[dY,<-O];exact L) (by rw[<-uD];exact hw) (by rw[dY];lia)) ⟨e,?_⟩;refine⟨y,_,I.va (its':=c.eraseIdx k) A e ?_ (r.eraseIdx k) ?_,g,q⟩;·show c.toArray.eraseIdxIfInBounds k=(c.eraseIdx k).toArray;rw[List.eraseIdxIfInBounds_toArray]
 ·have:=Ir xs k;exact c3 this z
end
end L2
namespace Iv
open PySem PySem.W PySem.Calls PyProof.Rows
def U4:∀(ns:List Int)(vs:List ω),WellAll P h vs (ns.map WData.int)->uE vs ns:=by intro ns;induction ns with|nil=>intro vs w;rw[uF]at w;cases w;exact .nil|cons n ns c=>intro vs w;rw[bG]at w;cases w with|cons a b=>cases a;exact .cons _ _ (c _ b)
def U5{l:OpenLaw}{n:Nat}(hn:l.most=Z n){h:Heap}(c:l.row.toRowW.claim.pre args=be)(g:WellAll P h e args):∃a vs ns,e=[cN a]/\args=[WData.list (ns.map WData.int)]/\h.get? a=Z {cls:=.type "list",data:=.seq vs.toArray}/\uE vs ns/\ns.length<=n:=by
 have i:WShape.hasAll [] args [.list .int]=be:=(pre_splitW c).1;have m:l.pre.holds [] {args:=args}=be:=(pre_splitW c).2;refine ay (hasAllW_cons i) λd r j t u=>?_;subst j;obtain rfl:=hasAllW_nil u;obtain⟨xs,rfl,v⟩:=hasW_list t;obtain⟨ns,rfl⟩:=items_int v;have hlen:ns.length<=n:=by
  unfold OpenLaw.pre at m;have f:(WTm.not (.lt (.lit (.int (n:Int))) (.len (.arg 0)))).holds [] {args:=[.list (ns.map .int)]}=be:=by have f:=(holds_andW m).1;rw[hn]at f;exact f
  have p:=condW_of f (by rfl);rw[aG]at p;refine A5 λq=>?_;have z:(n:Int)<((ns.length:Nat):Int):=by omega
  first|simp_all|(simp at p;omega)
 cases g with|cons w x=>cases x;cases w with|list y h8=>exact⟨_,_,ns,W,W,y,U4 ns _ h8,hlen⟩
def U6(l:OpenLaw)(args:List WData):l.row.toRowW.claim.post args (.bool be) args=be:=postW_of (r:=l.row.toRowW) (X:=(be==be)) (by rfl) (show(WTm.eq .res (.lit (.bool be))).value [] {args:=args,res:=Z (.bool be),after:=args}=Z (.bool (be==be)) from w_eq_bool (w_res W) w_lit) W
def U7{l:OpenLaw}{n:Nat}{d:DefRec}(hn:l.most=Z n)(u:d.params.defaults=[])(call:∀(w:World)(e c:ψ)(p v:Zac)(i:Λ)(o:Obj)(x t doc:ω)(a:Λ)(vs:List ω)(ns:List Int),Ground q g [] N w e p v c.heap->O w c.heap-> c.heap.get? i=Z o->o.data=.func (docDef d.name d.params d.body d.scope x t doc)->c.heap.CodeRec t d.name->p d.name=Z (.ref i)-> c.heap.get? a=Z {cls:=.type "list",data:=.seq vs.toArray}->uE vs ns->ns.length<=n->c.gens= #[]-> uu (model l.prog w) rB (.call (.ref i) ⟨[.ref a],[]⟩) (λr s'=>r=.ok (.ret (.bool be))/\OldK c.heap s'.heap/\s'.os=c.os/\pS s'.gens) c):WalkO q g N O l.row.toRowW d [] (λf vs=>QL f vs):=by intro w e c p v G Y i o x t doc Q kV T U A J B hg args L as j M hrd C hlo;obtain rfl:Q=.none:=Dflts.none J u;obtain rfl:kV=.none:=Dflts.noKw J;refine aS (U5 hn j C) λa vs ns E H y=>aQ y λm h hlen=>?_;clear y;subst E;subst H;refine enter_call (AV (call w e c p v i o x t doc a vs ns G Y T (fd_plain U) A B m h hlen hg) λr s' z=>?_);refine gz z λI h2 h3 h4=>?_;clear z;subst I;exact⟨.inl ⟨.bool be,.bool be,[],W,λ_=>rfl,.bool be,U6 l _,λ_=>⟨QM,λ_ hm=>(nomatch hm)⟩⟩,h2,h3,h4⟩
section
set_option backward.match.sparseCases true
set_option backward.match.sparseCases false
end
end Iv
namespace L2
open PySem PySem.Spec PyProof.Rows
theorem xZ:∀{vs:List ω}{ns:List Int},uE vs ns->Vals (ns.map V.int) vs|_,_,.nil=>.nil|_,_,.cons n t h=>.cons ⟨t,W⟩ (xZ h)
def BQ(H:Hp):Prop:=∀b,H b=am\/∃o xs,H b=Z (.dM o (.lst xs))
def U8{K:au}{k:Nat}{c:ψ}{vs:List ω}{ns:List Int}(KX:K.In c.heap)(t:c.heap.Ns ko M)(g:c.heap.Ns Qk mb)(O:∀x:Str,x≠"__name__"->mb x=gy x)(A:c.heap.NoLimit)(hg:c.gens= #[])(N:c.heap.get? a=Z {cls:=.type "list",data:=.seq vs.toArray})(hi:uE vs ns)(hl:ns.length<=aA)(hr:bA k rB)(F:∀base:Heap,K.In base->base.Ns ko M->cP P w K M base CX k fa fd [x] sp)(p:∀(s:ψ)(u:ω),AS s fd ⟨[u],[]⟩ [(x,u)])(Q:∀H:Hp,BQ H->bX K H a (ns.map V.int)->sp [.ref a] H (λv _=>v=.bl be) λ_ _ _=>False)(T:∀H e s',CX [] H c (λ_ _ _=>False) e s'->False):uu (model P w) rB (.call (.ref fa) ⟨[.ref a],[]⟩) (λr s'=>r=.ok (.ret (.bool be))/\OldK c.heap s'.heap/\s'.os=c.os/\pS s'.gens) c:=by
 have rv:=xZ hi;have B:=hi.length;have j:∀H:Hp,BQ H->bX K H a (ns.map V.int)->dE P w H c.heap->(∀b,H b≠am->b=a)->(H a≠am->K.lookup a=am)-> uu (model P w) rB (.call (.ref fa) ⟨[.ref a],[]⟩) (λr s'=>r=.ok (.ret (.bool be))/\OldK c.heap s'.heap/\s'.os=c.os/\pS s'.gens) c:=by
  intro H hO hS C hA hK;have f:∀{b:Λ}{o:Obj},c.heap.get? b=Z o->H b=am->(ni c.heap H).get? b=Z o:=λe n=>RU e n;have U:∀{b:Λ}{o:Obj}{es:Array DictEntry}{ep:Nat},c.heap.get? b=Z o->o.data=.dict es ep->H b=am:=λ{b o es ep} e d=>by cases q:H b with|none=>rfl|some u=>have Y:b=a:=hA b (by rw[q];simp);subst Y;rw[N]at e;exists e;have d':Data.seq vs.toArray _=Data.dict es ep:=d;injection d'
  have i:∀{b:Λ}{m:Zac},c.heap.Ns b m->(ni c.heap H).Ns b m:=λ{b m} ⟨o,es,ep,e,d,r⟩=>⟨o,es,ep,f e (U e d),d,r⟩;have E:K.In (ni c.heap H):=λb o e=>f (KX b o e) (by cases q:H b with|none=>rfl|some u=>have Y:b=a:=hA b (by rw[q];simp);subst Y;rw[hK (by rw[q];simp)]at e;injection e);have hM:Mod K M (ni c.heap H):=⟨E,i t,⟨mb,i g,O⟩,ax A λmc h1 h2=>⟨mc,i h1,h2⟩⟩;have e0:qk P w K M (ni c.heap H) rB [] c H:=⟨W,hM,λb o e=>RV e,uw (RT _ _),trivial,λb g=>absurd (show b∈([]:List Λ) from g) (by exact nofun),C,.of_eq hg⟩;refine AV ((F _ E (i t)).run rB [] c H ⟨[.ref a],[]⟩ [.ref a] [.ref a] _ _ hr e0 (p c (.ref a)) (.cons W .nil) (Q H hO hS)) λr s' h=>?_;cases r with|error e=>exact(T H e s' h).elim|ok fl=>cases fl with|next=>exact dX h|brk=>exact dX h|cont=>exact dX h|ret u=>refine cv h λv H' os I un J y=>aM y λr' q=>?_;clear h y;have q':v=.bl be:=q;subst q';obtain rfl:u=lh be:=r';refine⟨W,OldK.of_keep λb o e=>?_,os,I⟩;cases q:H b with|none=>exact un.keep b o e q (by intro z;exact absurd (show b∈([]:List Λ) from z) (by exact nofun)) (by exact nofun)|some u=>
     rcases hO b with z|⟨ob,xs,z⟩;·rw[q]at z;injection z
     ·have z2:=un.jH b ob _ z;obtain⟨e1,_⟩:=C b _ z;obtain⟨e2,_⟩:=J b _ z2;rw[e]at e1;exists e1;exact e2
 cases hk:K.lookup a with|some o=>
  have e:=KX a o hk;rw[N]at e
  exists e;refine j (λ_=>am) (λ_=>.inl W) (.inr ⟨_,vs.toArray,_,hk,W,W,W,by rw[dY,B];exact hl,by simpa using rv⟩) (λb u z=>by have L:(am:Option HO)=Z u:=z;injection L) (λb z=>absurd W z) λz=>absurd W z|none=>
  refine j (λb=>if b=a then Z (.dM {cls:=.type "list",data:=.seq vs.toArray} (.lst (ns.map V.int)))else am) (λb=>?_) (.inl (.inr ⟨{cls:=.type "list",data:=.seq vs.toArray},if_pos W⟩)) (λb u z=>?_) (λb z=>?_) λ_=>hk
  ·by_cases g:b=a
   ·exact .inr ⟨_,_,if_pos g⟩
   ·exact .inl (if_neg g)
  ·by_cases g:b=a
   ·have L:=(if_pos g).symm.trans z
    exists L;subst g;exact⟨N,by rw[aG];exact hl,vs,_,rv,N⟩
   ·have L:=(if_neg g).symm.trans z;injection L
  ·by_cases g:b=a
   ·exact g
   ·exact absurd (if_neg g) z
def U9{l:ZwB}{n k:Nat}{I:(Zac)->Heap->Prop}{C:World->Heap->Prop}{d:DefRec}{K:Params->au}{CX:World->lG}{sp:World->Sp} (hn:l.most=Z n) (t:n<=aA) (y:d.params.defaults=[]) (hr:bA k rB) (J:∀(w:World)(h:Heap),C w h->(K w.params).In h) (F:∀(w:World)(j:Zac)(r:Λ)(h:Heap),(K w.params).In h->h.Ns ko j->j d.name=Z (.ref r)-> ∃z:dt,(∀(s:ψ)(u:ω),AS s z ⟨[u],[]⟩ [(x,u)])∧ ∀base:Heap,(K w.params).In base->base.Ns ko j->cP l.prog w (K w.params) j base (CX w) k r z [x] (sp w)) (L:∀(w:World)(H:Hp)(a:Λ)(ns:List Int),ns.length<=n->BQ H->bX (K w.params) H a (ns.map V.int)->sp w [.ref a] H (λv _=>v=.bl be) λ_ _ _=>False) (A:∀(w:World)(H:Hp)(s:ψ)(e:ω)(s':ψ),CX w [] H s (λ_ _ _=>False) e s'->False):ZwC q c I C l.row.toRowW d [] (λf vs=>QL f vs):=by refine Iv.U7 hn y λw E m j U r o pm cd doc a vs ns G Y ho hd M B p i hlen N=>?_;have KX:=J w _ Y;obtain⟨z,O,Q⟩:=F w j r _ KX G.T.g B;exact U8 KX G.T.g G.T.b G.T.builtins G.T.nolimit N p i (c3 hlen t) hr Q O 'm' λH e s'=>A w H m e s'
noncomputable def lI(s:Stmt):Arguments:=match s with|.FunctionDef _ a _ _ _ _ _ _ _ _=>a|_=>{posonlyargs:=[],args:=[],vararg:=am,kwonlyargs:=[],kw_defaults:=[],kwarg:=am,defaults:=[]}
noncomputable def gP(s:Stmt):List Stmt:=match s with|.FunctionDef _ _ b _ _ _ _ _ _ _=>b|_=>[]
noncomputable def cQ(s:Stmt):Scope:=match s with|.FunctionDef _ _ _ _ _ _ sc _ _ _=>sc|_=>{kind:=.function,names:=[],isGenerator:=bi,isCoroutine:=bi}
abbrev cL:lG:=λ_ _ _ _ _ _=>False
abbrev E0:XK:=λ_ _ _=>False
def r0:rY cL X E0:=λ_ _ _ _ _ _ _ h=>h.elim
structure kG(K:au)(x qual:Str)(st:Stmt)(f:Λ)(fd:dt):Prop where
 ex:∃(oc:ω)(od:Option Λ)(kV doc pm:ω)(an:Option Λ)(Iw ct:ω)(U_:Array (Option ω)),fd=mh x qual (lI st) (gP st) (cQ st) .none kV doc pm an Iw ct/\K.lookup f=Z ⟨oc,od,.func fd,U_⟩/\xg K Iw qual=be
 kp:ma K (.ref f)=be
section
variable {P:a8}{w:World}{K:au}{mg:Zac}{base:Heap}
def kG.ok{st:Stmt}{ps:List Str}{k:Nat}(F:kG K x d st f p)(S:nq N ps (cQ st))(len:∀vs H Q E,sp vs H Q E->vs.length=ps.length) (g:∀(e:ω)(A:Around)(c:List Env)(s:ψ)(H:Hp)(vs:List V)(Q:VK)(E:XK),bA k (A.deeper (iH d (cQ st) s.heap.objs.size f e))->sp vs H Q E-> ∃t,gr (i_ cL P w K mg base N d (cQ st) f e A c s H E).j6 (gP st) t/\t {nx:=λ_ H'=>Q .aD H',rt:=Q} (start N vs) H):cP P w K mg base cL (k+1) f p ps sp:=by refine aU F.ex λu od kV z=>aU z λdoc v B y=>aS y λe C r i lk j=>?_;clear z y;subst i;refine Uo lk j S len λA c s H vs Q E hr m=>?_;obtain⟨t,h,q⟩:=g e A c s H vs Q E hr m;exact⟨t,h.j6,q⟩
def kG.binds{st:Stmt}{ps:List Str}(F:kG K x c st f m) (h:∀(kV doc e:ω)(g:Option Λ)(d i:ω)(us:List ω),us.length=ps.length->AU (mh x c (lI st) (gP st) (cQ st) .none kV doc e g d i) ⟨us,[]⟩=pure (ps.zip us)):i8 K m ps []:=by refine aU F.ex λr od kV z=>aU z λdoc e g y=>aS y λd i p j lk q=>?_;clear z y;subst j;exact .all (h kV doc e g d i)
def r6{st:Stmt}{kV:ω}(l:K.lookup f=Z ⟨m,od,.func (mh x d (lI st) (gP st) (cQ st) .none kV doc i h e j),g⟩) (c:xg K e d=be) (k:ma K (.ref f)=be):kG K x d st f (mh x d (lI st) (gP st) (cQ st) .none kV doc i h e j):=⟨'m',k⟩
end
def x3{A:Around}{k:Nat}(hr:bA k A):A.units+1<cLine:=ml 'o' hr.units
def Va{n:Nat}(h:n<=1000):n<aA:=ml h 'b'
section
variable {X:Cx}
theorem pv(i:Nat)(d:X.N[i]?=Z x:=by rfl)(e:c6 X.env.scope x:=by first|exact mm W|exact A6 (mm W)|exact A6 (A6 W))(f:'f'=bi:=by decide)(c:'i'=bi:=by decide):PE X (.Name x pos) (xN i):=er d e f c
end
def av(H H':Hp):Prop:=∀b o,H b=Z o->H' b=Z o
def av.refl(H:Hp):av H H:=λ_ _ h=>h
def av.trans(a:av H d)(b:av d H2):av H H2:=λc o h=>b c o (a c o h)
def av.seq{K:au}{H H':Hp}{a:Λ}{xs:List V}(e:av H H')(h:bX K H a xs):bX K H' a xs:=by
 rcases h with(h|⟨o,h⟩)|h;·exact .inl (.inl (e _ _ h))
 ·exact .inl (.inr ⟨o,e _ _ h⟩)
 ·exact .inr h
section
variable {κ:Type}[DecidableEq κ]
noncomputable def gQ(kvs:List (κ×V))(k:κ):Option V:=(kvs.find? λc=>decide (c.1=k)).map (·.2)
noncomputable def putK(kvs:List (κ×V))(k:κ)(v:V):List (κ×V):=if(kvs.any λc=>decide (c.1=k))=be then kvs.map (λc=>if c.1=k then(c.1,v)else c)else kvs++[(k,v)]
theorem vb{p:κ×V}{k:κ}(e:p.1=k):gQ (p::r) k=Z p.2:=by simp[gQ,uG,e]
theorem vc{p:κ×V}{k:κ}(e:¬p.1=k):gQ (p::r) k=gQ r k:=by simp[gQ,uG,e]
theorem BR(k:κ):∀kvs:List (κ×V),(kvs.any λc=>decide (c.1=k))=(gQ kvs k).isSome
 |[]=>rfl|p::r=>by
  rw[jE];by_cases e:p.1=k;·simp only[vb e,decide_eq_true e,ZwD,Option.isSome_some]
  ·rw[vc e,decide_eq_false e,QN];exact BR k r
def BS(kvs:List (κ×V))(k:κ)(v:V):(putK kvs k v).length<=kvs.length+1:=by
 unfold putK;split;·rw[aG];exact jC _
 ·rw[bH,bz,lz];exact a9 _
def gA.r8{o:Option V}{u:Option ω}(r:gA o u):o.isSome=u.isSome:=by cases o with
 |none=>cases u with
  |none=>rfl|some _=>exact(show False from r).elim
 |some _=>cases u with|none=>exact(show False from r).elim|some _=>rfl
theorem KV.val(r:KV kvs vs)(k:κ):gA (gQ kvs k) (uH vs k):=by unfold KV at r;induction r with|nil=>exact jD|@cons p q ps c h t g=>
  obtain⟨f,i⟩:=h;by_cases e:p.1=k
  ·have d:q.1=k:=f.symm.trans e;have b:uH (q::c) k=Z q.2:=by simp[uH,uG,d]
   rw[vb e,b];exact i
  ·have d:¬q.1=k:=λz=>e (f.trans z);have b:uH (q::c) k=uH c k:=by simp[uH,uG,d]
   rw[vc e,b];exact g
theorem KV.any{kvs:List (κ×V)}{vs:List (κ×ω)}(r:KV kvs vs)(k:κ):(kvs.any λc=>decide (c.1=k))=vs.any λc=>decide (c.1=k):=by unfold KV at r;induction r with|nil=>rfl|cons h t d=>rw[jE,jE,d,h.1]
def KV.BU{kvs:List (κ×V)}{vs:List (κ×ω)}(r:KV kvs vs)(k:κ)(f:RelV y u):KV (kvs.map λc=>if c.1=k then(c.1,y)else c) (vs.map λc=>if c.1=k then(c.1,u)else c):=by unfold KV at r⊢;induction r with|nil=>exact .nil|@cons p q ps j h t g=>
  rw[bG,bG];refine .cons ?_ g;obtain⟨d,i⟩:=h;by_cases e:p.1=k;·rw[if_pos e,if_pos (d.symm.trans e)];exact⟨d,f⟩
  ·rw[if_neg e,if_neg (λz=>e (d.trans z))];exact⟨d,i⟩
theorem KV.put(r:KV kvs vs)(k:κ)(c:RelV y u):KV (putK kvs k y) (stored vs k u):=by
 unfold putK stored;rw[r.any k];by_cases e:(vs.any λd=>decide (d.1=k))=be;·rw[if_pos e,if_pos e];exact r.BU k c
 ·rw[if_neg e,if_neg e];exact ZwE r ⟨W,c⟩
def KV.keys{kvs:List (κ×V)}{vs:List (κ×ω)}(r:KV kvs vs):kvs.map (·.1)=vs.map (·.1):=by unfold KV at r;induction r with|nil=>rfl|cons h t c=>rw[bG,bG,c,h.1]
theorem KV.length{kvs:List (κ×V)}{vs:List (κ×ω)}(r:KV kvs vs):kvs.length=vs.length:=FX r
end
def r9(r:RelV (kV k) u):(h7 P w).is k u=be:=by cases k with|inl i=>obtain⟨t,e⟩:=(show ∃t,u=AM i t from r);subst e;exact RQ P w i t|inr x=>obtain⟨t,e⟩:=(show ∃t,u=uk x t from r);subst e;exact RR P w x t
theorem Iy:∀{ks:List Key}{us:List ω},Vals (ks.map kV) us->ItemsAre (h7 P w) ks us|[],_,r=>by rw[uF]at r;induction r using gM;exact .nil|k::ks,_,r=>by rw[bG]at r;induction r using eL with|cons h t=>exact .cons (r9 h) (Iy t)
abbrev KT(H:Hp):List (List Key×V)->List (List Key×Λ×ω)->Prop:=Paired λp q=>p.1=q.1/\H q.2.1=Z (.tup (p.1.map kV))/\RelV p.2 q.2.2
theorem KT.val(r:KT H kvs xs)(k:List Key):gA (gQ kvs k) ((atKey xs k).map (·.2)):=by induction r with|nil=>exact jD|@cons p q ps c h t g=>
  obtain⟨f,_,i⟩:=h;by_cases e:p.1=k
  ·have d:q.1=k:=f.symm.trans e;have b:atKey (q::c) k=Z q.2:=by simp[atKey,uG,d]
   rw[vb e,b];exact i
  ·have d:¬q.1=k:=λz=>e (f.trans z);have b:atKey (q::c) k=atKey c k:=by simp[atKey,uG,d]
   rw[vc e,b];exact g
def KT.BU{kvs:List (List Key×V)}{xs:List (List Key×Λ×ω)}(r:KT H kvs xs)(k:List Key)(g:RelV y u):KT H (kvs.map λd=>if d.1=k then(d.1,y)else d) (xs.map (putAt k u)):=by induction r with|nil=>exact .nil|@cons p q ps m h t i=>
  rw[bG,bG];refine .cons ?_ i;obtain⟨c,f,j⟩:=h;unfold putAt;by_cases e:p.1=k;·rw[if_pos e,if_pos (c.symm.trans e)];exact⟨c,f,g⟩
  ·rw[if_neg e,if_neg (λz=>e (c.trans z))];exact⟨c,f,j⟩
theorem KT.put(r:KT H kvs xs)(k:List Key)(d:H b=Z (.tup (k.map kV)))(c:RelV y u):KT H (putK kvs k y) (lB xs k b u):=by
 have e:(kvs.any λf=>decide (f.1=k))=(atKey xs k).isSome:=by rw[BR,(r.val k).r8,Gp]
 unfold putK lB;rw[e];by_cases q:(atKey xs k).isSome=be;·rw[if_pos q,if_pos q];exact r.BU k c
 ·rw[if_neg q,if_neg q];exact ZwE r ⟨W,d,c⟩
def KT.keeps(r:KT H kvs xs)(c:∀b ys,H b=Z (.tup ys)->H' b=Z (.tup ys)):KT H' kvs xs:=Paired.Hd r λ_ _ z=>⟨z.1,c _ _ z.2.1,z.2.2⟩
section
variable {P:a8}{w:World}{H:Hp}{h:Heap}{a:Λ}
def Iz(ok:dE P w H h)(e:Rd H a u):d6 P w H h a u:=e.ok ok
def qm{kvs:List (Key×V)}(ok:dE P w H h)(e:Rd H a (.dK kvs)):kvs.length<=aA/\(a==iu)=bi/\∃vs,KV kvs vs/\h.DictOf (h7 P w) a vs:=show d6 P w H h a (.dK kvs) from Iz ok e
def IA{kvs:List (Key×V)}(ok:dE P w H h)(e:H a=Z (.dK kvs)):kvs.length<=aA/\(a==iu)=bi/\∃vs,KV kvs vs/\h.DictOf (h7 P w) a vs:=qm ok (.inl e)
def vd{ks:List Key}(ok:dE P w H h)(e:H a=Z (.tup (ks.map kV))):(AO (h7 P w)).is h ks a:=by refine aM ((show d6 P w H h a (.tup (ks.map kV)) from ok a _ e)) λ_ y=>ax y λc r u=>aJ u λo d f z=>hZ z λn g=>?_;clear y u z;exact⟨o,c.toArray,n,d,f,g,by simpa using Iy r⟩
def ve{kvs:List (List Key×V)}(ok:dE P w H h)(e:Rd H a (.dT kvs)):kvs.length<=aA/\(a==iu)=bi∧ ∃xs,KT H kvs xs/\h.DictOfH (AO (h7 P w)) a xs:=by
 refine aQ ((show d6 P w H h a (.dT kvs) from Iz ok e)) λz y j=>ax j λxs r c=>aS c λo es ep d f u=>aQ u λg i A=>?_;clear j c u;refine⟨z,y,xs,r,o,es,ep,d,f,g,i,λx hx=>?_,A⟩;have all:∀{l:List (List Key×V)}{m:List (List Key×Λ×ω)},KT H l m->∀x∈m,(AO (h7 P w)).is h x.1 x.2.1:=by intro l m q;induction q with|nil=>intro x hx;exact nomatch hx|@cons p q ps C v t B=>
   intro x hx;rcases a6.mp hx with e|hx;·subst e;exact vd ok (by rw[<-v.1];exact v.2.1)
   ·exact B x hx
 exact all r x hx
def Vb{kvs:List (List Key×V)}(ok:dE P w H h)(e:H a=Z (.dT kvs)):kvs.length<=aA/\(a==iu)=bi∧ ∃xs,KT H kvs xs/\h.DictOfH (AO (h7 P w)) a xs:=ve ok (.inl e)
end
def r_(H:Hp)(a:Λ)(y:V)(r:Option V):Prop:=(∃kvs k,Rd H a (.dK kvs)/\y=kV k/\r=gQ kvs k)\/∃kvs k b,Rd H a (.dT kvs)/\y=.ref b/\H b=Z (.tup (k.map kV))/\r=gQ kvs k
def se(H:Hp)(a:Λ)(y v:V)(H':Hp):Prop:=(∃kvs k,H a=Z (.dK kvs)/\y=kV k/\kvs.length<aA/\H'=upd H a (.dK (putK kvs k v)))∨ ∃kvs k b,H a=Z (.dT kvs)/\y=.ref b/\H b=Z (.tup (k.map kV))/\kvs.length<aA/\H'=upd H a (.dT (putK kvs k v))
theorem se.k{kvs:List (Key×V)}{k:Key}(e:H a=Z (.dK kvs))(c:kvs.length<aA):se H a (kV k) v (upd H a (.dK (putK kvs k v))):=.inl ⟨kvs,k,e,W,c,W⟩
section
variable {X:Cx}{π:Zaa}{σ:St}{H:Hp}{s:ψ}{a:Λ}{y v:V}{u r:ω}{o:Option V}{A:Around}{E:Zab}
def Inv.big(I:Inv X π σ H s):iu<s.heap.objs.size:=by have h:ko<s.heap.objs.size:=(I.mod.glob.keeps I.bk).lt;exact uI 'b' h
theorem Vc(x:A.units+1<cLine)(I:Inv X π σ H s)(g:r_ H a y (Z v))(q:RelV y u)(h:∀f s',Inv X π σ H s'->RelV v f->Q f s'):wpAny 'd' A (mi (.ref a) u) Q E s:=by
 rcases g with⟨kvs,k,e,i,l⟩|⟨kvs,k,b,e,i,B,l⟩;·subst i;refine aQ (qm I.aV e) λz C t=>ax t λvs c j=>?_;clear t;obtain⟨f,hw,d⟩:=gA.some_of (v:=v) (o:=uH vs k) (by rw[l];exact c.val k);exact wpAny_getItem_of (r9 q) j.mapOf hw (h f _ (I.tok _) d)
 ·subst i;cases(show u=cN b from q);refine aQ (ve I.aV e) λz C t=>ax t λxs c j=>?_;clear t;obtain⟨f,hw,d⟩:=gA.some_of (v:=v) (o:=(atKey xs k).map (·.2)) (by rw[l];exact c.val k);obtain⟨p,J,m⟩:=bQ.mp hw;refine ZwF (Gq x) (vd I.aV B) j J ?_;rw[m];exact h f _ (I.tok _) d
def BV(m:A.units+1<cLine)(I:Inv X π σ H s)(g:r_ H a y o)(j:RelV y u)(h:∀s',Inv X π σ H s'->Q (.bool o.isSome) s'):wpAny 'd' A (c5 .In u (.ref a)) Q E s:=by
 rcases g with⟨kvs,k,e,d,l⟩|⟨kvs,k,b,e,d,p,l⟩;·subst d;refine aQ (qm I.aV e) λz f t=>ax t λvs c i=>?_;clear t;refine wpAny_in_of (r9 j) f i.mapOf ?_;rw[<-(c.val k).r8,<-l];exact h _ (I.tok _)
 ·subst d;cases(show u=cN b from j);refine aQ (ve I.aV e) λz f t=>ax t λxs c i=>?_;clear t;refine wpAny_in_heap (Gq m) (vd I.aV p) f i ?_;have q:=(c.val k).r8;rw[Gp]at q;rw[<-q,<-l];exact h _ (I.tok _)
def Vd(m:A.units+1<cLine)(I:Inv X π σ H s)(g:r_ H a y o)(j:RelV y u)(h:∀s',Inv X π σ H s'->Q (.bool (!o.isSome)) s'):wpAny 'd' A (c5 .NotIn u (.ref a)) Q E s:=by
 rcases g with⟨kvs,k,e,d,l⟩|⟨kvs,k,b,e,d,p,l⟩;·subst d;refine aQ (qm I.aV e) λz f t=>ax t λvs c i=>?_;clear t;refine wpAny_notIn_of (r9 j) f i.mapOf ?_;rw[<-(c.val k).r8,<-l];exact h _ (I.tok _)
 ·subst d;cases(show u=cN b from j);refine aQ (ve I.aV e) λz f t=>ax t λxs c i=>?_;clear t;refine ZwG (Gq m) (vd I.aV p) f i ?_;have q:=(c.val k).r8;rw[Gp]at q;rw[<-q,<-l];exact h _ (I.tok _)
def x4{h':Heap}(I:Inv X π σ H s)(c:uU (H a))(hs:lj a s.heap h')(d:∃q,h'.get? a=Z q)(new:d6 X.prog X.w (upd H a ob) h' a ob):Inv X π σ (upd H a ob) {s with heap:=h',toks:=t'}:=I.write (x:=a) (e:=a) c (.inl W) (λb q f z=>(hs.2 b f).trans z) d new
def IB{h':Heap}{kvs:List (Key×V)}(z:kvs.length<=aA)(d:(a==iu)=bi)(c:KV kvs vs)(e:h'.DictOf (h7 P w) a vs):d6 P w H' h' a (.dK kvs):=⟨z,d,vs,c,e⟩
def Ve(N:A.units+1<cLine)(I:Inv X π σ H s)(g:se H a y v H')(C:RelV y u)(J:RelV v r)(h:∀s',Inv X π σ H' s'->Q () s'):wpAny 'd' A (w6 (.ref a) u r) Q E s:=by
 rcases g with⟨kvs,k,e,i,l,j⟩|⟨kvs,k,b,e,i,L,l,j⟩
 ·subst i j;refine aQ (IA I.aV e) λz m t=>ax t λvs d x=>?_;clear t;have hz:vs.length<=aA:=by rw[<-d.length];exact z
  have B:(putK kvs k v).length<=aA:=by have:=BS kvs k v;lia
  refine wpAny_setItem_pairs (hsz:=hz) (r9 C) x λh' f hs=>h _ ?_;have O:∃q,h'.get? a=Z q:=eM f λq _ _ p _=>⟨q,p⟩;exact x4 I (by rw[e];exact jD) hs O (IB B m (d.put k J) f)
 ·subst i j;cases(show u=cN b from C);refine aQ (Vb I.aV e) λz m t=>ax t λxs d x=>?_;clear t;have hz:xs.length<=aA:=by rw[<-FX d];exact z
  have B:(putK kvs k v).length<=aA:=by have:=BS kvs k v;lia
  refine wpAny_setItem_heap (hsz:=hz) (Gq N) (vd I.aV L) x λh' f hs=>h _<|aS f λq es ep p T t=>gz t λU Y _ h5=>?_;clear f t;refine x4 I (by rw[e];exact jD) hs ⟨q,p⟩ ⟨B,m,_,(d.put k L J).keeps λc ys M=>?_,q,es,ep,p,T,U,Y,h5⟩;rw[bu (Hc M e (λz=>nomatch z))];exact M
end
section
variable {X:Cx}{π:Zaa}{σ:St}{H:Hp}{s:ψ}{a:Λ}{kvs:List (Key × V)}{A:Around}{E:Zab}
def IC(I:Inv X π σ H s)(e:Rd H a (.dK kvs))(h:∀t s',Inv X π σ H s'->Q (.int kvs.length t) s'):wpAny 'd' A (call (.builtin "len") [.ref a]) Q E s:=by refine aQ (qm I.aV e) λz d y=>ax y λvs c f=>?_;clear y;refine call_len_dict d f (by rw[<-c.length];rw[rq]at z;lia) ?_;rw[<-c.length];exact h _ _ (I.tok _)
end
def ID(i:Expr):Prop:=∀c d,A1 i bi c d=operate [c,d] (mi c d)
def BW{prog:a8}{A:Around}{E:Zab}{s:ψ}{m:Env}{d c:Expr}{T id:String}{Q:Zab} (v:Gi (.type T) "__getitem__"=pure (Z (.builtin id))) (hs:ID c) (h:wpAny 'j' A (eval d m) (λo g=>wpAny 'j' A (eval c m) (λi e=>e.TypeIs o T/\wpAny 'j' A (mi o i) Q E e) E g) E s):wpAny 'j' A (eval (.Subscript d c pos) m) Q E s:=by
 refine Subscript_ (lq h (λo g q=>lq q (λi e f=>?_) λ_ _ x=>x) λ_ _ x=>x);obtain⟨u,f⟩:=f;unfold QG;refine υ ?_;rw[getitemInPython_of_ne u.not_modules];refine υ (xo u v ?_);have p:wpAny 'j' A (A1 c bi o i) (λr j=>wpAny 'j' A (letTemporaryGo d o r>>=λ_=>pure r) Q E j) E e:=by rw[hs o i];exact wpAny_operating (lq f (λr j t=>υ (wpAny_letTemporaryGo (χ t))) λ_ _ x=>x)
 first|exact χ (υ p)|exact υ (χ (υ p))|exact υ p
def Vf{s:ψ}(I:Inv X d f H s)(g:r_ H a y o):s.TypeIs (.ref a) "dict":=by
 rcases g with⟨kvs,k,e,_,_⟩|⟨kvs,k,b,e,_,_,_⟩;·refine aQ (qm I.aV e) λ_ _ z=>ax z λvs _ c=>?_;clear z;exact c.typeIs
 ·refine aQ (ve I.aV e) λ_ _ z=>ax z λxs _ c=>?_;clear z;exact c.typeIs
def Vg(d e:TE):TE:=λc H Q=>d c H λx f=>e c f λy H2=>∃a v,x=.ref a/\r_ H2 a y (Z v)/\Q v H2
def Vh(e f g:TE):TS:=λD c H=>g c H λv h=>e c h λx H2=>f c H2 λy i=>∃a d,x=.ref a/\se i a y v d/\D.nx c d
section
variable {X:Cx}{o i value:Expr}{pos pos':Pos}{td ty tv:TE}
def Vi(m:X.A.units+1<cLine)(p:PE X o td)(q:PE X i ty)(hs:ID i):PE X (.Subscript o i pos) (Vg td ty):=by intro c s f H Q I h;refine BW QO.lookup hs (aL (p c s f H _ I h) λu r z=>ay z λx w B C E=>aL (q c r f w _ B E) λO T z=>ay z λy H2 j J t=>ay t λa v L g M=>?_);subst L;obtain rfl:u=cN a:=C;exact⟨Vf j g,Vc m j g J λU Y N d=>⟨v,H2,N,d,M⟩⟩
def Vj(f:X.A.units+1<cLine)(j:PE X o td)(m:PE X i ty)(p:PE X value tv)(hs:d4 value (Z (.Subscript o i pos')) pos.line X.env=pure bi):PS X (.Assign [.Subscript o i pos'] value pos) (Vh td ty tv):=by intro c s d H D I h;refine wpAny_Assign_Subscript (aL (p c s d H _ I h) λr q z=>ay z λv w B C E=>aL (j c q d w _ B E) λu J z=>ay z λx H2 L M N=>aL (m c J d H2 _ L N) λiv s3 z=>ay z λy H3 O Q t=>ay t λa T U g Y=>?_) hs;subst U;obtain rfl:u=cN a:=M;exact Ve f O g Q C λs4 I4=>⟨d,T,I4,Y⟩
end
def Vk(h:Heap)(c:iu<h.objs.size):d6 P w H (h.push {cls:=.type "dict",data:=.dict #[]}) h.objs.size (.dK []):=⟨dZ _,beq_eq_false_iff_ne.mpr (bW (df c)),[],.nil,Heap.DictOf.new h⟩
def Vl:TE:=λ_ H Q=>∀p,H p=am->Q (.ref p) (upd H p (.dK []))
section
variable {X:Cx}{pos:Pos}
def Vm:PE X (.Dict [] [] pos) Vl:=λc s d H Q I h=> ZwH ⟨.ref s.heap.objs.size,_,I.laid (a:=s.heap.objs.size) (o:=.dK []) (t':=s.toks) (λ_ _ q=>cO _ q) (a9 _) (Vk s.heap I.big),W,h _ (I.aV.fresh (a9 _))⟩
end
def BX:List (TE×TE)->St->Hp->(List (V×V)->Hp->Prop)->Prop|[],_,H,Q=>Q [] H|(tk,d)::r,c,H,Q=>tk c H λx e=>d c e λy H2=>BX r c H2 λps f=>Q ((x,y)::ps) f
abbrev VV:List (V×V)->List (ω×ω)->Prop:=Paired λp q=>RelV p.1 q.1/\RelV p.2 q.2
def BY(X:Cx)(pos:Pos)(keys:List (Option Expr))(c:List Expr)(e:List (TE×TE)):Prop:=∀(d:Zaa)(s:ψ)(f:St)(H:Hp)(Q:List (V×V)->Hp->Prop),Inv X d f H s->BX e f H Q-> wpAny 'd' X.A (evalPairs (pairTrees keys c X.env pos)) (λvs s'=>∃ps H',Inv X d f H' s'/\VV ps vs/\Q ps H') X.xe s
def Vn:BY X pos [] [] []:=λc s d H Q I h=>pairTrees_nil_walk ⟨[],H,I,.nil,h⟩
def Vo(g:PE X k tk)(i:PE X v j)(hr:BY X pos ks vs d):BY X pos (Z k::ks) (v::vs) ((tk,j)::d):=λc s e H Q I h=> pairTrees_cons_walk (aL (g c s e H _ I h) λu m z=>ay z λx p q r t=>aL (i c m e p _ q t) λM w z=>ay z λy H2 A B C=> aL (hr c w e H2 _ A C) λws N z=>ay z λps E J f L=>⟨(x,y)::ps,E,J,.cons ⟨r,B⟩ f,L⟩)
end L2
namespace DL
open PySem PySem.Spec PyProof.Rows L2
inductive D where|aD|bl (b:Bool)|int (i:Int)|str (x:Str)|tup (xs:List D)|lst (xs:List D)|bI (ns:List Int)|aW (ks:List Key) (vs:List D)|tab (ks vs:List D)|obj (C:Λ) (ks:List Str) (vs:List D)
abbrev _root_.Zad:=List D->Option D
def gB:Nat->Heap->ω->D->Prop|n+1,h,.ref b,.tup ds=>∃c:List ω,IsTup h b c.toArray/\c.length=ds.length/\∀p∈c.zip ds,gB n h p.1 p.2|_+1,_,.int i _,.int j=>i=j|_+1,_,.str x _,.str y=>x=y|_,_,_,_=>False
theorem IsTup.inj{x y:List ω}(a:IsTup h b x.toArray)(c:IsTup h b y.toArray):x=y:=by refine aJ a λo e _ z=>hZ z λn q=>aJ c λd f _ z=>hZ z λg i=>?_;simp_all
theorem IE{d e:Type}{R:d->e->Prop}(h:∀a x y,R a x->R a y->x=y):∀{l:List d}{xs ys:List e},l.length=xs.length->l.length=ys.length->(∀p∈l.zip xs,R p.1 p.2)->(∀p∈l.zip ys,R p.1 p.2)->xs=ys|[],[],[],_,_,_,_=>rfl|a::l,x::xs,y::ys,i,j,f,g=>by have:=IE h (l:=l) (xs:=xs) (ys:=ys) 'm' 'm' (λp c=>f p (by simp[c])) λp c=>g p (by simp[c]);rw[this,h a x y (f (a,x) (by exact .head _)) (g (a,y) (by exact .head _))]
theorem gB.inv{n:Nat}(a:gB n h v d):(∃m b ds c,n=m+1/\v=.ref b/\d=.tup ds/\IsTup h b (c:List ω).toArray/\c.length=ds.length/\∀p∈c.zip ds,gB m h p.1 p.2)\/(∃i t,v=.int i t/\d=.int i)\/∃x t,v=.str x t/\d=.str x:=by cases n with|zero=>exact dX a|succ n=>cases v with
  |ref b=>cases d with|tup ds=>obtain⟨c,q⟩:=a;exact .inl ⟨n,b,ds,c,W,W,W,q⟩|_=>exact dX a
  |int i t=>cases d with|int j=>exact .inr (.inl ⟨i,t,W,congrArg D.int (Gr a)⟩)|_=>exact dX a
  |str x t=>cases d with
   |str y=>exact .inr (.inr ⟨x,t,W,congrArg D.str (Gr a)⟩)|_=>exact dX a
  |_=>exact dX a
theorem gB.inj(n:Nat):∀(v:ω)(x y:D),gB n h v x->gB n h v y->x=y:=by induction n with|zero=>exactλ_ _ _ a _=>dX a|succ n d=>
  intro v x y a c;rcases a.inv with⟨m,b,ds,i1,e,rfl,rfl,t1,l1,f⟩|⟨i,t,rfl,rfl⟩|⟨i,t,rfl,rfl⟩<;>rcases c.inv with⟨r,u,g,i2,j,ev,rfl,t2,l2,p⟩|⟨q,t',ev,rfl⟩|⟨q,t',ev,rfl⟩<;>cases ev;·cases e;cases j;cases IsTup.inj t1 t2;rw[IE d l1 l2 f p]
  ·rfl
  ·rfl
def gB.keeps(k:∀b c,IsTup h b c->IsTup h' b c)(n:Nat):∀(v:ω)(x:D),gB n h v x->gB n h' v x:=by induction n with|zero=>exactλ_ _ a=>dX a|succ n d=>
  intro v x a;rcases a.inv with⟨m,b,ds,i1,e,rfl,rfl,t1,l1,f⟩|⟨i,t,rfl,rfl⟩|⟨i,t,rfl,rfl⟩;·cases e;exact⟨i1,k _ _ t1,l1,λp g=>d _ _ (f p g)⟩
  ·rfl
  ·rfl
noncomputable instance:DecidableEq D:=λ_ _=>Gs _
theorem Vp{xs ys:List D}{n:Nat}(c:n=xs.length)(d:m=ys.length):((gd (min n m)).all (λj=>decide (xs[j]?=ys[j]?))&&n==m)=decide (D.tup xs=D.tup ys):=by
 subst c d;rw[rC,cV,hY,decide_eq_true_eq,beq_iff_eq];constructor;·rintro⟨a,b⟩;congr 1;refine Gu λj=>?_;grind
 ·intro h;cases h;simp
def x5{c d:Type}{l:List c}{xs:List d}(h:j<l.length)(e:l.length=xs.length):∃x,xs[j]?=Z x/\(l[j],x)∈l.zip xs:=by refine⟨xs[j]'(by lia),cF 'm',?_⟩;rw[<-ZwI (h:=by simp;lia)];grind
theorem IF{s:ψ}:∀(n:Nat){A:Around}{u v:ω}{x y:D},A.units+n<cLine->gB n s.heap u x->gB n s.heap v y->rD A s u v (decide (x=y))
 |0,A,u,v,x,y,_,a,_=>dX a|n+1,A,u,v,x,y,E,a,c=>by
  have d:A.units<cLine:=by lia
  rcases a.inv with⟨m,b,xs,i1,e,rfl,rfl,t1,l1,f⟩|⟨i,t,rfl,rfl⟩|⟨i,t,rfl,rfl⟩<;>rcases c.inv with⟨H,g,ys,i2,h,rfl,rfl,t2,l2,p⟩|⟨j,t',rfl,rfl⟩|⟨j,t',rfl,rfl⟩;rotate_left;·rw[decide_eq_false (by exact D.noConfusion)];exact ZwJ _ _ t1 d
  ·rw[decide_eq_false (by exact D.noConfusion)];exact ZwK _ _ t1 d
  ·rw[decide_eq_false (by exact D.noConfusion)];exact ZwL _ _ t2 d
  ·rw[show decide (D.int i=D.int j)=(i==j) from rC.mpr (decide_eq_true_iff.trans (.trans ⟨D.int.inj,congrArg _⟩ beq_iff_eq.symm))];exact ZwM i t j t'
  ·rw[decide_eq_false (by exact D.noConfusion)];exact Qg _ _ _ _
  ·rw[decide_eq_false (by exact D.noConfusion)];exact ZwN _ _ t2 d
  ·rw[decide_eq_false (by exact D.noConfusion)];exact Qh _ _ _ _
  ·rw[show decide (D.str i=D.str j)=(i==j) from rC.mpr (decide_eq_true_iff.trans (.trans ⟨D.str.inj,congrArg _⟩ beq_iff_eq.symm))];exact ZwO i t j t'
  ·cases e;cases h;by_cases e:b=g
   ·subst e;rw[decide_eq_true (gB.inj (n+1) _ _ _ a c)];exact ZwP _
   refine SeqAt.EqAt.of_refs e ?_;rw[<-Vp (n:=i1.toArray.size) (m:=i2.toArray.size) (by simpa using l1) (by simpa using l2)];refine ZwQ t1 t2 d λj q r=>?_;obtain⟨x,w,z⟩:=x5 (by simpa using q) l1;obtain⟨y,B,C⟩:=x5 (by simpa using r) l2;rw[w,B,show decide (Z x=Z y)=decide (x=y) by rw[rC];simp];exact IF n 'c' (f _ z) (p _ C)
theorem IG{s:ψ}:∀(n:Nat){v:ω}{x:D}{Q:Bool->ψ->Prop},gB n s.heap v x->Q be s->wpAny (model P w) A (eqIsQuiet n v) Q E s
 |0,v,x,Q,a,_=>dX a|n+1,v,x,Q,a,h=>by
  rcases a.inv with⟨m,b,ds,c,e,rfl,rfl,t,l1,r⟩|⟨i,t,rfl,rfl⟩|⟨i,t,rfl,rfl⟩;rotate_left;·rw[ZwR _ W];exact χ h
  ·rw[ZwR _ W];exact χ h
  cases e;have g:=t.typeIs;refine aJ t λo p _ z=>hZ z λm y=>?_;unfold eqIsQuiet;refine υ (xo g F.slot_tuple_eq.lookup ?_);show wpAny _ _ (isInstance (.ref _) (.type "tuple")>>=_) _ _ s;refine υ (wpAny_isInstance g isSubtype_tuple_tuple ?_);simp only[QP,lC,if_false];refine υ (QQ p y ?_);refine υ ?_;show wpAny _ _ (forIn c.toArray _ _) _ _ s;rw[<-ZwS];refine ZwT _ (λrest r s'=>r.1=am/\s'=s/\∀v∈rest,∃d,gB n s.heap v d) _ ?_ ?_ _ _ ⟨W,W,λv C=>?_⟩;·rintro v rest r s' ⟨hr,rfl,h8⟩;obtain⟨d,q⟩:=h8 v bZ;refine υ (IG n q ?_);simp only[QP,lC,if_false];exact χ ⟨W,W,λu f=>h8 u (b8 _ f)⟩
  ·rintro⟨H,I⟩ s' ⟨hr,rfl,_⟩;simp only at hr;subst hr;exact χ h
  ·obtain⟨j,B,rfl⟩:=ZwU.mp (show v∈c by omega);obtain⟨x,_,q⟩:=x5 B l1;grind
noncomputable def mF(w:World):Nat->D->Int|_,.int i=>hashInt i|_,.str x=>hashStr w x|n+1,.tup ds=>QR (uJ (ds.map (mF w n)))|_,_=>0
noncomputable def vf:Nat->D->Nat|n+1,.tup ds=>(ds.map (vf n)).sum+1|_,_=>1
theorem IH{P:a8}{w:World}:∀(n:Nat){A:Around}{E:Zab}{s:ψ}{v:ω}{x:D}{Q:Int->ψ->Prop},A.units+n<cLine->gB n s.heap v x->Q (mF w n x) {s with toks:=s.toks+vf n x}->wpAny (model P w) A (pyHash v) Q E s
 |0,A,E,s,v,x,Q,_,a,_=>dX a|n+1,A,E,s,v,x,Q,B,a,h=>by
  rcases a.inv with⟨m,b,ds,j,e,rfl,rfl,t,l1,r⟩|⟨i,t,rfl,rfl⟩|⟨i,t,rfl,rfl⟩;rotate_left;·exact Zv8 h
  ·exact Zv9 h
  cases e;have c:=t.typeIs;refine aJ t λo q _ z=>hZ z λm u=>?_;unfold pyHash;first|unfold pyHashByItsType|skip
  first|refine υ (wpAny_cRoomFor_or (.inr 'c') ?_)|skip
  refine υ (xo c Gv.lookup ?_);show wpAny _ _ (if(Z (Value.builtin "tuple.__hash__")==Z eJ)=be then _ else _) Q E s;rw[if_neg (by rw[beq_builtin_none];exact dg)];refine υ (xo c Gv.lookup ?_);show wpAny _ _ (callSpecialIfBoundUnlessNone? (.ref _) "__hash__" _>>=_) Q E s;refine υ (wpAny_callSpecialIfBoundUnlessNone?_slot c Gv (mj Gv c F.entry_tuple_hash ?_ (F.args_tuple_hash_1 _)));show wpAny _ _ (QF (.ref _)>>=_) _ _ s;refine υ (wpAny_tupleItemsOf q u ?_);refine υ ?_;rw[<-ZwS];refine ZwT _ (λrest (b:Array Int) s'=>∃done left,ds=done++left/\rest.length=left.length/\(∀p∈rest.zip left,gB n s.heap p.1 p.2)/\b.toList=done.map (mF w n)/\s'={s with toks:=s.toks+(done.map (vf n)).sum}) _ ?_ ?_ _ _ ⟨[],ds,W,by omega,by simpa using r,W,W⟩;·rintro x rest b s' ⟨done,left,rfl,l,d,f,rfl⟩;cases left with|nil=>simp at l|cons k g=>refine υ (IH n 'm' (d (x,k) (by exact .head _)) ?_);exact χ ⟨done++[k],g,by simp,by simpa using l,λp y=>d p (by simp[y]),by simp[f],by simp[xp]⟩
  ·rintro b s' ⟨done,left,rfl,l,d,f,rfl⟩;have:left=[]:=by cases left<;>simp_all
   subst this;rw[eS]at h;show wpAny _ _ (retInt (uJ b.toList)) _ _ _;rw[f];refine wpAny_ret_mkInt ?_;show wpAny _ _ (if(decide (-(2:Int)^63<=uJ (done.map (mF w n)))&&decide (uJ (done.map (mF w n))<2^63))=be then _ else _) Q E _
   replace h:Q (QR (uJ (done.map (mF w n)))) {s with toks:=s.toks+((done.map (vf n)).sum+1)}:=h;unfold QR at h;by_cases hr:(decide (-(2:Int)^63<=uJ (done.map (mF w n)))&&decide (uJ (done.map (mF w n))<2^63))=be
   ·rw[if_pos hr];rw[if_pos hr]at h;exact χ (by simpa [xp]using h)
   ·rw[if_neg hr];rw[if_neg hr]at h;exact υ (xq (χ (by simpa [xp]using h)))
def Vq{h:Heap}{o:Obj}(i:h.get? d=Z o)(j:o.data=.dict es ep)(hs:lj d h h')(b:Λ)(f:Array ω)(x:IsTup h b f):IsTup h' b f:=by refine aJ x λg e c z=>hZ z λn q=>⟨g,(hs.2 b ?_).trans e,c,n,q⟩;grind
def kH(P:a8)(w:World):xr P w D where
 is:=λh d a=>gB 8 h (.ref a) d
 hash:=mF w 8
 draws:=vf 8
 room:=λA=>A.units+8<cLine
 inj:=λa b=>gB.inj 8 _ _ _ a b
 keeps:=λa e f hs=>gB.keeps (Vq e f hs) 8 _ _ a
 pyHash:=λc a h=>IH 8 c a h
 eqBool:=λc a b h=>IF 8 c a b _ _ _ _ h
 quiet:=λa h=>IG 8 a h
def dv(K:au)(T:Λ->Option (List V)):Nat->V->D->Prop|n+1,.ref b,.tup ds=>∃xs,(T b=Z xs\/cX K (λ_=>am) b xs)/\xs.length=ds.length/\∀p∈xs.zip ds,dv K T n p.1 p.2|_+1,.int i,.int j=>i=j|_+1,.str x,.str y=>x=y|_,_,_=>False
theorem dv.inv{K:au}{T:Λ->Option (List V)}{n:Nat}{v:V}(a:dv K T n v d):(∃m b ds xs,n=m+1/\v=.ref b/\d=.tup ds/\(T b=Z xs\/cX K (λ_=>am) b xs)/\xs.length=ds.length/\∀p∈xs.zip ds,dv K T m p.1 p.2)\/(∃i m,n=m+1/\v=.int i/\d=.int i)\/∃x m,n=m+1/\v=.str x/\d=.str x:=by cases n with|zero=>exact dX a|succ n=>cases v with
  |ref b=>cases d with|tup ds=>obtain⟨xs,q⟩:=a;exact .inl ⟨n,b,ds,xs,W,W,W,q⟩|_=>exact dX a
  |int i=>cases d with|int j=>exact .inr (.inl ⟨i,n,W,W,congrArg D.int (Gr a)⟩)|_=>exact dX a
  |str x=>cases d with
   |str y=>exact .inr (.inr ⟨x,n,W,W,congrArg D.str (Gr a)⟩)|_=>exact dX a
  |_=>exact dX a
def dv.mono{K:au}{T c:Λ->Option (List V)}(h:∀b xs,T b=Z xs->c b=Z xs)(n:Nat):∀(v:V)(x:D),dv K T n v x->dv K c n v x:=by induction n with|zero=>exactλ_ _ a=>dX a|succ n d=>
  intro v x a;rcases a.inv with⟨m,b,ds,xs,e,rfl,rfl,t,l,r⟩|⟨i,m,e,rfl,rfl⟩|⟨i,m,e,rfl,rfl⟩;·cases e;exact⟨xs,t.imp (h _ _) id,l,λp f=>d _ _ (r p f)⟩
  ·rfl
  ·rfl
def dv.raw{X:Cx}{s:ψ}(I:Inv X h O H s)(n:Nat):∀(v:V)(u:ω)(x:D),RelV v u->dv X.K (gZ H) n v x->gB n s.heap u x:=by induction n with|zero=>exactλ_ _ _ _ a=>dX a|succ n w=>
  intro v u x e a;rcases a.inv with⟨m,b,ds,xs,A,rfl,rfl,t,l,r⟩|⟨i,m,_,rfl,rfl⟩|⟨i,m,_,rfl,rfl⟩;rotate_left;·obtain⟨t,rfl⟩:=e;rfl
  ·obtain⟨t,rfl⟩:=e;rfl
  cases e;cases A;refine aJ (I.tuple (t.elim (λq=>.inl (qb.mp q)) λq=>q.elim (λz=>by injection z) .inr)) λf g p _=>⟨f,p,by rw[<-g.length,l],λq y=>?_⟩;obtain⟨j,B,rfl⟩:=ZwU.mp y;have c:j<xs.length:=by rw[rE]at B;have:=g.length;lia
  obtain⟨d,C,E⟩:=x5 c l;obtain⟨u,J,L⟩:=g.get (cF c);rw[ZwI];have M:=(bt.mp J).2;have N:=(bt.mp C).2;simp only[M,N];exact w _ _ _ L (r _ E)
def II(K:au)(a:Λ)(ks:List D)(vs:List V)(w:World)(T:Λ->Option (List V))(h:Heap):Prop:=(a==iu)=bi/\ks.length<=aA/\∃xs:List (D×Λ×ω),xs.map (·.1)=ks/\(∀x∈xs,dv K T 8 (.ref x.2.1) x.1)/\Vals vs (xs.map (·.2.2))∧ ∃o es ep,h.get? a=Z o/\o.ExactDict/\o.data=.dict es ep/\es.toList=xs.map (λx=>⟨mF w 8 x.1,.ref x.2.1,x.2.2⟩)/\ks.Nodup/\ep=ks.length
noncomputable abbrev cj(K:au)(a:Λ)(ks:List D)(vs:List V):HO:=.ext (II K a ks vs)
def x6{P:a8}{w:World}{h':Heap}{H':Hp}{K:au}{a:Λ}{ks:List D}{vs:List V}(m:II K a ks vs w (gZ H') h'):d6 P w H' h' a (cj K a ks vs):=⟨m,aQ m λ_ _ z=>bh z λ_ _ _ _ y=>eM y λo _ _ e _=>⟨o,e⟩,by rintro t1 t2 r t ⟨c,d,xs,f,g,h,o,es,ep,e,i⟩ j p;exact⟨c,d,xs,f,λx q=>dv.mono j 8 _ _ (g x q),h,o,es,ep,p o e,i⟩⟩
noncomputable def kD:Key->D|.inl i=>.int i|.inr x=>.str x
noncomputable def mG:D->Option Key|.int i=>Z (.inl i)|.str x=>Z (.inr x)|_=>am
noncomputable def nE:Key->Bool|.inl _=>be|.inr x=>decide (x.length<=aA)
abbrev St:=L2.St
def x8{K:au}{H H':Hp}{a:Λ}{xs:List V}(e:av H H')(h:cX K H a xs):cX K H' a xs:=by exact h.imp (e _ _) id
def Vr(e:av H H')(h:Rd H a u):Rd H' a u:=by
 rcases h with h|⟨o,h⟩;·exact .inl (e _ _ h)
 ·exact .inr ⟨o,e _ _ h⟩
mutual
inductive Rep(K:au)(H:Hp):V->D->Prop|aD:Rep K H .aD .aD|bl (b:Bool):Rep K H (.bl b) (.bl b)|int (i:Int):Rep K H (.int i) (.int i)|str (x:Str) (h:x.length<=aA):Rep K H (.str x) (.str x)|tup {a:Λ} {xs:List V} {ds:List D} (h:cX K H a xs) (r:az K H xs ds):Rep K H (.ref a) (.tup ds)|lst {a:Λ} {xs:List V} {ds:List D} (h:Rd H a (.lst xs)) (r:az K H xs ds):Rep K H (.ref a) (.lst ds)|bI {a:Λ} {ns:List Int} (h:bX K H a (ns.map V.int)):Rep K H (.ref a) (.bI ns)|aW {a:Λ} {ob:Obj} {ks:List Key} {vs:List V} {ds:List D} (h:H a=Z (.dM ob (.dK (ks.zip vs)))) (r:az K H vs ds) (hl:ks.length=vs.length) (hn:ks.Nodup/\∀k∈ks,nE k=be):Rep K H (.ref a) (.aW ks ds)|tab {a:Λ} {ks:List D} {vs:List V} {ds:List D} (h:H a=Z (cj K a ks vs)) (r:az K H vs ds):Rep K H (.ref a) (.tab ks ds)|obj {a dx C:Λ} {ks:List Str} {vs:List V} {ds:List D} (h:H a=Z (.ins C dx (ks.zip vs))) (r:az K H vs ds):Rep K H (.ref a) (.obj C ks ds)
inductive az(K:au)(H:Hp):List V->List D->Prop|nil:az K H [] []|cons {v:V} {d:D} {vs:List V} {ds:List D} (r:Rep K H v d) (t:az K H vs ds):az K H (v::vs) (d::ds)
end
section
variable {K:au}{H:Hp}
def lJ{c:(v:V)->Rep K H v (.int i)->Prop}(d:c (.int i) (.int i))(r:Rep K H v (.int i)):c v r:=by cases r;exact d
def mH{c:(v:V)->Rep K H v (.bl b)->Prop}(d:c (.bl b) (.bl b))(r:Rep K H v (.bl b)):c v r:=by cases r;exact d
def Vs{c:(v:V)->Rep K H v (.str x)->Prop}(str:∀h,c (.str x) (.str x h))(r:Rep K H v (.str x)):c v r:=by cases r with|str _ h=>exact str h
def sf{c:(v:V)->Rep K H v (.tup ds)->Prop}(tup:∀{a xs}(h:cX K H a xs)(r:az K H xs ds),c (.ref a) (.tup h r))(r:Rep K H v (.tup ds)):c v r:=by cases r with|tup h r=>exact tup h r
def RvL{c:(v:V)->Rep K H v (.lst ds)->Prop}(lst:∀{a xs}(h:Rd H a (.lst xs))(r:az K H xs ds),c (.ref a) (.lst h r))(r:Rep K H v (.lst ds)):c v r:=by cases r with|lst h r=>exact lst h r
def oQ{c:(m:List D)->az K H (a::l) m->Prop}(cons:∀{b m}(r:Rep K H a b)(t:az K H l m),c (b::m) (.cons r t))(r:az K H (a::l) m):c m r:=by cases r with|cons r t=>exact cons r t
def sh{c:(m:List D)->az K H [] m->Prop}(d:c [] .nil)(r:az K H [] m):c m r:=by cases r;exact d
def si{c:(l:List V)->az K H l (b::m)->Prop}(cons:∀{a l}(r:Rep K H a b)(t:az K H l m),c (a::l) (.cons r t))(r:az K H l (b::m)):c l r:=by cases r with|cons r t=>exact cons r t
def vh{c:(l:List V)->az K H l []->Prop}(d:c [] .nil)(r:az K H l []):c l r:=by cases r;exact d
end
def Rep.go{K:au}{H H':Hp}{P:D->Prop}{Q:List D->Prop}(m:∀{a xs ds},P (.tup ds)->cX K H a xs->cX K H' a xs)(f:∀{a xs ds},P (.lst ds)->Rd H a (.lst xs)->Rd H' a (.lst xs))(hs:∀{a}{ns:List Int},P (.bI ns)->bX K H a (ns.map V.int)->bX K H' a (ns.map V.int))(t:∀{a ob e}{ks:List Key}{ds},P (.aW ks ds)->H a=Z (.dM ob (.dK e))->H' a=Z (.dM ob (.dK e)))(u:∀{a ks vs ds},P (.tab ks ds)->H a=Z (cj K a ks vs)->H' a=Z (cj K a ks vs))(w:∀{a C g e ks ds},P (.obj C ks ds)->H a=Z (.ins C g e)->H' a=Z (.ins C g e)) (q:∀{ds},P (.tup ds)\/P (.lst ds)\/(∃ks,P (.aW ks ds))\/(∃ks,P (.tab ks ds))\/(∃C ks,P (.obj C ks ds))->Q ds) (j:∀{d ds},Q (d::ds)->P d/\Q ds) {v:V} {d:D} (r:Rep K H v d):P d->Rep K H' v d:=Rep.rec (motive_1:=λv d _=>P d->Rep K H' v d) (motive_2:=λvs ds _=>Q ds->az K H' vs ds) (λ_=>.aD) (λb _=>.bl b) (λi _=>.int i) (λx h _=>.str x h) (λh _ c p=>.tup (m p h) (c (q (.inl p)))) (λh _ c p=>.lst (f p h) (c (q (.inr (.inl p))))) (λh p=>.bI (hs p h)) (λh _ f hn c p=>.aW (t p h) (c (q (.inr (.inr (.inl ⟨_,p⟩))))) f hn) (λh _ c p=>.tab (u p h) (c (q (.inr (.inr (.inr (.inl ⟨_,p⟩))))))) (λh _ c p=>.obj (w p h) (c (q (.inr (.inr (.inr (.inr ⟨_,_,p⟩))))))) (λ_=>.nil) (λ_ _ a b p=>.cons (a (j p).1) (b (j p).2)) r
def az.go{K:au}{H H':Hp}{P:D->Prop}{Q:List D->Prop}(e:∀{v d},Rep K H v d->P d->Rep K H' v d)(c:∀{d ds},Q (d::ds)->P d/\Q ds){vs:List V}:∀{ds:List D},az K H vs ds->Q ds->az K H' vs ds:=by induction vs with|nil=>intro ds r _;induction r using sh;exact .nil|cons v vs f=>intro ds r p;induction r using oQ with|cons r t=>exact .cons (e r (c p).1) (f t (c p).2)
def Rep.mono{K:au}{H H':Hp}(e:av H H'){v:V}(r:Rep K H v d):Rep K H' v d:=r.go (P:=λ_=>True) (Q:=λ_=>True) (λ_ h=>x8 e h) (λ_ h=>Vr e h) (λ_ h=>e.seq h) (λ_ h=>e _ _ h) (λ_ h=>e _ _ h) (λ_ h=>e _ _ h) (λ_=>trivial) (λ_=>⟨trivial,trivial⟩) trivial
theorem az.mono{K:au}{H H':Hp}(e:av H H'){vs:List V}{ds:List D}(r:az K H vs ds):az K H' vs ds:=r.go (P:=λ_=>True) (Q:=λ_=>True) (λr _=>r.mono e) (λ_=>⟨trivial,trivial⟩) trivial
theorem az.length{K:au}{H:Hp}:∀{vs:List V}{ds:List D},az K H vs ds->vs.length=ds.length|_,_,.nil=>rfl|_,_,.cons _ t=>by rw[bz,bz,az.length t]
theorem az.get{K:au}{H:Hp}:∀{vs:List V}{ds:List D}{i:Nat}{d:D},az K H vs ds->ds[i]?=Z d->∃v,vs[i]?=Z v/\Rep K H v d|_,_,_,_,.nil,e=>by simp at e|_,_,0,_,.cons r _,e=>by simp at e;subst e;exact⟨_,W,r⟩|_,_,i+1,d,.cons _ t,e=>by obtain⟨v,c,f⟩:=az.get (i:=i) (d:=d) t (by simpa using e);exact⟨v,by simpa using c,f⟩
def az.append{K:au}{H:Hp}{vs:List V}:∀{ws:List V}{ds es:List D},az K H vs ds->az K H ws es->az K H (vs++ws) (ds++es):=by induction vs with|nil=>intro ws ds es h s;induction h using sh;exact s|cons v vs c=>intro ws ds es h s;induction h using oQ with|cons r t=>exact .cons r (c t s)
theorem az.drop{K:au}{H:Hp}:∀{vs:List V}{ds:List D}(n:Nat),az K H vs ds->az K H (vs.drop n) (ds.drop n)|_,_,0,r=>r|_,_,_+1,.nil=>.nil|_,_,n+1,.cons _ t=>az.drop n t
theorem az.take{K:au}{H:Hp}:∀{vs:List V}{ds:List D}(n:Nat),az K H vs ds->az K H (vs.take n) (ds.take n)|_,_,0,_=>.nil|_,_,_+1,.nil=>.nil|_,_,n+1,.cons r t=>.cons r (az.take n t)
def az.snoc{K:au}{H:Hp}{vs:List V}{ds:List D}{v:V}(r:az K H vs ds)(q:Rep K H v d):az K H (vs++[v]) (ds++[d]):=r.append (.cons q .nil)
theorem vj{K:au}{H:Hp}:∀ns:List Int,az K H (ns.map V.int) (ns.map D.int)|[]=>.nil|n::r=>.cons (.int n) (vj r)
abbrev ai:=List (Option D)
abbrev _root_.Zae:=ai->Option Bool
abbrev _root_.Zaf:=ai->Option D
abbrev _root_.Zag:=ai->Option (List D)
abbrev _root_.Zah:=D->ai->Option ai
structure cD(K:au)(H:Hp)(σ:St)(ρ:ai):Prop where
 len:σ.length=ρ.length
 get:∀(i:Nat)(d:D),ρ[i]?=Z (Z d)->∃v,σ[i]?=Z (Z v)/\Rep K H v d
theorem cD.mono{K:au}{H H':Hp}{c:St}{f:ai}(r:cD K H c f)(e:av H H'):cD K H' c f:=⟨r.len,λi d h=>ax (r.get i d h) λv g j=>⟨v,g,j.mono e⟩⟩
theorem cD.set{K:au}{H:Hp}{f:St}{c:ai}{v:V}(r:cD K H f c)(i:Nat)(q:Rep K H v d):cD K H (f.set i (Z v)) (c.set i (Z d)):=by
 refine⟨by rw[d9,d9];exact r.len,λj e h=>?_⟩;by_cases g:i=j
 ·subst g;by_cases m:i<c.length;·rw[gq m]at h;cases h;exact⟨v,gq (by rw[r.len];exact m),q⟩
  ·rw[Gw.mpr (by rw[d9];lia)]at h;injection h
 ·rw[c4 g]at h⊢;exact r.get j e h
def tD(K:au)(f:Zaf):TE:=λe H Q=>∃c d,cD K H e c/\f c=Z d/\∀v H',av H H'->Rep K H' v d->Q v H'
def IJ(K:au)(f:Zae):TT:=λd H Q=>∃c b,cD K H d c/\f c=Z b/\∀H',av H H'->Q b H'
def Vt(K:au)(f:Zag):TA:=λd H Q=>∃c ds,cD K H d c/\f c=Z ds/\∀vs H',av H H'->az K H' vs ds->Q vs H'
abbrev DE(X:Cx)(e:Expr)(f:Zaf):Prop:=PE X e (tD X.K f)
abbrev DT(X:Cx)(e:Expr)(f:Zae):Prop:=PT X e (IJ X.K f)
abbrev DW(X:Cx)(e:Expr)(f:Zae):Prop:=PW X e (IJ X.K f)
abbrev oR(X:Cx)(es:List Expr)(f:Zag):Prop:=PA X es (Vt X.K f)
def cR(h:PE X e t)(f:∀c H Q,t' c H Q->t c H Q):PE X e t':=λd s c H Q I hw=>h d s c H Q I (f c H Q hw)
def vm(h:PT X e t)(f:∀c H Q,t' c H Q->t c H Q):PT X e t':=λd s c H Q I hw=>h d s c H Q I (f c H Q hw)
def IK(h:PW X e t)(f:∀c H Q,t' c H Q->t c H Q):PW X e t':=λg d s c H Q I hw=>h g d s c H Q I (f c H Q hw)
def IM(h:PA X es t)(e:∀c H Q,t' c H Q->t c H Q):PA X es t':=λp d s c H Q I hw=>h p d s c H Q I (e c H Q hw)
def cM{st:Stmt}(h:PS X st t)(f:∀c d H,t' c d H->t c d H):PS X st t':=λe s d H c I hw=>h e s d H c I (f c d H hw)
def jJ{st:List Stmt}(h:gr X st t)(f:∀c d H,t' c d H->t c d H):gr X st t':=λe s d H c I hw=>h e s d H c I (f c d H hw)
def bind_some{c d:Type}{o:Option c}{f:c->Option d}{b:d}(h:o.bind f=Z b):∃a,o=Z a/\f a=Z b:=by cases o with|none=>injection h|some a=>exact⟨a,W,h⟩
section
variable {X:Cx}{e b c:Expr}{es:List Expr}{pos:Pos}{f fa fb fc:Zaf}{fs:Zag}
noncomputable def aa(i:Nat):Zaf:=λg=>match g[i]? with|some (Z d)=>Z d|_=>am
def vo(h:aa i g=Z d):g[i]?=Z (Z d):=by unfold aa at h;cases q:g[i]? with|none=>rw[q]at h;injection h|some o=>rw[q]at h;cases o with|none=>injection h|some d'=>exists h;rfl
noncomputable def cC(d:D):Zaf:=λ_=>Z d
def IP{x}(g:x.length<=aA:=by decide):DE X (.Constant (.str x) j pos) (cC (.str x)):=cR R_ λi H Q z=>ay z λm d r h q=>by exists h;exact q _ H 'v' (.str x g)
def Vu(g:Gl X x)(i:X.mg x=Z u)(r:RelV v u)(hr:∀H,Rep X.K H v d)(j:'f'=bi:=by decide):DE X (.Name x pos) (cC d):=cR (Sa g i r j) λm H Q z=>ay z λp d' _ h q=>by exists h;exact q v H 'v' (hr H)
noncomputable def nF:Zag:=λ_=>Z []
noncomputable def x9(f:Zaf)(g:Zag):Zag:=λh=>(f h).bind λd=>(g h).bind λds=>Z (d::ds)
def x_:oR X [] nF:=IM eT λd H Q z=>ay z λg ds r h q=>by exists h;exact q _ H 'v' .nil
def vq(p:DE X e f)(hr:oR X es fs)(hs:bq (e::es) X.env=(bi,eval e X.env)::bq es X.env:=by rfl):oR X (e::es) (x9 f fs):=IM (ed p hr hs) λy H Q z=>ay z λi ds r h q=>by
  refine bS h λd t h=>bS h λg u h=>?_
  exists h;exact⟨i,d,r,t,λv A j w=>⟨i,g,r.mono j,u,λvs H2 m x=>q _ H2 (j.trans m) (.cons (w.mono m) x)⟩⟩
def dj(h:H p=am)(o:HO):av H (upd H p o):=λb u q=>dD q (gY q h)
noncomputable def aH(g:Zag):Zaf:=λd=>(g d).bind λds=>Z (.tup ds)
noncomputable def jc(g:Zag):Zaf:=λd=>(g d).bind λds=>Z (.lst ds)
def ya(n:Nat)(g:Zag):Prop:=∀d ds,g d=Z ds->ds.length<=n
def Vv:ya 0 nF:=λd ds h=>by exists h;exact a9 _
def Vw{n:Nat}(h:ya n fs):ya (n+1) (x9 f fs):=λi ds q=>by
 refine bS q λd m q=>bS q λg j q=>?_
 exists q;rw[bz];exact xm (h i g j)
def oS(X:Cx)(j:ω->ω->Sem ω)(g:D->D->Option D):Prop:=c7 X j (λx y H Q=>∃h i d,Rep X.K H x h/\Rep X.K H y i/\g h i=Z d/\∀v H',av H H'->Rep X.K H' v d->Q v H')
noncomputable def ab(g:D->D->Option D)(fa fb:Zaf):Zaf:=λd=>(fa d).bind λx=>(fb d).bind λy=>g x y
variable {g g':D->D->Option D}
theorem BZ(h:ab g fa fb=f){r:R2}(hr:r=λx y H Q=>∃i j d,Rep X.K H x i/\Rep X.K H y j/\g i j=Z d/\∀v H',av H H'->Rep X.K H' v d->Q v H'):∀m H Q,tD X.K f m H Q->uZ r (tD X.K fa) (tD X.K fb) m H Q:=by subst h hr;rintro m H Q ⟨p,d,R,e,q⟩;exact bS e λi A e=>bS e λj B e=>⟨p,i,R,A,λv L t C=>⟨p,j,R.mono t,B,λu H2 w E=>⟨i,j,d,C.mono w,E,e,λz H' I J=>q z H' (t.trans (w.trans I)) J⟩⟩⟩
noncomputable def cB(f:Zaf):Zae:=λh=>(f h).bind λd=>match d with|.bl b=>Z b|_=>am
def sj{k:Bool}(h:cB f i=Z k):f i=Z (.bl k):=by refine bS h λd j h=>?_;cases d<;>first|(cases h;exact j)|cases h
noncomputable def iI(t u:Zae):Zae:=λd=>(t d).bind λc=>if c=be then u d else Z bi
noncomputable def oT(t u:Zae):Zae:=λd=>(t d).bind λc=>if c=be then Z be else u d
noncomputable def g_(t:Zae):Zae:=λd=>(t d).bind λc=>Z (!c)
def gu(f g:Zaf):Zaf:=λd=>(cB f d).bind λc=>if c=be then g d else Z (.bl bi)
def qo(f g:Zaf):Zaf:=λd=>(cB f d).bind λc=>if c=be then Z (.bl be)else g d
def B0(f:Zaf):Zaf:=λd=>(cB f d).bind λc=>Z (.bl (!c))
noncomputable def mI(g g':D->D->Option D)(fa fb fc:Zaf):Zaf:=λd=>(fa d).bind λx=>(fb d).bind λy=>(g x y).bind λz=>match z with|.bl be=>(fc d).bind λw=>g' y w|.bl bi=>Z (.bl bi)|_=>am
end
inductive Out where|aF (ρ:ai)|ret (d:D)|brk (ρ:ai)|cnt (ρ:ai)
abbrev _root_.Zai:=ai->Option Out
def vt(K:au)(f:Ends)(H:Hp):Out->Prop|.aF e=>∀c H',av H H'->cD K H' c e->f.nx c H'|.ret d=>∀v H',av H H'->Rep K H' v d->f.rt v H'|.brk e=>∀c H',av H H'->cD K H' c e->f.bk c H'|.cnt e=>∀c H',av H H'->cD K H' c e->f.ct c H'
def vt.mono{K:au}{f:Ends}{H H':Hp}{o:Out}(h:vt K f H o)(e:av H H'):vt K f H' o:=by cases o with|aF g=>exactλc H2 s r=>h c H2 (e.trans s) r|ret d=>exactλc H2 s r=>h c H2 (e.trans s) r|brk g=>exactλc H2 s r=>h c H2 (e.trans s) r|cnt g=>exactλc H2 s r=>h c H2 (e.trans s) r
def IQ(K:au)(g:Zai):TS:=λd e H=>∃c o,cD K H e c/\g c=Z o/\vt K d H o
abbrev DS(X:Cx)(st:Stmt)(g:Zai):Prop:=PS X st (IQ X.K g)
abbrev yb(X:Cx)(st:List Stmt)(g:Zai):Prop:=gr X st (IQ X.K g)
section
variable {X:Cx}{e c:Expr}{st:Stmt}{rest:List Stmt}{f:Zaf}{g u:Zai}{t:Zae}
noncomputable def b5:Zai:=λd=>Z (.aF d)
noncomputable def a7(g u:Zai):Zai:=λd=>(g d).bind λo=>match o with|.aF ρ'=>u ρ'|o=>Z o
theorem Vx(h:DS X st g)(j:yb X rest u):yb X (st::rest) (a7 g u):=jJ (lE h j) λv w H z=>ay z λm o R e q=>by refine bS e λi h e=>⟨m,i,R,h,?_⟩;cases i with|aF ρ'=>exactλp H' s r=>⟨ρ',o,r,e,q.mono s⟩|ret d=>exists e;exact q|brk ρ'=>exists e;exact q|cnt ρ'=>exists e;exact q
noncomputable def a_(f:Zaf):Zai:=λh=>(f h).bind λd=>Z (.ret d)
noncomputable def bD(t:Zae)(g u:Zai):Zai:=λd=>(t d).bind λc=>if c=be then g d else u d
noncomputable def et(i:Nat)(f:Zaf):Zai:=λh=>(f h).bind λd=>Z (.aF (h.set i (Z d)))
end
def kJ(K:au)(F:Zad):Sp:=λvs H Q _=>∃ds d,az K H vs ds/\F ds=Z d/\∀v H',av H H'->Rep K H' v d->Q v H'
structure Callee(P:a8)(w:World)(K:au)(mg:Zac)(base:Heap)(k:Nat)(x:Str)(F:Zad):Prop where ex:∃(f:Λ)(fd:dt)(ps:List Str),mg x=Z (.ref f)/\ma K (.ref f)=be/\i8 K fd ps []/\cP P w K mg base cL k f fd ps (kJ K F)
noncomputable def aw(F:Zad)(g:Zag):Zaf:=λc=>(g c).bind F
section
variable {X:Cx}{e:Expr}{es:List Expr}{pos p:Pos}{fs:Zag}{x:Str}
def Vy{k:Nat}(C:Callee X.prog X.w X.K X.mg X.base k x F)(hr:bA k X.A)(h:Gl X x)(i:oR X (e::es) fs)(c:'f'=bi:=by decide)(j:bq (e::es) X.env=(bi,eval e X.env)::bq es X.env:=by rfl)(g:(dW pos (bq es X.env)).any (·.1)=bi:=by rfl):DE X 'p' (aw F fs):=by refine aS C.ex λf N ps m r z=>aM z λt u=>?_;clear z;exact cR (Uh u hr h m r t .nil r0 i c j g) λO H Q y=>ay y λB d R e q=>bS e λds E e=>⟨B,ds,R,E,λvs T I J=>⟨ds,d,by rw[eS];exact J,e,λv H' L M=>q v H' (I.trans L) M⟩⟩
end
noncomputable def lK(n:Nat)(ds:List D):ai:=ds.map Z++lx (n-ds.length) am
def Vz{K:au}{H:Hp}{N:List Str}{vs:List V}{ds:List D}(r:az K H vs ds):cD K H (start N vs) (lK N.length ds):=by
 have c:=r.length;refine⟨by simp[L2.start,lK,c],λi d h=>?_⟩;unfold lK at h;by_cases e:i<ds.length;·rw[gL (by simpa using e),bJ]at h;cases q:ds[i]? with|none=>rw[q]at h;cases h|some d'=>rw[q]at h;cases h;obtain⟨v,f,g⟩:=r.get q;refine⟨v,?_,g⟩;unfold L2.start;rw[gL (by simp[c];exact e),bJ,f];rfl
 ·rw[ku (by simp;lia),xu]at h;split at h<;>cases h
section
variable {X:Cx}
def c7.imp(h:c7 X f r)(hr:∀x y H Q,r' x y H Q->r x y H Q):c7 X f r':=λc s d H x y v u Q I e g q=>h c s d H x y v u Q I e g (hr x y H Q q)
def c7.cases(h:∀x y H Q,r x y H Q->∃r',c7 X f r'/\r' x y H Q):c7 X f r:=λc s d H x y v u Q I e g q=>by obtain⟨r',i,j⟩:=h x y H Q q;exact i c s d H x y v u Q I e g j
noncomputable def aP:D->D->Option D|.int i,.int j=>Z (.int (i+j))|.str x,.str y=>if x.length+y.length<=aA then Z (.str (x++y))else am|.tup xs,.tup ys=>if(!xs.isEmpty)=be/\xs.length+ys.length<=aA then Z (.tup (xs++ys))else am|.lst xs,.lst ys=>if xs.length+ys.length<=aA then Z (.lst (xs++ys))else am|_,_=>am
theorem IS(x y:Str):(x++y).length=x.length+y.length:=by show(x.cps++y.cps).size=_;rw[Array.size_append]<;>rfl
def Inv.vu{s:ψ}{xs:List V}(I:Inv X d f H s)(h:Rd H l (.lst xs)):∃(c:List ω)(n:Nat),Vals xs c/\xs.length=c.length/\s.heap.get? l=Z {cls:=.type "list",data:=.seq c.toArray n}/\xs.length<=aA:=by refine aM (h.ok I.aV) λz y=>cA y λc n r e=>?_;clear y;exact⟨c,n,r,r.length,e,z⟩
def VA:R2:=λx y H Q=>∃l b xs c,x=.ref l/\y=.ref b/\Rd H l (.lst xs)/\Rd H b (.lst c)/\xs.length+c.length<=aA/\∀p,H p=am->Q (.ref p) (upd H p (.lst (xs++c)))
def IT:c7 X (hV .Add) VA:=by
 intro i s L H x y v u Q I j m h;refine aU h λl b xs t=>bh t λM f g p w=>aQ w λA hz q=>?_;clear h t w;subst f;subst g;cases j;cases m;refine bV (Inv.vu I p) λd n r N e z=>bV (Inv.vu I A) λc n2 B C E z2=>PySem.P.add_list e E ?_ (by rw[dY,dY];lia);have J:d.toArray++c.toArray=(d++c).toArray:=by simp
 rw[J];exact⟨.ref _,_,I.UW (t':=s.toks) (r.append B) (by rw[bH];omega),W,q _ I.fresh⟩
def IU:oS X (hV .Add) aP:=c7.cases λx y H Q u=>aS u λA B d w f t=>aM t λe q=>by induction w using Rep.casesOn with
 |int i=>induction f using Rep.casesOn with
  |int j=>exists e;exact⟨_,Tq,i,j,W,W,q _ H 'v' (.int _)⟩|_=>injection e
 |str x C=>induction f using Rep.casesOn with|str y E=>have c:(if x.length+y.length<=aA then Z (D.str (x++y))else am)=Z d:=e;refine bR c λhz c=>?_;exists c;exact⟨_,TQ,x,y,W,W,hz,q _ H 'v' (.str _ (by rw[IS];exact hz))⟩|_=>injection e
 |@tup a xs ds h r=>induction f using Rep.casesOn with
  |@tup b ys es m f=>
   have c:(if(!ds.isEmpty)=be/\ds.length+es.length<=aA then Z (D.tup (ds++es))else am)=Z d:=e;refine bR c λhz c=>?_;exists c;obtain⟨v,hz⟩:=hz;have l1:=r.length;have l2:=f.length;refine⟨_,UD,a,b,xs,ys,W,W,h,m,?_,by lia,?_,?_⟩
   ·intro z;subst z;cases ds with
    |nil=>simp at v
    |cons _ _=>simp at l1
   ·intro z;subst z;cases es with
    |nil=>rw[eS]at q;exact q _ H 'v' (.tup h r)
    |cons _ _=>simp at l2
   ·intro z p g;exact q _ _ (dj g _) (.tup (.of br) ((r.append f).mono (dj g _)))
  |_=>injection e
 |@lst a xs ds h r=>
  induction f using Rep.casesOn with
  |@lst b ys es m f=>have c:(if ds.length+es.length<=aA then Z (D.lst (ds++es))else am)=Z d:=e;refine bR c λhz c=>?_;exists c;have l1:=r.length;have l2:=f.length;exact⟨_,IT,a,b,xs,ys,W,W,h,m,by omega,λp g=>q _ _ (dj g _) (.lst (.inl br) ((r.append f).mono (dj g _)))⟩
  |_=>injection e
 |_=>injection e
noncomputable def d1(h:Int->Int->Option D):D->D->Option D|.int i,.int j=>h i j|_,_=>am
def IV{h:Int->Int->Option D}(e:d1 h x y=Z d):∃i j,x=.int i/\y=.int j/\h i j=Z d:=by cases x<;>first|injection e|(cases y<;>first|injection e|exact⟨_,_,W,W,e⟩)
def Rep.yc{K:au}{H:Hp}{v:V}(r:Rep K H v (.int i)):v=.int i:=by induction r using lJ;rfl
def dI(C:Int->Int->Prop)[∀i j,Decidable (C i j)](g:Int->Int->D):D->D->Option D:=d1 λi j=>if C i j then Z (g i j)else am
def B1[∀i j,Decidable (C i j)](m:c7 X p (rI C v))(hr:∀H i j,Rep X.K H (v i j) (g i j)):oS X p (dI C g):=c7.imp m λx y H Q z=>aS z λA B d r t u=>aM u λe q=>by refine ay (IV e) λi j c f h=>?_;subst c;subst f;refine bR h λw h=>?_;exists h;exact⟨i,j,r.yc,t.yc,w,q _ H 'v' (hr H i j)⟩
def d0(g:Int->Int->D):D->D->Option D:=d1 λi j=>Z (g i j)
def yd(h:c7 X m (oP v))(hr:∀H i j,Rep X.K H (v i j) (g i j)):oS X m (d0 g):=c7.imp h λx y H Q z=>aS z λw A d p r u=>aM u λe q=>by refine ay (IV e) λi j c f t=>?_;subst c;subst f;exists t;exact⟨i,j,p.yc,r.yc,q _ H 'v' (hr H i j)⟩
noncomputable instance(i j:Int):Decidable (mD i j):=by unfold mD;infer_instance
noncomputable instance(i j:Int):Decidable (HA i j):=by unfold HA;infer_instance
def iz:D->D->Option D:=d0 λi j=>.int (i-j)
def iJ:D->D->Option D:=dI mD λi j=>.int (i*j)
def iK:D->D->Option D:=dI (λ_ j=>0<j) λi j=>.int (i%j)
noncomputable def bM(x y:Str):Bool:=decide (x.cps.toList<y.cps.toList)
def j9:D->D->Option D:=d0 λi j=>.bl (decide (i<j))
def jK:D->D->Option D:=d0 λi j=>.bl (decide (i<=j))
def iL:D->D->Option D:=d0 λi j=>.bl (decide (j<i))
noncomputable def h_:D->D->Bool|.aD,.aD=>be|.bl a,.bl b=>a==b|.bl a,.int b=>(if a then 1 else 0)==b|.int a,.bl b=>a==(if b then 1 else 0)|.int a,.int b=>a==b|.str a,.str b=>a==b|_,_=>bi
noncomputable def j_:D->Bool|.bI _=>be|.aW _ _=>be|.tab .. =>be|.obj .. =>be|.lst _=>be|_=>bi
def B2(x y:D):Option Bool:=if(j_ x||j_ y)=be then am else Z (h_ x y)
mutual
noncomputable def cY:Nat->D->D->Option Bool|0,.tup _,.tup _=>am|n+1,.tup xs,.tup ys=>(iM n xs ys).map λb=>b&&xs.length==ys.length|_,x,y=>B2 x y
noncomputable def iM:Nat->List D->List D->Option Bool|n,x::xs,y::ys=>(cY n x y).bind λb=>(iM n xs ys).map λc=>b&&c|_,_,_=>Z be
end
def Inv.nG{s:ψ}(I:Inv X d e H s)(h:cX X.K H a xs):∃c:List ω,Vals xs c/\s.heap.IsTuple a c.toArray:=by exact aJ (I.tuple h) λc r p _=>⟨c,r,p⟩
def Inv.oU{s:ψ}(I:Inv X d f H s)(h:Rd H a (.lst xs)):∃c:List ω,Vals xs c/\s.heap.IsList a c.toArray:=by exact bV (Inv.vu I h) λc n r g e _=>⟨c,r,⟨_,e,W,_,W⟩⟩
end
noncomputable def jL:D->Bool|.tup _=>be|_=>bi
def sr(h:jL d=be):∃xs,d=.tup xs:=by cases d<;>first|exact⟨_,W⟩|injection h
theorem IW(n:Nat)(x y:D)(c:(jL x&&jL y)=bi):cY n x y=B2 x y:=by cases n<;>cases x<;>first|rfl|(cases y<;>first|rfl|injection c)
def IX{n:Nat}(c:(jL x&&jL y)=bi)(h:cY n x y=Z b):b=h_ x y/\j_ x=bi/\j_ y=bi:=by rw[IW n x y c,B2]at h;simp_all
def B3{n:Nat}{xs ys:List D}(h:cY n (.tup xs) (.tup ys)=Z b):∃m c,n=m+1/\iM m xs ys=Z c/\b=(c&&xs.length==ys.length):=by cases n with|zero=>injection h|succ m=>simp only[cY,bQ]at h;obtain⟨c,d,e⟩:=h;exact⟨m,c,W,d,e.symm⟩
theorem IY{n:Nat}:∀{xs ys:List D}{c:Bool},iM n xs ys=Z c->∀(j:Nat)(x y:D),xs[j]?=Z x->ys[j]?=Z y->∃b,cY n x y=Z b|[],ys,c,h,j,x,y,d,e=>by simp at d|x'::xs,[],c,h,j,x,y,d,e=>by simp at e|x'::xs,i::ys,c,h,j,x,y,d,e=>by simp only[iM]at h;refine bS h λb f h=>?_;simp only[bQ]at h;obtain⟨m,g,p⟩:=h;cases j with|zero=>simp at d e;subst d e;exact⟨b,f⟩|succ j=>exact IY g j x y (by simpa using d) (by simpa using e)
def nH(n:Nat)(xs ys:List D)(j:Nat):Bool:=match xs[j]?,ys[j]? with|some x,Z y=>(cY n x y).getD bi|_,_=>bi
theorem IZ(m:Nat)(e:Nat->Bool):(gd (m+1)).all e=(e 0&&(gd m).all λj=>e (j+1)):=by rw[QS,cW,ZwV];rfl
theorem I_{n:Nat}:∀{xs ys:List D}{c:Bool},iM n xs ys=Z c->(gd (min xs.length ys.length)).all (nH n xs ys)=c
 |[],ys,c,h=>by simp_all[iM]|x'::xs,[],c,h=>by simp_all[iM]|x'::xs,d::ys,c,h=>by
  simp only[iM]at h;refine bS h λb e h=>?_;simp only[bQ]at h;obtain⟨r,f,g⟩:=h;have i:=I_ f;have m:min (x'::xs).length (d::ys).length=min xs.length ys.length+1:=by simp only[bz];lia
  rw[m,IZ,<-g];have p:nH n (x'::xs) (d::ys) 0=b:=by simp[nH,e]
  have q:(λj=>nH n (x'::xs) (d::ys) (j+1))=nH n xs ys:=by funext j;simp[nH]
  rw[p,q,i]
section
variable {X:Cx}{π:Zaa}{σ:St}{H:Hp}{s:ψ}
theorem VB{n:Nat}(p:∀{v:V}{d d':D}{b:Bool},Rep X.K H v d->Rep X.K H v d'->cY n d d'=Z b->b=be):∀{ds f:List D}{b:Bool},az X.K H vs ds->az X.K H vs f->iM n ds f=Z b->b=be:=by induction vs with|nil=>intro ds f b r r' e;induction r using sh;simp_all[iM,Option.some.injEq]|cons v vs g=>intro ds f b r r' e;induction r using oQ with|cons r t=>induction r' using oQ with|cons r' t'=>simp only[iM]at e;refine bS e λc h e=>?_;obtain⟨i,j,m⟩:=bQ.mp e;grind
def Ja(I:Inv X π σ H s){n:Nat}(r:Rep X.K H v d)(r':Rep X.K H v d')(e:cY n d d'=Z b)(t:∀xs ys,d=.tup xs->d'=.tup ys->b=be):b=be:=by cases c:jL d&&jL d' with
 |true=>rw[cV]at c;obtain⟨xs,g⟩:=sr c.1;obtain⟨ys,i⟩:=sr c.2;exact t xs ys g i|false=>refine aQ (IX c e) λf j m=>?_;subst f;clear t e;induction r using Rep.casesOn with
  |bI|aW|tab|lst|obj=>injection j|tup h _=>cases r' with
   |bI|aW|tab|lst|obj=>injection m|tup=>injection c
  |_=>cases r';first|rfl|exact beq_self_eq_true _
def B4(I:Inv X π σ H s){n:Nat}:∀{v:V}{d d':D}{b:Bool},Rep X.K H v d->Rep X.K H v d'->cY n d d'=Z b->b=be:=by induction n with|zero=>intro v d d' b r r' e;refine Ja I r r' e λxs ys f g=>?_;subst f g;refine cA (B3 e) λm _ h _=>?_;injection h|succ n j=>intro v d d' b r r' e;refine Ja I r r' e λxs ys f g=>?_;subst f g;refine ay (B3 e) λm c h f i=>?_;subst i;cases h;induction r using sf with|tup h r=>cases r' with|tup h' r'=>have q:=I.Bq h h';subst q;rw[VB j r r' f,<-r.length,<-r'.length];simp
def Jb(I:Inv X π σ H s){A:Around}(c:A.units<cLine)(f:RelV x u)(d:RelV y w)(r:Rep X.K H x g)(i:Rep X.K H y j)(h:(jL g&&jL j)=bi)(v:j_ g=bi)(m:j_ j=bi):rD A s u w (h_ g j)/\ZwW A s u w (h_ g j)/\ZwX A s u w (!(h_ g j)):=by induction r using Rep.casesOn with
 |bI|aW|tab|lst|obj=>injection v|aD=>cases f;induction i using Rep.casesOn with
  |bI|aW|tab|lst|obj=>injection m|aD=>cases d;exact⟨ZwP _,SeqAt.RcAt.none_none,ZyF⟩|bl b=>cases d;exact⟨SeqAt.EqAt.none_bool b,SeqAt.RcAt.none_bool b,ZyG b⟩|int b=>obtain⟨t,rfl⟩:=d;exact⟨SeqAt.EqAt.none_int b t,SeqAt.RcAt.none_int b t,ZyH b t⟩|str b _=>obtain⟨t,rfl⟩:=d;exact⟨SeqAt.EqAt.none_str b t,SeqAt.RcAt.none_str b t,ZyI b t⟩|tup q _=>cases d;obtain⟨_,_,p⟩:=Inv.nG I q;exact⟨SeqAt.EqAt.none_tuple p c,SeqAt.RcAt.none_tuple p c,ZyJ p c⟩
 |bl a=>cases f;induction i using Rep.casesOn with
  |bI|aW|tab|lst|obj=>injection m|aD=>cases d;exact⟨SeqAt.EqAt.bool_none a,SeqAt.RcAt.bool_none a,ZyK a⟩|bl b=>cases d;exact⟨SeqAt.EqAt.bool_bool a b,SeqAt.RcAt.bool_bool a b,ZyL a b⟩|int b=>obtain⟨t,rfl⟩:=d;exact⟨SeqAt.EqAt.bool_int a b t,SeqAt.RcAt.bool_int a b t,ZyM a b t⟩|str b _=>obtain⟨t,rfl⟩:=d;exact⟨SeqAt.EqAt.bool_str a b t,SeqAt.RcAt.bool_str a b t,ZyN a b t⟩|tup q _=>cases d;obtain⟨_,_,p⟩:=Inv.nG I q;exact⟨SeqAt.EqAt.bool_tuple a p c,SeqAt.RcAt.bool_tuple a p c,ZyO a p c⟩
 |int a=>
  obtain⟨t',rfl⟩:=f;induction i using Rep.casesOn with
  |bI|aW|tab|lst|obj=>injection m
  |aD=>cases d;exact⟨SeqAt.EqAt.int_none a t',SeqAt.RcAt.int_none a t',ZyP a t'⟩
  |bl b=>cases d;exact⟨SeqAt.EqAt.int_bool a t' b,SeqAt.RcAt.int_bool a t' b,ZyQ a t' b⟩
  |int b=>obtain⟨t,rfl⟩:=d;exact⟨ZwM a t' b t,SeqAt.RcAt.int_int a t' b t,ZyR a t' b t⟩
  |str b _=>obtain⟨t,rfl⟩:=d;exact⟨Qg a t' b t,SeqAt.RcAt.int_str a t' b t,ZyS a t' b t⟩
  |tup q _=>cases d;obtain⟨_,_,p⟩:=Inv.nG I q;exact⟨ZwL a t' p c,SeqAt.RcAt.int_tuple a t' p c,ZyT a t' p c⟩
 |str a _=>
  obtain⟨t',rfl⟩:=f;induction i using Rep.casesOn with
  |bI|aW|tab|lst|obj=>injection m
  |aD=>cases d;exact⟨SeqAt.EqAt.str_none a t',SeqAt.RcAt.str_none a t',ZyU a t'⟩
  |bl b=>cases d;exact⟨SeqAt.EqAt.str_bool a t' b,SeqAt.RcAt.str_bool a t' b,ZyV a t' b⟩
  |int b=>obtain⟨t,rfl⟩:=d;exact⟨Qh a t' b t,SeqAt.RcAt.str_int a t' b t,ZyW a t' b t⟩
  |str b _=>obtain⟨t,rfl⟩:=d;exact⟨ZwO a t' b t,SeqAt.RcAt.str_str a t' b t,ZyX a t' b t⟩
  |tup q _=>cases d;obtain⟨_,_,p⟩:=Inv.nG I q;exact⟨ZwN a t' p c,SeqAt.RcAt.str_tuple a t' p c,ZyY a t' p c⟩
 |tup z _=>
  cases f;obtain⟨_,_,e⟩:=Inv.nG I z;induction i using Rep.casesOn with
  |bI|aW|tab|lst|obj=>injection m
  |aD=>cases d;exact⟨SeqAt.EqAt.tuple_none e c,SeqAt.RcAt.tuple_none e c,ZyZ e c⟩
  |bl b=>cases d;exact⟨SeqAt.EqAt.tuple_bool b e c,SeqAt.RcAt.tuple_bool b e c,Zy0 b e c⟩
  |int b=>obtain⟨t,rfl⟩:=d;exact⟨ZwJ b t e c,SeqAt.RcAt.tuple_int b t e c,Zy1 b t e c⟩
  |str b _=>obtain⟨t,rfl⟩:=d;exact⟨ZwK b t e c,SeqAt.RcAt.tuple_str b t e c,Zy2 b t e c⟩
  |tup q _=>injection h
def VC(p:∀{A:Around}{x y:V}{E I:D}{u w:ω}{b:Bool},A.units+m<cLine->RelV x u->RelV y w->Rep X.K H x E->Rep X.K H y I->cY m E I=Z b->rD A s u w b){A:Around}{e d:List ω}(hu:A.units+(m+1)<cLine)(r:az X.K H vs xs)(J:az X.K H g ys)(L:Vals vs e)(M:Vals g d)(Q:iM m xs ys=Z c):∀j (N:j<e.toArray.size)(O:j<d.toArray.size),rD A.in1 s e.toArray[j] d.toArray[j] (nH m xs ys j):=by
 intro j N O;have l1:e.toArray.size=xs.length:=by rw[dY,<-L.length];exact r.length
 have l2:d.toArray.size=ys.length:=by rw[dY,<-M.length];exact J.length
 have h:=cF (l:=xs) (l1▸N);have i:=cF (l:=ys) (l2▸O);obtain⟨vx,T,q⟩:=r.get h;obtain⟨vy,U,t⟩:=J.get i;obtain⟨ux,v,z⟩:=L.get T;obtain⟨uy,B,C⟩:=M.get U;obtain⟨Y,f⟩:=IY Q j _ _ h i;obtain⟨_,e1⟩:=bt.mp v;obtain⟨_,e2⟩:=bt.mp B;have e3:nH m xs ys j=Y:=by rw[nH,h,i];exact congrArg (Option.getD · bi) f
 rw[ZwY,ZwY,e1,e2,e3];exact p (show A.units+1+m<cLine by omega) z C q t f
def eq3(I:Inv X π σ H s):∀(n:Nat){A:Around}{x y:V}{t v:D}{u w:ω}{b:Bool},A.units+n<cLine->RelV x u->RelV y w->Rep X.K H x t->Rep X.K H y v->cY n t v=Z b->rD A s u w b/\ZwW A s u w b/\ZwX A s u w (!b):=by intro n;induction n using Nat.strongRecOn with|_ n ih=>
  intro A x y t v u w b hu J L B h e;have g:A.units<cLine:=by omega
  by_cases i:(jL t&&jL v)=be;·rw[cV]at i;obtain⟨xs,rfl⟩:=sr i.1;obtain⟨ys,rfl⟩:=sr i.2;clear i;refine ay (B3 e) λm c hm M C=>?_;subst C;subst hm;have hs:=λz:x=y=>B4 I (z▸B) h e;cases B with|@tup a vs _ q r=>cases h with|@tup a2 vs2 _ q2 h=>
     cases J;cases L;obtain⟨VD,N,O⟩:=Inv.nG I q;obtain⟨Q,T,U⟩:=Inv.nG I q2;have j:=VC (λa b c d e f=>(ih m (uz m) a b c d e f).1) hu r h N T M;have k1:=ZwQ O U g j;have Y:=Zy3 O U g j;rw[dY,dY,<-N.length,<-T.length,r.length,h.length,I_ M]at k1 Y;refine⟨?_,k1,Y⟩;by_cases p:a=a2;·subst p;rw[hs W];exact .same _
     ·exact .of_refs p k1
  ·refine aQ (IX (pW.mpr i) e) λE h3 h4=>?_;subst E;exact Jb I g J L B h (pW.mpr i) h3 h4
def VE(I:Inv X π σ H s)(n:Nat){A:Around}(h:A.units+n<cLine)(f:RelV x u)(g:RelV y w)(i:Rep X.K H x c)(j:Rep X.K H y d)(e:cY n c d=Z b):rD A s u w b:=(eq3 I n h f g i j e).1
def bg(n:Nat)(x y:D):Option D:=(cY n x y).map .bl
def eU(n:Nat)(x y:D):Option D:=(cY n x y).map λb=>.bl (!b)
end
section
variable {X:Cx}
def VF{n:Nat}(f:X.A.units+n<cLine):oS X (c5 .Eq) (bg n):=by intro c s p H x y v u Q I g h ⟨r,t,d,i,j,e,q⟩;obtain⟨b,m,rfl⟩:=bQ.mp e;exact(eq3 I n f g h i j m).2.1 X.prog X.w X.xe _ ⟨.bl b,H,I,W,q _ H 'v' (.bl b)⟩
def Jc{n:Nat}(f:X.A.units+n<cLine):oS X (c5 .NotEq) (eU n):=by intro c s p H x y v u Q I g h ⟨r,t,d,i,j,e,q⟩;obtain⟨b,m,rfl⟩:=bQ.mp e;exact(eq3 I n f g h i j m).2.2 X.prog X.w X.xe _ ⟨.bl (!b),H,I,W,q _ H 'v' (.bl _)⟩
noncomputable def lM:D->D->Bool|.aD,.aD=>be|.bl a,.bl b=>a==b|_,_=>bi
def lN(x:D):D->Option D|.aD=>Z (.bl (lM x .aD))|.bl b=>Z (.bl (lM x (.bl b)))|_=>am
def vv(x:D):D->Option D|.aD=>Z (.bl (!lM x .aD))|.bl b=>Z (.bl (!lM x (.bl b)))|_=>am
theorem B5{K:au}{H:Hp}{x:V}{d:D}(r:Rep K H x d):decide (x=.aD)=lM d .aD:=by induction r using Rep.casesOn<;>rfl
noncomputable def nI:D->Bool|.aD=>be|.bl _=>be|.int _=>be|.str _=>be|_=>bi
def qp(d:D)(u:ω):Bool:=match u with|.none=>h_ .aD d|.bool b=>h_ (.bl b) d|.int i _=>h_ (.int i) d|.str z _=>h_ (.str z) d|_=>bi
theorem Jd{K:au}{H:Hp}{d c:D}{y:V}(r:RelV y u)(q:Rep K H y c)(f:nI c=be):qp d u=h_ c d:=by induction q using Rep.casesOn with|aD=>cases r;rfl|bl b=>cases r;rfl|int i=>obtain⟨t,rfl⟩:=r;rfl|str z _=>obtain⟨t,rfl⟩:=r;rfl|_=>exact absurd (show bi=be from f) dg
theorem VG{K:au}{H:Hp}{xs:List V}:∀{ds:List D}{us:List ω},Vals xs us->az K H xs ds->ds.all nI=be->us.any (qp d)=ds.any λy=>h_ y d:=by induction xs with|nil=>intro ds us r q _;induction r using gM;induction q using sh;rfl|cons y xs c=>intro ds us r q f;induction r using eL with|cons r t=>induction q using oQ with|cons q e=>rw[cW,cV]at f;rw[jE,jE,Jd r q f.1,c t e f.2]
def VH(I:Inv X g B H s){A:Around}(c:A.units<cLine)(i:RelV x v)(j:Rep X.K H x d)(hs:j_ d=bi):∀{ds:List D}{us:List ω},Vals xs us->az X.K H xs ds->ds.all nI=be->∀u∈us,rD A s u v (qp d u):=by induction xs with|nil=>intro ds us r q _ u c;induction r using gM;cases c|cons y xs m=>intro ds us r q f p vz;induction r using eL with|cons r t=>cases q with|@cons _ e _ _ q w=>
    rw[cW,cV]at f;rcases a6.mp vz with rfl|vz
    ·rw[Jd r q f.1];have h:jL e=bi/\j_ e=bi:=by have z:=f.1;cases e<;>first|exact⟨W,W⟩|injection z
     exact(Jb I c r i q j (by rw[h.1];rfl) h.2 hs).1
    ·exact m t w f.2 p vz
def Je(I:Inv X i t H s){A:Around}(m:A.units<cLine)(p:RelV x v)(q:Rep X.K H x g){ds:List D}{c:List ω}{f:Bool->D}(j:Vals xs c)(r:az X.K H xs ds)(e:(if(ds.all nI&&!j_ g)=be then Z (f (ds.any λy=>h_ y g))else am)=Z d):d=f (c.toArray.any (qp g))/\∀w∈c.toArray,rD A s w v (qp g w):=by refine bR e λh e=>?_;exists e;rw[cV,Bool.not_eq_true']at h;exact⟨by rw[List.any_toArray,VG j r h.1],λw hw=>VH I m p q h.2 j r h.1 w (List.mem_toArray.mp hw)⟩
def vA(x:D):D->Option D|.tup ys=>if(ys.all nI&&!j_ x)=be then Z (.bl (ys.any λy=>h_ y x))else am|.lst ys=>if(ys.all nI&&!j_ x)=be then Z (.bl (ys.any λy=>h_ y x))else am|_=>am
def BV(i:X.A.units+1<cLine):oS X (c5 .In) vA:=by intro j s C H x y v u Q I m t ⟨w,E,d,z,B,e,q⟩;induction B using Rep.casesOn with|@tup a xs ds h r=>cases t;obtain⟨c,g,p⟩:=Inv.nG I h;obtain⟨rfl,k⟩:=Je (A:=X.A.in1) (f:=.bl) I i m z g r e;exact SeqAt.in_tupleAt (qp w) p k ⟨.bl _,H,I,W,q _ H 'v' (.bl _)⟩|@lst a xs ds h r=>cases t;obtain⟨c,g,p⟩:=Inv.oU I h;obtain⟨rfl,k⟩:=Je (A:=X.A.in1) (f:=.bl) I i m z g r e;exact SeqAt.in_listAt (qp w) p k ⟨.bl _,H,I,W,q _ H 'v' (.bl _)⟩|_=>injection e
variable {e:Expr}{es:List Expr}{pos p:Pos}{f:Zaf}{fs:Zag}
def ar:D->D->Option D|.tup xs,.int i=>b4 xs i|.lst xs,.int i=>b4 xs i|.bI ns,.int i=>(b4 ns i).map .int|.str x,.int i=>(b4 x.cps.toList i).map λc=>.str ⟨#[c]⟩|_,_=>am
def B6{K:au}{H:Hp}{xs:List V}{ds:List D}(r:az K H xs ds)(h:b4 ds i=Z d):∃v,b4 xs i=Z v/\Rep K H v d:=by unfold b4 at h⊢;rw[r.length];cases q:g9 ds.length i with|none=>simp_all|some j=>rw[q]at h;exact r.get h
def su(X:Cx)(f:ω)(g:Zad):Prop:=mC X f (λvs H Q=>∃ds d,az X.K H vs ds/\g ds=Z d/\∀v H',av H H'->Rep X.K H' v d->Q v H')
noncomputable def k1(f:D->Option D):Zad|[d]=>f d|_=>am
def VI{f:D->Option D}(e:k1 f ds=Z d):∃x,ds=[x]/\f x=Z d:=by cases ds with|nil=>injection e|cons x t=>cases t with|nil=>exact⟨x,W,e⟩|cons _ _=>injection e
theorem sv{f:D->Option D}(h:∀{c:Zaa}{s:ψ}{g:St}{H:Hp}{x:V}{u:ω}{Q:VK}{j d:D},Inv X c g H s->RelV x u->Rep X.K H x j->f j=Z d->(∀v H',av H H'->Rep X.K H' v d->Q v H')->wpAny 'd' X.A (call v [u]) (EP X c g Q) X.xe s):su X v (k1 f):=by intro c s g H xs us Q I m z;refine ay z λds d r e q=>?_;clear z;refine ax (VI e) λx i y=>?_;subst i;clear e;induction r using si with|cons r t=>induction t using vh;obtain⟨u,rfl,B⟩:=mE m;exact h I B r y q
theorem B7{f:D->Option D}(h:∀{H:Hp}{x:V}{Q:VK}{c d:D},Rep X.K H x c->f c=Z d->(∀v H',av H H'->Rep X.K H' v d->Q v H')->∃r',mC X v r'/\r' [x] H Q):su X v (k1 f):=sv λI g r e q=>ax (h r e q) λ_ i j=>i _ _ _ _ _ _ _ I (.cons g .nil) j
def VJ{x:Str}{id:String}{g:Zad}(i:su X (.builtin id) g)(j:Gl X x)(m:X.mg x=am)(r:gy x=Z (.builtin id))(t:oR X (e::es) fs)(hn:x≠"__name__":=by decide) (c:'f'=bi:=by decide) (u:bq (e::es) X.env=(bi,eval e X.env)::bq es X.env:=by rfl) (h:(dW pos (bq es X.env)).any (·.1)=bi:=by rfl):DE X 'p' (aw g fs):=cR (Ib i j m r t hn c u h) λI H Q z=>ay z λw d R e q=>by exact bS e λds y e=>⟨w,ds,R,y,λvs J A B=>⟨ds,d,B,e,λv H' C E=>q v H' (A.trans C) E⟩⟩
def VL(i:su X (.type T) g)(j:Gl X x)(m:X.mg x=am)(r:gy x=Z (.type T))(t:oR X (e::es) fs)(hn:x≠"__name__":=by decide)(c:'f'=bi:=by decide)(u:bq (e::es) X.env=(bi,eval e X.env)::bq es X.env:=by rfl)(h:(dW pos (bq es X.env)).any (·.1)=bi:=by rfl):DE X 'p' (aw g fs):=cR (Ic i j m r t hn c u h) λI H Q z=>ay z λw d R e q=>by exact bS e λds y e=>⟨w,ds,R,y,λvs J A B=>⟨ds,d,B,e,λv H' C E=>q v H' (A.trans C) E⟩⟩
def cS:Zad:=k1 λd=>match d with|.tup xs=>Z (.int xs.length)|.lst xs=>Z (.int xs.length)|.bI ns=>Z (.int ns.length)|.str x=>Z (.int x.length)|_=>am
theorem IC:su X (.builtin "len") cS:=B7 λ{H}{x}{Q}{i}{d} r e q=>by induction r using Rep.casesOn with|tup h c=>exists e;exact⟨_,BP,_,_,W,.inr h,by rw[c.length];exact q _ H 'v' (.int _)⟩|lst h c=>exists e;exact⟨_,BP,_,_,W,.inl (.inl h),by rw[c.length];exact q _ H 'v' (.int _)⟩|bI h=>exists e;exact⟨_,BP,_,_,W,.inl h,by rw[aG];exact q _ H 'v' (.int _)⟩|str x g=>exists e;exact⟨_,UQ,x,W,g,q _ H 'v' (.int _)⟩|_=>injection e
def VM:Zad:=k1 λd=>match d with|.tup xs=>Z (.tup xs)|.lst xs=>Z (.tup xs)|_=>am
end
def Wk(K:au)(J:It)(H:Hp)(ds:List D):Prop:=∀H',av H H'->(∀(i:Nat)(d:D),ds[i]?=Z d->J.go i H'/\∀x c,J.rV i H' x c->av H' c/\Rep K c x d)/\J.stop ds.length H'
def VN(K:au)(f:Zag):TI:=λd H R=>∃c ds,cD K H d c/\f c=Z ds/\∀J H',av H H'->Wk K J H' ds->R J H'
abbrev DI(X:Cx)(tg iter:Expr)(f:Zag):Prop:=PI X tg iter (VN X.K f)
def VO(K:au)(g:Zah):TG:=λx f H Q=>∃e d ρ',cD K H f e/\Rep K H x d/\g d e=Z ρ'/\∀c H',av H H'->cD K H' c ρ'->Q c H'
abbrev DG(X:Cx)(tg:Expr)(g:Zah):Prop:=PG X tg (VO X.K g)
noncomputable def gN(i:Nat):Zah:=λd c=>Z (c.set i (Z d))
noncomputable def cw(X:Cx)(c:Scope)(d:List (Str×Λ))(N':List Str)(C:Λ)(d_:ψ)(kB:Hp)(e:List Λ):Cx:={X with N:=N',d_:=d_,kB:=kB,env:=Gx c d C X.env,outer:=X.stack,stack:=X.stack,ex:=e,fn:=λ_=>bi,pn:=[],xe:=λ_ _=>False}
def jd(cells:List (Str×Λ)):List (Str×Λ)->Prop|[]=>True|(x,c)::r=>cells.lookup x=Z c/\jd cells r
theorem jd.get{cells:List (Str×Λ)}:∀{d:List (Str×Λ)},jd cells d->∀x c,d.lookup x=Z c->cells.lookup x=Z c|[],_,x,c,h=>by simp at h|(y,f)::r,⟨g,e⟩,x,c,h=>by rw[QT]at h;cases q:x==y with|true=>simp_all|false=>rw[q]at h;exact jd.get e x c h
def jf(d:List (Str×Λ)):List (Str×xc)->Prop|[]=>True|(x,k)::r=>(k=.local\/k=.globalImplicit\/∃c,d.lookup x=Z c)/\jf d r
theorem jf.get{d:List (Str×Λ)}:∀{ns:List (Str×xc)},jf d ns->∀x,ns.lookup x=Z .cell\/ns.lookup x=Z .free->∃c,d.lookup x=Z c|[],_,x,h=>by simp at h|(y,k)::r,⟨f,e⟩,x,h=>by simp only[QT]at h;cases q:x==y with|true=>grind|false=>rw[q]at h;exact jf.get e x h
def gv(X:Cx)(c:Scope):List Str->List (Option Nat)->Prop|[],[]=>True|_::N,am::cap=>gv X c N cap|x::N,Z i::cap=>(X.N[i]?=Z x/\(X.env.kindOf x=Z .cell\/X.env.kindOf x=Z .free)/\((ky c X.env).names.lookup x=Z .cell\/(ky c X.env).names.lookup x=Z .free))/\gv X c N cap|_,_=>False
theorem gv.len:∀{N:List Str}{cap:List (Option Nat)},gv X c N cap->cap.length=N.length|[],[],_=>rfl|_::N,am::cap,h=>by rw[bz,bz,gv.len (N:=N) (cap:=cap) h]|_::N,Z _::cap,h=>by rw[bz,bz,gv.len h.2]
theorem gv.get{X:Cx}:∀{N:List Str}{cap:List (Option Nat)},gv X c N cap->∀(j i:Nat),cap[j]?=Z (Z i)-> ∃x,N[j]?=Z x/\X.N[i]?=Z x/\(X.env.kindOf x=Z .cell\/X.env.kindOf x=Z .free)/\((ky c X.env).names.lookup x=Z .cell\/(ky c X.env).names.lookup x=Z .free)
 |[],[],_,j,i,h=>by simp at h|x::N,am::cap,h,j,i,e=>by cases j with|zero=>simp at e|succ j=>exact ax (gv.get (N:=N) (cap:=cap) h j i (by simpa using e)) λy d f=>⟨y,by simpa using d,f⟩
 |x::N,Z k::cap,h,j,i,e=>by cases j with
  |zero=>
   have g:k=i:=by simpa using e
   subst g;exact⟨x,W,h.1⟩|succ j=>exact ax (gv.get h.2 j i (by simpa using e)) λy d f=>⟨y,by simpa using d,f⟩
def nJ(cap:List (Option Nat))(c:ai):ai:=cap.map λo=>o.bind λi=>aa i c
noncomputable def nK(cap:List (Option Nat))(c:St):St:=cap.map λo=>o.bind λi=>match c[i]? with|some (Z v)=>Z v|_=>am
def VP{K:au}{H:Hp}{e:St}{c:ai}(R:cD K H e c)(cap:List (Option Nat)):cD K H (nK cap e) (nJ cap c):=by refine⟨by simp[nK,nJ],λj d h=>?_⟩;unfold nJ at h;rw[bJ]at h;unfold nK;rw[bJ];cases q:cap[j]? with|none=>simp_all|some o=>rw[q]at h;cases o with|none=>(injection h with h;injection h)|some i=>have h':aa i c=Z d:=ao h;refine ax (R.get i d (vo h')) λv f g=>?_;simp_all
def VQ{j:Nat}(h:(nK cap c)[j]?=Z (Z v)):∃i,cap[j]?=Z (Z i)/\c[i]?=Z (Z v):=by unfold nK at h;rw[bJ]at h;cases q:cap[j]? with|none=>simp_all|some o=>rw[q]at h;cases o with|none=>(injection h with h;injection h)|some i=>grind
def sA(X:Cx)(e:List Expr)(h:Zae):Prop:=∀(d:Zaa)(s:ψ)(f:St)(H:Hp)(g:ai)(b:Bool),Inv X d f H s->cD X.K H f g->h g=Z b-> wpAny 'd' X.A (forIn e be λc r=>if r=be then do let ok<-isTrue c X.env (eval c X.env);pure (ZwZ ok)else pure (ZwZ r)) (λok s'=>ok=b/\∃H',av H H'/\Inv X d f H' s') X.xe s
noncomputable def cn(e:Zah)(f:Zae)(fe:Zaf):ai->List D->Option (List D)|_,[]=>Z []|ρ,d::ds=>(e d ρ).bind λc=>(f c).bind λb=>if b=be then(fe c).bind λy=>(cn e f fe c ds).map (y:: ·)else cn e f fe c ds
def d2(cap:List (Option Nat))(d:Zag)(e:Zah)(f:Zae)(fe:Zaf):Zaf:=λc=>(d c).bind λds=>if ds.length<aA then(cn e f fe (nJ cap c) ds).map .lst else am
def Inv.Jf{X:Cx}{s:ψ}(I:Inv X f i H s)(hn:H a=am)(v:X.d_.heap.objs.size<=a)(y:a≠X.env.locals)(z:∀x c,X.env.cells.lookup x=Z c->c≠a)(A:∀p∈X.pn++f,p.1≠a)(new:d6 X.prog X.w (upd H a o) s.heap a o):Inv X f i (upd H a o) s:=by
 have S:=dj hn o;obtain⟨j,g,d,t,os⟩:=s;refine I.step (h':=j) (g':=g) (d':=d) (t':=t) (ch:=[a]) (λb h=>?_) (λb o _ _ _ e _=>e) (λb o _ _ _ e _=>⟨o.slots,e⟩) (λb o h e n=>?_) (λb o _ e=>⟨o,e⟩) (λb xs e=>S b _ e) (λb o u e=>S b _ e) (λb ps e=>⟨#[],by rw[S b _ e];simp⟩) (λm r=>r) (λb u e=>?_) I.bare;·grind
 ·simp_all[bu]
 ·by_cases h:b=a;·simp_all[br]
  ·rw[bu h]at e;exact(I.aV b u e).mv (λ_ _ _ q=>q) (λc q=>S c _ q) λc xs q=>S c _ q
noncomputable abbrev kK(ys:List ω)(n:Nat):Obj:={cls:=.type "list",data:=.seq ys.toArray n}
def B8(K:au)(f:Zag):TE:=λe H Q=>∃d ds,cD K H e d/\f d=Z ds/\∀vs c p,av H c->c p=am->az K c vs ds->Q (.ref p) (upd c p (.lst vs))
def ez(cap:List (Option Nat))(d:Zag)(e:Zah)(f:Zae)(fe:Zaf):Zag:=λc=>(d c).bind λds=>if ds.length<aA then cn e f fe (nJ cap c) ds else am
def GE(X:Cx)(d:Expr)(fe:Zaf)(G:Hp->List V->List D->Prop):Prop:=PE X d (λf H Q=>∃e y vs c,cD X.K H f e/\fe e=Z y/\G H vs c/\∀v H',av H H'->G H' (vs++[v]) (c++[y])->Q v H')
def Jg(h:DE X c fe):GE X c fe (az X.K):=cR h λi H Q z=>aU z λd y vs u=>bh u λf R e g q=>⟨d,y,R,e,λv H' s r=>q v H' s ((g.mono s).snoc r)⟩
def B9{X:Cx}{B:Scope}(g0:∀H1,av H H1->G H1 [] [])(gm:∀H1 H2 vs ds,av H1 H2->G H1 vs ds->G H2 vs ds)(hc:X.calm=be)(hi:DI X tg iter fi)(VR:oF B X.env=pure cl)(VS:∀y∈B.names,y.2≠ .cell)(B_:B.kind=.function)(VT:∀y∈B.names,y.2=.local->B.names.lookup y.1=Z .local)(jM:jd X.env.cells cl)(Jh:jf cl (ky B X.env).names)(Ji:gv X B N' cap)(vB:∀C d_ kB U,DG (cw X B cl N' C d_ kB U) tg gt/\sA (cw X B cl N' C d_ kB U) ifs fc/\GE (cw X B cl N' C d_ kB U) elt fe G)(hs:∀x,uo iter X.env x=pure x:=by intro _;rfl)(I:Inv X Y σ H s)(R:cD X.K H σ ρ)(e:ez cap fi gt fc fe ρ=Z outs)(fin:∀(C Dd:Λ)(H':Hp)(vs:List V)(s9:ψ)(m9:Zac)(fl:Flow),Inv X Y σ (upd H' Dd (.lst vs)) s9->av H H'->H' Dd=am->G H' vs outs->s9.heap.Ns C m9->upd H' Dd (.lst vs) C=am-> C≠X.env.locals->X.d_.heap.objs.size<=C->(∀x c,X.env.cells.lookup x=Z c->c≠C)->(∀p∈X.pn++Y,p.1≠C)->compPost 'd' X.A X.xe use Qv (.ref Dd) C (.ok fl) s9):wpAny 'd' X.A (comprehension (.ListComp elt [⟨tg,iter,ifs,0⟩] B pos) B X.env (firstIterPos [⟨tg,iter,ifs,0⟩] pos) (newList []) (firstAsync [⟨tg,iter,ifs,0⟩]) (firstIter [⟨tg,iter,ifs,0⟩] X.env) use) Qv X.xe s:=by
 refine bS e λds sC e=>?_;split at e;case isFalse=>injection e
 case isTrue hlen=>
 have VU:=e;refine wpAny_comprehension_free (use:=use) W hs VR B_ VT (aL (hi Y s σ H (λJ H1=>av H H1/\Wk X.K J H1 ds) I ⟨ρ,ds,R,sC,λJ H1 a b=>⟨a,b⟩⟩) λv s1 h1=>aL h1 λTj L h2=>?_);refine aU h2 λit U tn q=>cv q λJ H2 VW O T xU l=>aQ l λf2 sH wk=>?_;clear h2 q l;subst VW;refine wpAny_newObj_type (wpAny_newFunctionEnv VS (by intro y hy;simp at hy) (λsD Ca Q=>?_) B_);dsimp only at Ca Q⊢;generalize Cb:L.heap.push {cls:=.type "list",dict:=am,data:=.seq ([]:List ω).toArray}=G2 at Ca Q⊢;have Cc:G2.objs.size=L.heap.objs.size+1:=by rw[<-Cb,AR]
 have vC:L.heap.objs.size≠G2.objs.size:=by rw[Cc];exact df (uz _)
 have Cd:L.heap.objs.size<=G2.objs.size:=by rw[Cc];exact jC _
 have M:∀b,b<L.heap.objs.size->b≠G2.objs.size/\b≠L.heap.objs.size:=λb N=>⟨by rw[Cc];exact df (xx N),df N⟩;have old:∀b o,L.heap.get? b=Z o->sD.get? b=Z o:=λb o e=>Q.extBut b o (M b (b6 e)).1 (cO _ (Cb▸cO _ e));have VX:sD.get? L.heap.objs.size=Z (kK [] 0):=Q.extBut _ _ vC (cO _ (Cb▸eo _ W));have ye:∀b∈U,b<L.heap.objs.size:=λb N=>ax (T.obj _ _ xU b N) λo e _=>b6 e;have Ce:∀x c,X.env.cells.lookup x=Z c->c<L.heap.objs.size:=λx c e=>by obtain⟨v,z⟩:=O.cell x c e;exact z.lt
 have VY:H2 G2.objs.size=am:=O.aV.fresh Cd;have VZ:H2 L.heap.objs.size=am:=O.aV.fresh (a9 _);have Jj:L.heap.objs.size∉kC X.stack:=λN=>by
  rcases a6.mp (O.xJ _ N)with z|z
  ·exact absurd z (w8 O.lt)
  ·exact O.He (a9 _) z
 have V0:dE X.prog X.w H2 sD:=O.aV.kept old;have Cf:'w'.Ok:=by
  refine⟨O.ok.mod,B_,O.ok.glob,O.ok.blt,Cd,λx y c h1 h2=>O.ok.inj x y c (jM.get x c h1) (jM.get y c h2),λx hx=>Jh.get x hx,λx c z _=>absurd (show bi=be from z) dg,O.ok.hd,O.ok.frames,.inl W,λb N=>⟨(M b (ye b N)).1,λx c h=>(f2 b N).2.2.2.2.1 x c (jM.get x c h)⟩,O.bs,
   c3 O.ok.nj O.sz,λb o e N=>?_,λb N z=>?_,O.stack,O.Hf⟩
  ·rcases(f2 b N).2.2.2.1 with z|z
   ·exact O.ok.uW b o e z
   ·exact absurd (jW (b6 e) (c3 O.ok.nj z)) (oD _)
  ·rcases a6.mp (O.xJ b z)with z|z
   ·exact(f2 b N).2.1 z
   ·exact(f2 b N).2.2.1 z
 have I3:Inv 'w' [(L.heap.objs.size,kK [] 0)] (nK cap σ) H2 {L with heap:=sD,toks:=L.toks+([]:List (Str×ω)).length}:=by
  refine⟨Cf,W,O.bare,Un.kept old,⟨_,Ca,λj x v hj hv Zyv=>?_⟩,λx c h=>?_,VY,λx c h=>O.i6 x c (jM.get x c h),λp hp=>?_,V0,by show(nK cap σ).length=N'.length;rw[<-Ji.len];simp[nK]⟩
  ·refine ax (VQ hv) λi V1 V2=>?_;refine bh (Ji.get j i V1) λy hy V3 hk oV=>?_;have Cg:y=x:=ao (hy.symm.trans hj);subst Cg;refine ax O.loc λm hn hl=>?_;have V4:c6 X.env.scope y:=by
    rcases hk with hk|hk
    ·exact .inr (.inl hk)
    ·exact .inr (.inr hk)
   refine ax (hl i y v V3 V2 V4) λu ru V5=>?_;refine⟨u,ru,.inr ⟨oV,?_⟩⟩;obtain⟨c,xM⟩:=Jh.get y oV;have V6:=jM.get y c xM;refine⟨c,xM,?_⟩;rcases V5 with⟨V7,_⟩|⟨_,c',qe,Jk⟩
   ·rcases hk with hk|hk<;>(rw[V7]at hk;(injection hk with hk;injection hk))
   ·have ec:c'=c:=ao (qe.symm.trans V6);subst ec;refine ax Jk λo ho hd=>?_;clear Jk;exact⟨o,old _ _ ho,hd⟩
  ·refine cA (O.cell x c (jM.get x c h)) λv o ho hd=>?_;exact⟨v,o,old _ _ ho,hd⟩
  ·have ep:p=(L.heap.objs.size,kK [] 0):=by simpa [cw]using hp
   subst ep;exact⟨VX,VZ,vC,Jj,λv z=>nomatch z⟩
 have Jl:tn 0 sD:=T.keep _ _ _ xU λb N o e=>old b o e;have loop:∀Ci:ψ,Ci={L with heap:=sD,toks:=L.toks+([]:List (Str×ω)).length}->
   uu 'd' X.A (.compLoop (.ListComp elt [⟨tg,iter,ifs,0⟩] B pos) 0 (.ref it) (.ref L.heap.objs.size) (Gx B cl G2.objs.size X.env))
    (compPost 'd' X.A X.xe use Qv (.ref L.heap.objs.size) G2.objs.size) Ci:=by
  rintro Ci rfl;refine aQ (vB G2.objs.size L H2 U) λV8 V9 V_=>?_;refine codeAny_loop W (λk s'=>∃(i:Nat)(ys:List ω)(n:Nat)(vs:List V)(nL:St)(ρ':ai)(H':Hp)(acc rest:List D),i<=ds.length/\k=ds.length-i/\Inv 'w' [(L.heap.objs.size,kK ys n)] nL H' s'/\tn i s'.heap/\(∀b∈U,H' b=am)/\av H2 H'∧
   Vals vs ys/\G H' vs acc/\cD X.K H' nL ρ'/\cn gt fc fe ρ' (ds.drop i)=Z rest/\outs=acc++rest/\ys.length<=i) (λk s' hI=>?_) ds.length
   ⟨0,[],0,[],nK cap σ,nJ cap ρ,H2,[],outs,dZ _,W,I3,Jl,λb N=>(f2 b N).1,av.refl _,.nil,g0 _ sH,VP (R.mono sH) cap,VU,W,a9 _⟩;refine aU hI λi ys n q=>aU q λvs nL ρ' l=>aS l λH' acc rest vE Wa f=>iy f λI' Cj Jm vF yf g=>jG g λCk Wb E h8 yg=>?_;clear hI q l f g;subst Wa;have hD':H' L.heap.objs.size=am:=(I'.pin _ (dr _ bZ)).2.1;have Cm:∀{Hx:Hp}{px:Zaa},(∀p∈px,p.1=L.heap.objs.size)->(∀b∈U,Hx b=am)->∀b∈U,oO 'w' px Hx b:=λ{Hx px} Jn hn b N=>
   ⟨hn b N,(M b (ye b N)).1,λz=>Cf.rR b N z,.inl N,λx c h=>(Cf.Bn b N).2 x c h,λp hp z=>by
    have Wc:p∈px:=by simpa [cw]using hp
    rw[Jn p Wc]at z;exact(M b (ye b N)).2 z.symm⟩
  have one:∀p∈[(L.heap.objs.size,kK ys n)],p.1=L.heap.objs.size:=λp hp=>by rw[aZ.mp hp]
  show wpAny _ X.A ((compTurn (.ListComp elt [⟨tg,iter,ifs,0⟩] B pos) 0 (.ref it) (.ref L.heap.objs.size) (Gx B cl G2.objs.size X.env)).onRaise (λx=>do noteFrame x (Gx B cl G2.objs.size X.env);theTreesLotGoes x)) _ _ s';refine wpAny_noted ?_;rw[compTurn_list];refine υ (Qm (υ ?_));by_cases ia:i<ds.length
  ·have We:ds[i]?=Z ds[i]:=cF ia;obtain⟨Cn,hy⟩:=(wk H' vF).1 i ds[i] We;rw[Gy ia]at E;simp only[cn]at E;refine bS E λsE Co E=>?_;refine bS E λb yh E=>?_;refine aL (T.item 'w' W W W hc i _ s' nL H' _ I' (Cm one Jm) Cj Cn) λr s4 t=>ax t λu hr h4=>?_;subst hr;refine υ (aL h4 λ_ s5 t=>cv t λx H5 I5 r5 y5 Cp By=>υ ?_);obtain⟨Jo,Wf⟩:=hy x H5 y5;have Bz:=I5.pinned (Cm one By) (T.obj _ _ Cp);have Wg:=Wb.mono Jo;refine lq (V8 _ s5 nL H5 x u (λkE H6=>av H5 H6/\cD X.K H6 kE sE) Bz r5 ⟨ρ',ds[i],sE,Wg,Wf,Co,λkE H6 a b=>⟨a,b⟩⟩) (λ_ s6 t=>ay t λkE H6 I6 Wh Jp=>?_) λ_ _ z=>dX z;refine υ (lq (V9 _ s6 kE H6 sE b I6 Jp yh) (λok s7 t=>aM t λaV q=>ax q λH7 Jq I7=>?_) λ_ _ z=>dX z);subst aV;have Cq:=Jp.mono Jq;have S7:av H' H7:=Jo.trans (Wh.trans Jq);have Wi:∀{Cr:St}{Hx:Hp}{sx:ψ},Inv 'w' ([(L.heap.objs.size,kK ys n)]++jI U s5.heap) Cr Hx sx->sx.heap.get? L.heap.objs.size=Z (kK ys n)/\Hx L.heap.objs.size=am:=
    λJ=>let z:=J.pin _ (dr _ (gf _ bZ));⟨z.1,z.2.1⟩;have Jr:∀{Cr:St}{Hx:Hp}{sx:ψ},Inv 'w' ([(L.heap.objs.size,kK ys n)]++jI U s5.heap) Cr Hx sx->tn (i+1) sx.heap/\∀b∈U,Hx b=am:=λJ=>
    ⟨T.keep _ _ _ Cp λb N o e=>(J.pin (b,o) (dr _ (dr _ (rX N e)))).1,λb N=>by refine ax (T.obj _ _ Cp b N) λo e d=>?_;exact(J.pin (b,o) (dr _ (dr _ (rX N e)))).2.1⟩
   cases ok with|false=>simp only[lC,if_false]at E⊢;obtain⟨t7,f7⟩:=Jr I7;exact χ ⟨W,_,by omega,i+1,ys,n,vs,kE,sE,H7,acc,rest,ia,W,I7.xT,t7,f7,vF.trans S7,yf,gm _ _ _ _ S7 Ck,Cq,E,h8,A7 yg⟩|true=>
    simp only[if_true]at E⊢;refine bS E λy Wj E=>?_;simp only[bQ]at E;refine ax E λWl E Js=>?_;refine υ (υ (lq (V_ _ s7 kE H7 (λv H8=>av H7 H8/\G H8 (vs++[v]) (acc++[y])) I7 ⟨sE,y,vs,acc,Cq,Wj,gm _ _ _ _ S7 Ck,λv H8 a b=>⟨a,b⟩⟩) (λxv s8 t=>bV t λvy H8 I8 ry Jt Wm=>?_) λ_ _ z=>dX z));obtain⟨pD,pN⟩:=Wi I8;obtain⟨t8,f8⟩:=Jr I8;have Wn:ys.toArray.size<=aA:=by rw[dY];exact gK (ml yg (uI ia hlen))
    refine υ (append_at (hsz:=Wn) pD λh9 Ju Wo=>?_);have S8:av H' H8:=S7.trans Jt;have Wq:Inv 'w' [] kE H8 s8:=I8.xK λp hp=>absurd hp 'o';have I9:Inv 'w' [] kE H8 {s8 with heap:=h9}:=Wq.turned (t':=s8.toks) (λb o N e=>(Ju.2 b N).trans e) pN vC (.inr (a9 _)) (λx c h z=>by
     have:=Ce x c (jM.get x c h);rw[z]at this;exact oD _ this) (λp hp=>absurd hp (by simp[cw]));have Wr:Inv 'w' [(L.heap.objs.size,kK (ys++[xv]) (n+1))] kE H8 {s8 with heap:=h9}:=I9.xK λp hp=>by
     have ep:p=(L.heap.objs.size,kK (ys++[xv]) (n+1)):=by simpa [cw]using hp
     subst ep;refine⟨?_,pN,vC,Jj,λv z=>nomatch z⟩;show h9.get? _=Z (kK (ys++[xv]) (n+1));rw[Wo];show Z ({cls:=.type "list",data:=.seq (ys.toArray.push xv) (n+1)}:Obj)=Z {cls:=.type "list",data:=.seq (ys++[xv]).toArray (n+1)};rw[List.push_toArray]
    refine χ (χ ⟨W,_,by omega,i+1,ys++[xv],n+1,vs++[vy],kE,sE,H8,acc++[y],Wl,ia,W,Wr,?_,f8,vF.trans S8,yf.append (.cons ry .nil),Wm,Cq.mono Jt,E,?_,?_⟩)
    ·exact T.keep _ _ _ t8 λb N o e=>(Ju.2 b (M b (ye b N)).2).trans e
    ·rw[h8,<-Js,jX];rfl
    ·rw[bH,xy];exact xm yg
  ·have vG:i=ds.length:=Gz vE (QU.mp ia);subst vG;have Ws:=(wk H' vF).2;rw[QV]at E;simp only[cn]at E
   exists E;rw[eS]at h8;subst h8;refine aL (T.done 'w' W W W hc _ _ s' nL H' _ I' (Cm one Jm) Cj Ws) λr s9 t=>aM t λhr I9=>?_;subst hr;refine χ ?_;refine ax I9.loc λm9 sF _=>?_;refine aQ (I9.pin (L.heap.objs.size,kK ys n) (dr _ bZ)) λpD pN _=>?_;have J1:Inv X Y σ H' s9:=O.R7 I9.os I9.base I9.aV I9.bare λb N=>⟨(f2 b N).2.2.2.1,(f2 b N).2.1,(f2 b N).2.2.2.2.1,(f2 b N).2.2.2.2.2⟩
   have nC:∀p∈X.pn++Y,p.1≠G2.objs.size:=λp hp=>(M _ (b6 (O.pin p hp).1)).1;have nD:∀p∈X.pn++Y,p.1≠L.heap.objs.size:=λp hp=>(M _ (b6 (O.pin p hp).1)).2;have hl:vs.length<=aA:=by rw[yf.length];exact gK (ml yg hlen)
   have J3:Inv X Y σ (upd H' L.heap.objs.size (.lst vs)) s9:=Inv.Jf J1 pN O.sz (bW (M _ O.lt).2) (λx c h=>(M _ (Ce x c h)).2) nD ⟨hl,ys,n,yf,pD⟩;exact fin _ _ _ _ _ _ _ J3 (sH.trans vF) pN Ck sF (dD I9.free (bW vC)) (bW (M _ O.lt).1) (c3 O.sz Cd) (λx c h=>(M _ (Ce x c h)).1) nC
 exact codeAny_compStart_list (loop _ W) (T.self X.A 0 _ _ _ Jl (loop _ W))
def Jv{X:Cx}{d:Scope}(T:X.calm=be)(U:DI X M iter Y)(i:oF d X.env=pure p)(j:∀y∈d.names,y.2≠ .cell)(m:d.kind=.function)(h:∀y∈d.names,y.2=.local->d.names.lookup y.1=Z .local)(z:jd X.env.cells p)(t:jf p (ky d X.env).names)(u:gv X d N' cap)(A:∀C f g v,DG (cw X d p N' C f g v) M gt/\sA (cw X d p N' C f g v) B fc/\DE (cw X d p N' C f g v) E fe)(hs:∀x,uo iter X.env x=pure x:=by intro _;rfl):PE X (.ListComp E [⟨M,iter,B,0⟩] d pos) (B8 X.K (ez cap Y gt fc fe)):=by intro N s σ H Q I ⟨ρ,O,R,e,q⟩;rw[eval_ListComp];refine B9 (G:=az X.K) (λ_ _=>.nil) (λ_ _ _ _ s r=>r.mono s) T U i j m h z t u (λC f g v=>aQ (A C f g v) λa b c=>⟨a,b,Jg c⟩) hs I R e λC Dd H' vs s9 m9 fl J sm pN rr L hC hL hz hx hp=>⟨m9,L,λWt w=>?_⟩;exact⟨.ref Dd,_,J.turned (t':=s9.toks) (λb o hb e=>(w.2 b hb).trans e) hC hL (.inr hz) hx hp,W,q vs H' _ sm pN rr⟩
def Jw{G:Hp->Hp->List V->List D->Prop}(g0:∀H m,av H m->G H m [] [])(gm:∀H m H2 vs ds,av m H2->G H m vs ds->G H H2 vs ds){X:Cx}{t:Pos}{d:Scope}(hN:X.N.Nodup)(U:X.N[i]?=Z x)(Y:Loc X.env.scope x)(hc:X.calm=be)(hi:DI X u iter fi)(w:oF d X.env=pure E)(z:∀y∈d.names,y.2≠ .cell)(A:d.kind=.function)(r:∀y∈d.names,y.2=.local->d.names.lookup y.1=Z .local)(jM:jd X.env.cells E)(L:jf E (ky d X.env).names)(M:gv X d N' cap)(vB:∀C f g O,DG (cw X d E N' C f g O) u gt/\sA (cw X d E N' C f g O) h fc/\∀H,GE (cw X d E N' C f g O) B fe (G H))(hs:∀x,uo iter X.env x=pure x)(vI:d4 (.ListComp B [⟨u,iter,h,0⟩] d pos) (Z (.Name x pos')) t.line X.env=pure be)(hf:X.fn x=be\/X.env.scope.names.lookup x=Z .local):PS X (.Assign [.Name x pos'] (.ListComp B [⟨u,iter,h,0⟩] d pos) t) (λDn σ H=>∃ρ j,cD X.K H σ ρ/\ez cap fi gt fc fe ρ=Z j/\∀vs m p,av H m->m p=am->G H m vs j->Dn.nx (σ.set i (Z (.ref p))) (upd m p (.lst vs))):=by intro π s σ H Dn I ⟨ρ,j,R,e,q⟩;rw[exec_Assign_Name_used _ _ _ _ vI];refine υ (Qm ?_);refine υ ?_;show wpAny _ _ (comprehension (.ListComp B [⟨u,iter,h,0⟩] d pos) d X.env (firstIterPos [⟨u,iter,h,0⟩] pos) (newList []) (firstAsync [⟨u,iter,h,0⟩]) (firstIter [⟨u,iter,h,0⟩] X.env) (Z (lr (.Name x pos') X.env))>>=_) _ _ s;refine υ (B9 (G:=G H) (g0 H) (gm H) hc hi w z A r jM L M (λC f g O=>aQ (vB C f g O) λa b c=>⟨a,b,c H⟩) hs I R e λC Dd H' vs s9 m9 fl J sm pN rr sF hC hL hz hx hp=>?_);show wpAny _ _ (lr (.Name x pos') X.env (.ref Dd)) _ _ s9;refine wpAny_assign_Name (Hh J hN U Y (v:=.ref Dd) W (λWu Wv Q=>?_) hf);refine ax Q λa sb ha=>?_;clear Q;have Ww:C≠a:='m';refine⟨m9,sF.at' λo ho=>(sb.2 C Ww).trans ho,λh11 T=>?_⟩;refine χ (χ ?_);exact⟨_,_,Wv.turned (t':=Wu.toks) (λb o hb e=>(T.2 b hb).trans e) hC hL (.inr hz) hx hp,q vs H' _ sm pN rr⟩
def Wx{X:Cx}{j:Pos}{d:Scope}(Y:X.N.Nodup)(L:X.N[i]?=Z x)(M:Loc X.env.scope x)(hc:X.calm=be)(hi:DI X O iter fi)(m:oF d X.env=pure v)(t:∀y∈d.names,y.2≠ .cell)(u:d.kind=.function)(h:∀y∈d.names,y.2=.local->d.names.lookup y.1=Z .local)(Q:jd X.env.cells v)(w:jf v (ky d X.env).names)(A:gv X d N' cap)(T:∀C f g B,DG (cw X d v N' C f g B) O gt/\sA (cw X d v N' C f g B) E fc/\DE (cw X d v N' C f g B) I fe)(hs:∀x,uo iter X.env x=pure x)(U:d4 (.ListComp I [⟨O,iter,E,0⟩] d pos) (Z (.Name x pos')) j.line X.env=pure be)(hf:X.fn x=be\/X.env.scope.names.lookup x=Z .local):PS X (.Assign [.Name x pos'] (.ListComp I [⟨O,iter,E,0⟩] d pos) j) (Bu (B8 X.K (ez cap fi gt fc fe)) (Bt i)):=cM (Jw (G:=λ_=>az X.K) (λ_ _ _=>.nil) (λ_ _ _ _ _ s r=>r.mono s) Y L M hc hi m t u h Q w A (λC f g B=>aQ (T C f g B) λa b c=>⟨a,b,λ_=>Jg c⟩) hs U hf) λDn σ H z=>ay z λρ J R e q=>⟨ρ,J,R,e,λvs H1 p s hp r=>q vs H1 p s hp r⟩
def Wy{X:Cx}{c:Scope}(T:X.calm=be)(U:DI X M iter Y)(i:oF c X.env=pure t)(j:∀y∈c.names,y.2≠ .cell)(m:c.kind=.function)(h:∀y∈c.names,y.2=.local->c.names.lookup y.1=Z .local)(A:jd X.env.cells t)(u:jf t (ky c X.env).names)(v:gv X c N' cap)(B:∀C f g E,DG (cw X c t N' C f g E) M gt/\sA (cw X c t N' C f g E) I fc/\DE (cw X c t N' C f g E) J fe)(hs:∀x,uo iter X.env x=pure x:=by intro _;rfl):DE X (.ListComp J [⟨M,iter,I,0⟩] c pos) (d2 cap Y gt fc fe):=cR (Jv T U i j m h A u v B hs) λσ H Q z=>ay z λρ d R e q=>by refine bS e λds sC e=>bR e λhlen e=>?_;rw[bQ]at e;refine ax e λw N L=>?_;clear e;subst L;refine⟨ρ,w,R,by simp_all[ez,bb,if_true],λvs H1 p s1 O r=>?_⟩;exact q _ _ (s1.trans (dj O _)) (.lst (.inl br) (r.mono (dj O _)))
section
variable {X:Cx}{e a b:Expr}{pos p p2:Pos}{f fa fb:Zaf}
noncomputable def Wz:D->String|.aD=>"NoneType"|.bl _=>"bool"|.int _=>"int"|.str _=>"str"|.tup _=>"tuple"|.lst _=>"list"|.bI _=>"list"|.aW _ _=>"dict"|.tab .. =>"dict"|.obj .. =>"object"
noncomputable def isObj:D->Bool|.obj .. =>be|_=>bi
inductive Ty where|int|bool|str|tuple|list
noncomputable def Ty.nm:Ty->String|.int=>"int"|.bool=>"bool"|.str=>"str"|.tuple=>"tuple"|.list=>"list"
noncomputable def yi:Ty->D->Bool|.int,.int _=>be|.int,.bl _=>be|.bool,.bl _=>be|.str,.str _=>be|.tuple,.tup _=>be|.list,.lst _=>be|.list,.bI _=>be|_,_=>bi
def WA(K:au)(T:Ty)(d:D):PySem.W.kitOne K (.type (Wz d)) (.type T.nm)=Z (yi T d):=by cases T<;>cases d<;>kernel_rfl
theorem WB(T:Ty):mC X (.builtin "isinstance") (λxs H Q=>∃x d,xs=[x,.ty T.nm]/\Rep X.K H x d/\isObj d=bi/\Q (.bl (yi T d)) H):=by intro C s L H xs us Q I M h;refine ay h λx d B r q=>?_;clear h;subst B;obtain⟨N,q⟩:=q;refine ay (vals2 M) λu U B j O=>?_;subst B;cases O;have e:=WA X.K T d;have g:∀tk,EP X C L Q (.bool (yi T d)) {s with toks:=tk}:=λtk=>⟨.bl _,H,I.tok tk,W,q⟩;induction r using Rep.casesOn with|aD=>cases(show u=eJ from j);exact pX PySem.W.kitx_none I.eN jD e (λz=>nomatch z) g|bl y=>cases(show u=lh y from j);exact pX PySem.W.kitx_bool I.eN jD e (λz=>nomatch z) g|int i=>obtain⟨t,q⟩:=(show ∃t,u=AM i t from j);subst q;exact pX PySem.W.kitx_int I.eN jD e (λz=>nomatch z) g|str y Y=>obtain⟨t,q⟩:=(show ∃t,u=uk y t from j);subst q;exact pX PySem.W.kitx_str I.eN jD e (λz=>nomatch z) g|@tup a xs ds h J=>cases(show u=cN a from j);refine ax (Inv.nG I h) λE _ v=>aJ v λo m A _=>?_;clear v;exact pX PySem.W.kitx_tuple I.eN ⟨o,m,A⟩ e (λz=>nomatch z) g|@lst a xs ds h J=>cases(show u=cN a from j);refine ax (Inv.oU I h) λE _ v=>aJ v λo m A _=>?_;clear v;exact pX Zw0 I.eN ⟨o,m,A⟩ e (λz=>nomatch z) g|@aW a ob ks vs ds h J hl hn=>cases(show u=cN a from j);refine aQ (qm I.aV (.inr ⟨_,h⟩)) λ_ _ v=>ax v λ_ _ w=>aS w λob _ _ m A _=>?_;clear v w;exact pX Zw1 I.eN ⟨ob,m,A.1⟩ e (λz=>nomatch z) g|@tab a ks vs ds h J=>cases(show u=cN a from j);obtain⟨⟨_,_,_,_,_,_,ob,_,_,m,A,_⟩,_⟩:=I.aV a _ h;exact pX Zw1 I.eN ⟨ob,m,A.1⟩ e (λz=>nomatch z) g|obj=>injection N|@bI a ns h=>cases(show u=cN a from j);exact aJ (I.list h) λE _ o _=>aJ o.isList λob m A _=>pX Zw0 I.eN ⟨ob,m,A⟩ e (λz=>nomatch z) g
def nM(T:Ty)(f:Zaf):Zaf:=λg=>(f g).bind λd=>if isObj d=be then am else Z (.bl (yi T d))
def WC:gy "isinstance"=Z (.builtin "isinstance"):=by decide+kernel
def Ct:gy "int"=Z (.type "int"):=by decide+kernel
def WD:gy "bool"=Z (.type "bool"):=by decide+kernel
def WE:gy "str"=Z (.type "str"):=by decide+kernel
def yj:gy "tuple"=Z (.type "tuple"):=by decide+kernel
def WG:gy "list"=Z (.type "list"):=by decide+kernel
def boot_all:gy "all"=Z (.builtin "all"):=by decide+kernel
def boot_any:gy "any"=Z (.builtin "any"):=by decide+kernel
def boot_sorted:gy "sorted"=Z (.builtin "sorted"):=by decide+kernel
def boot_enumerate:gy "enumerate"=Z (.type "enumerate"):=by decide+kernel
theorem WH(T:Ty)(u:Gl X "isinstance")(w:X.mg "isinstance"=am)(h:Gl X x)(i:X.mg x=am)(y:gy x=Z (.type T.nm))(A:DE X a fa)(hn:x≠"__name__":=by decide)(j:'f'=bi:=by decide)(hs:bq [a,.Name x p2] X.env=(bi,eval a X.env)::bq [.Name x p2] X.env:=by rfl)(m:(dW pos (bq [.Name x p2] X.env)).any (·.1)=bi:=by rfl)(r:bq [.Name x p2] X.env=(bi,eval (.Name x p2) X.env)::bq [] X.env:=by rfl):DE X (.Call (.Name "isinstance" p) [a,.Name x p2] [] pos) (nM T fa):=cR (Ib (WB T) u w WC (ed A (ed (Sb (v:=.ty T.nm) h i y W hn j) eT r) hs) 'b' (by exact W) hs m) λL H Q z=>ay z λB d R e q=>by refine bS e λt C e=>?_;cases g:isObj t with|true=>rw[g]at e;injection e|false=>
   rw[g]at e
   exists e;exact⟨B,t,R,C,λv E I J=>⟨v,t,W,J,g,q _ E I (.bl _)⟩⟩
noncomputable def qq(f:Zaf):Zaf:=λg=>(f g).bind λd=>match d with|.int i=>Z (.int (-i))|_=>am
noncomputable def Jx:D->Option Bool|.bl b=>Z b|_=>am
def nN:List D->Option (List Bool)|[]=>Z []|d::ds=>(Jx d).bind λb=>(nN ds).map (b:: ·)
theorem Cu:∀{ds:List D}{bs:List Bool},nN ds=Z bs->ds=bs.map D.bl|[],bs,h=>by cases h;rfl|d::ds,bs,h=>by refine bS h λb g h=>?_;rw[bQ]at h;obtain⟨i,j,rfl⟩:=h;cases d<;>cases g;rw[bG,Cu j]
theorem Cv{K:au}{H:Hp}:∀{bs:List Bool}{vs:List V}{us:List ω},az K H vs (bs.map D.bl)->Vals vs us->us=bs.map lh|[],_,_,h,g=>by cases h;induction g using gM;rfl|b::bs,_,_,h,g=>by cases h with|cons h t=>induction h using mH;induction g using eL with|cons r d=>cases r;rw[bG,Cv t d]
def nO:Zad:=k1 λd=>match d with|.lst xs=>(nN xs).map λbs=>.bl (bs.all id)|_=>am
theorem WI(bs:List Bool):(gd bs.length).all (λi=>bs.getD i bi)=bs.all id:=by induction bs with|nil=>rfl|cons b r d=>rw[bz,IZ,cW,<-d];rfl
noncomputable def Cw:D->Option Str|.str x=>Z x|_=>am
def strsOf:List D->Option (List Str)|[]=>Z []|d::ds=>(Cw d).bind λb=>(strsOf ds).map (b:: ·)
theorem sI:∀{ds:List D}{bs:List Str},strsOf ds=Z bs->ds=bs.map D.str|[],bs,h=>by cases h;rfl|d::ds,bs,h=>by refine bS h λb g h=>?_;rw[bQ]at h;obtain⟨i,j,rfl⟩:=h;cases d<;>cases g;rw[bG,sI j]
theorem yk{K:au}{H:Hp}:∀{bs:List Str}{vs:List V}{us:List ω},az K H vs (bs.map D.str)->Vals vs us->StrsAre us bs|[],_,_,h,g=>by cases h;induction g using gM;exact .nil|b::bs,_,_,h,g=>by cases h with|cons h t=>induction h using Vs;induction g using eL with|cons r d=>obtain⟨t',rfl⟩:=r;exact .cons _ _ (yk t d)
theorem Cy{K:au}{H:Hp}:∀{bs:List Str}{vs:List V},az K H vs (bs.map D.str)->∀x∈bs,x.length<=aA|[],_,_,x,hx=>by cases hx|b::bs,_,g,x,hx=>by cases g with|cons g t=>cases g with|str _ h=>
    rcases a6.mp hx with rfl|hx;·exact h
    ·exact Cy t x hx
theorem Cz{K:au}{H:Hp}:∀{bs:List Str}{us:List ω},StrsAre us bs->(∀x∈bs,x.length<=aA)->Vals (bs.map V.str) us/\az K H (bs.map V.str) (bs.map D.str)|[],_,.nil,_=>⟨.nil,.nil⟩|b::bs,_,.cons _ t r,h=>by obtain⟨d,g⟩:=Cz (K:=K) (H:=H) r λx i=>h x (b8 _ i);exact⟨.cons ⟨t,W⟩ d,.cons (.str b (h b bZ)) g⟩
def sJ(x:Str):List Str->List Str|[]=>[x]|y::r=>if bM y x then y::sJ x r else x::y::r
def gR:List Str->List Str|[]=>[]|x::r=>sJ x (gR r)
theorem CA(x:Str):∀l:List Str,(sJ x l).Perm (x::l)
 |[]=>.refl _|y::r=>by
  unfold sJ;split;·exact((CA x r).cons y).trans (.swap x y r)
  ·exact .refl _
theorem kN:∀l:List Str,(gR l).Perm l|[]=>.refl _|x::r=>(CA x (gR r)).trans ((kN r).cons x)
theorem oW(d:bM x y=be)(g:bM y z=be):bM x z=be:=by unfold bM at*;grind
theorem yl{x y:Str}(h:x.cps.toList=y.cps.toList):x=y:=by cases x;simp_all
theorem sL(x y:Str):bM x y=be\/x=y\/bM y x=be:=by unfold bM;simp only[decide_eq_true_eq];grind[yl,List.le_antisymm]
theorem Jy(x:Str):bM x x=bi:=by simp[bM,decide_eq_false_iff_not,List.lt_irrefl]
theorem CB(h:bM x y=be):bM y x=bi:=by grind[bM,Jy,oW]
abbrev oX(l:List Str):Prop:=l.Pairwise λa b=>bM b a=bi
theorem Jz(x:Str):∀l:List Str,oX l->oX (sJ x l)
 |[],_=>GA _ _|y::r,h=>by
  have h':=iw.mp h;unfold sJ;split
  ·rename_i d;refine iw.mpr ⟨λz hz=>?_,Jz x r h'.2⟩;rcases a6.mp ((CA x r).mem_iff.mp hz)with rfl|hz;·exact CB d
   simp_all
  ·rename_i d;have g:bM y x=bi:=pW.mpr d;refine iw.mpr ⟨λz hz=>?_,h⟩;rcases a6.mp hz with rfl|hz;·exact g
   grind[bM,sL,oW]
theorem ym:∀l:List Str,oX (gR l)|[]=>.nil|x::r=>Jz x _ (ym r)
theorem CC:∀{l m:List Str},oX l->oX m->l.Perm m->l=m
 |[],m,_,_,p=>(List.Perm.nil_eq p)|x::r,[],_,_,p=>by simp_all|x::r,y::t,d,g,p=>by
  have e:x=y:=by
   have hx:=a6.mp (p.mem_iff.mp bZ);have hy:=a6.mp (p.mem_iff.mpr bZ);rcases hx with rfl|hx;·rfl
   ·rcases hy with rfl|hy;·rfl
    ·have h:=(iw.mp g).1 x hx;have i:=(iw.mp d).1 y hy;grind[sL]
  subst e;rw[CC (iw.mp d).2 (iw.mp g).2 (p.cons_inv)]
theorem JD:∀(r:List Str)(x:Str),risingS x r=be->oX (x::r)
 |[],x,_=>GA _ _|y::r,x,h=>by
  unfold risingS at h;rw[cV]at h;have i:=JD r y h.2;have d:bM y x=bi:=by have:=h.1;rw[ltCps_eq]at this;unfold bM;simpa using this
  refine iw.mpr ⟨λz hz=>?_,i⟩;rcases a6.mp hz with rfl|hz;·exact d
  ·have g:=(iw.mp i).1 z hz;cases q:bM z x with
   |false=>rfl|true=>
    rcases sL y z with t|t|t;·rw[oW t q]at d;injection d
    ·rw[t,q]at d;injection d
    ·rw[t]at g;injection g
def JH(h:sortedS l=be):oX l:=by cases l with|nil=>exact .nil|cons x r=>exact JD r x h
def JJ{d:Zaa}{s:ψ}{h:St}{H:Hp}(I:Inv X d h H s){g:List ω}{out:Array ω}{us:List V}{ds:List D}{Q:VK}(hz:us.length<=aA)(j:Vals us out.toList)(m:az X.K H us ds)(q:∀v H',av H H'->Rep X.K H' v (.lst ds)->Q v H'):EP X d h Q (.ref 'n') {s with heap:=sortedAll s.heap g out}:=by obtain⟨r,t⟩:=sortedAll_at s.heap g out;have i:=dj (I.aV.fresh (jC _)) (.lst us);exact⟨.ref 'n',_,I.laid (t':=s.toks) (o:=.lst us) (λb ob q=>sortedAll_old q) (jC _) ⟨hz,out.toList,r,j,by simpa [du]using t⟩,W,q _ _ i (.lst (.inl br) (m.mono i))⟩
def CD:Zad:=k1 λd=>match d with|.lst xs=>if xs.length<64 then(strsOf xs).map λbs=>.lst ((gR bs).map .str)else am|_=>am
def CF:D->D->Option D|.str x,.lst xs=>(strsOf xs).bind λbs=>if(bs.map (·.length)).sum+bs.length*x.length<=1000000 then Z (.str (xA x bs))else am|_,_=>am
theorem WJ:BN X "str.join" (λx xs H Q=>∃y g i d,xs=[y]/\Rep X.K H x g/\Rep X.K H y i/\CF g i=Z d/\∀v H',av H H'->Rep X.K H' v d->Q v H'):=by intro m s O H x xs v us Q I B C h;refine aU h λy g i z=>bh z λd j E r w=>aM w λe q=>?_;clear h z w;subst j;obtain⟨u,rfl,J⟩:=mE C;induction E using Rep.casesOn with
 |str x T=>obtain⟨t,rfl⟩:=B;induction r using Rep.casesOn with
  |@lst a vs ds h A=>
   cases J;refine bS (show(strsOf ds).bind (λbs=>if(bs.map (·.length)).sum+bs.length*x.length<=1000000 then Z (D.str (xA x bs))else am)=Z d from e) λbs L e=>bR e λhz e=>?_
   exists e;rw[sI L]at A;obtain⟨M,N,p⟩:=Inv.oU I h;refine join_list p (yk A N) (c3 hz (by exact gW ..)) λt' k=>?_;rw[show Txt.join x bs=xA x bs from StrLaws.glued_eq_join x bs];exact⟨.str _,H,I.tok k,⟨t',W⟩,q _ H 'v' (.str _ (c3 (StrLaws.join_length_le x bs) (c3 hz (by exact gW ..))))⟩|_=>injection e
 |_=>first|injection e|(cases r<;>injection e)
noncomputable def JM(T:String)(d:D):Bool:=match d with|.str _=>T=="str"|.lst _=>T=="list"|.bI _=>T=="list"|_=>bi
def WK{K:au}{H:Hp}{v:V}{T:String}(r:Rep K H v d)(h:JM T d=be):xY K T v H:=by induction r using Rep.casesOn with|str x g=>exact eq_of_beq h|lst h' i=>exact .inl ⟨eq_of_beq h,_,.inl h'⟩|bI h'=>exact .inl ⟨eq_of_beq h,_,h'⟩|_=>injection h
def yn(fa fb:Zaf):Zaf:=λd=>(fa d).bind λx=>if JM "str" x=be then(fb d).bind λy=>CF x y else am
theorem WL{apos cpos:Pos}(B:DE X a fa)(C:DE X b fb)(g:md a "join" X.env (eval a X.env)=eval a X.env:=by rfl) (i:((dW cpos (bq [b] X.env)).all (λx=>!x.1)&&(me cpos (mf [] X.env)).all (λx=>x.1.isSome) &&decide (([b]:List Expr).length+([]:List uA).length+(if([]:List uA).isEmpty then 0 else 1)<30))=be:=by rfl) (h:'s'=be:=by rfl) (hs:bq [b] X.env=(bi,eval b X.env)::bq [] X.env:=by rfl):DE X (.Call (.Attribute a "join" apos) [b] [] cpos) (yn fa fb):=cR (kF PySem.F.plainAttrs_str PySem.F.slot_str_join PySem.F.type_str_join WJ B (ed C eT hs) g i h hs W) λO H Q y=>ay y λj d R e q=>by exact bS e λm E e=>bR e λI e=>bS e λr J e=>⟨j,m,R,E,λv T t w=>⟨WK w I,j,r,R.mono t,J,λu H2 A L=>⟨u,m,r,d,W,w.mono A,L,e,λz H' M N=>q z H' (t.trans (A.trans M)) N⟩⟩⟩
end
end DL
open DL.Rep renaming casesOn→gp
namespace HT
open PySem PySem.Spec PyProof.Rows L2
section
variable {prog:a8}{w:World}{A:Around}{E:Zab}{s:ψ}
def WM{t g:Λ}{c:Array ω}{q r:ω}{lo f:Option Int}{Q:Zab}(d:IsTup s.heap t c)(hs:s.heap.IsSliceOf g q r .none)(pl:IsPart q lo)(u:IsPart r f) (hw:ba c.size 0 lo=0/\ba c.size c.size f=c.size) (h:Q (.ref t) s):wpAny 'j' A (mi (.ref t) (.ref g)) Q E s:=by
 refine aJ (id hs) λos i j v=>?_;have p:s.TypeIs (.ref g) "slice":=⟨os,i,j⟩;unfold mi;try with_reducible refine wpAny_holding ?_
 first|refine υ (χ ?_)|skip
 refine υ (QE d.typeIs (by exact W) ?_);refine υ (uC (name:=AZ "__getitem__") d.typeIs xh (mj xh d.typeIs Zwn ?_ (Zwo _ _)));show wpAny _ _ (QF (.ref t)>>=_) _ _ s;refine υ (tupleItemsOf_ d ?_);refine υ (A0 p ?_);rw[if_pos (by exact W)];refine υ (Ig hs pl u ?_);have e:(((ba c.size 0 lo:Nat):Int)==0&&(1:Int)==1&&(ba c.size c.size f-ba c.size 0 lo)==c.size)=be:=by rw[hw.1,hw.2];simp
 show wpAny _ _ (if(((ba c.size 0 lo:Nat):Int)==0&&(1:Int)==1&&(ba c.size c.size f-ba c.size 0 lo)==c.size)=be then _ else _) _ _ s;rw[if_pos e];refine υ (m:=Zw2 _) ?_;unfold Zw2;refine υ (A0 d.typeIs (χ ?_));rw[if_pos (by exact W)];refine υ (xq ?_);exact χ ⟨_,W,χ h⟩
end
end HT
namespace DL
open PySem PySem.Spec PyProof.Rows L2
section
variable {X:Cx}{e a c:Expr}{pos p p2:Pos}{f fa:Zaf}
def cc{d:Type}(xs:List d)(lo g:Option Int):List d:=(xs.drop (HT.ba xs.length 0 lo)).take (HT.ba xs.length xs.length g-HT.ba xs.length 0 lo)
theorem WN{d i:Type}(g:d->i)(xs:List d)(lo h:Option Int):(cc xs lo h).map g=cc (xs.map g) lo h:=by unfold cc;rw[QW,Zw3,aG]
def JN{d:Type}(xs:List d)(lo g:Option Int):(cc xs lo g).length<=xs.length:=by unfold cc;rw[ly,AY];lia
def CG{K:au}{H:Hp}{vs:List V}{ds:List D}(r:az K H vs ds)(lo d:Option Int):az K H (nu vs lo d) (cc ds lo d):=by unfold nu cc;rw[r.length];exact(r.drop _).take _
def qr:D->Option Int->Option Int->Option D|.lst xs,lo,d=>Z (.lst (cc xs lo d))|.bI ns,lo,d=>Z (.lst ((cc ns lo d).map .int))|.tup xs,lo,d=>if HT.ba xs.length 0 lo=0/\HT.ba xs.length xs.length d=xs.length then am else Z (.tup (cc xs lo d))|.str x,lo,d=>Z (.str ⟨(cc x.cps.toList lo d).toArray⟩)|_,_,_=>am
theorem WO(lo g:Option Int)(n:Nat):Zw4 lo g 1 n=sliceRange ((HT.ba n 0 lo:Nat):Int) ((HT.ba n n g:Nat):Int) 1:=by unfold Zw4;have h:∀o d:Option Int,True:=λ_ _=>trivial;cases lo<;>cases g<;>simp only[HT.ba,show(1:Int)>0 by decide,if_true,<-HT.BJ]<;>congr 1<;>(try split)<;>(try split)<;>omega
theorem WQ(x:Str)(lo d:Option Int):QX x lo d=⟨(cc x.cps.toList lo d).toArray⟩:=by
 have g:x.length=x.cps.toList.length:=by show x.cps.size=_;simp
 unfold QX;rw[WO,sliceRange_one,pick_run];split;·rename_i h;simp only[cV,beq_iff_eq,aG,kz]at h;apply yl;have j:=HT.BI x.length 0 (dZ _) lo;have m:=HT.BI x.length x.length (a9 _) d;have i:=h.2;unfold cc;rw[<-g,i,show HT.ba x.length 0 lo=0 by lia,Zw5,g,m8]
 ·unfold cc;rw[<-g]
def WR:nt X (λx lo m H Q=>∃z,x=.str z/\z.length<=aA/\Q (.str ⟨(cc z.cps.toList lo m).toArray⟩) H):=by intro g s B H x v E J lo m L Q I C hs pl y h;refine aJ h λz r hz q=>?_;clear h;subst r;obtain⟨t,rfl⟩:=C;rw[<-WQ]at q;refine⟨"str",_,PySem.F.slot_str_getitem.lookup,QI _ _ _,?_⟩;have d:∀t' k,EP X g B Q (.str (QX z lo m) t') {s with toks:=k}:=λt' k=>⟨.str _,H,I.tok k,⟨t',W⟩,q⟩;induction pl using Gh with
 |none=>induction y using Gh with
  |none=>exact GC (l:=am) (u:=am) (st:=am) hs W (GD ⟨c3 (GG z _ _) hz,d⟩)|int j w=>exact GC (l:=am) (u:=Z (j,w)) (st:=am) hs W (GD ⟨c3 (GG z _ _) hz,d⟩)
 |int i A=>induction y using Gh with|none=>exact GC (l:=Z (i,A)) (u:=am) (st:=am) hs W (GD ⟨c3 (GG z _ _) hz,d⟩)|int j w=>exact GC (l:=Z (i,A)) (u:=Z (j,w)) (st:=am) hs W (GD ⟨c3 (GG z _ _) hz,d⟩)
def WS(K:au)(f:ai->Option (Option Int)):TO:=λg H Q=>∃d o,cD K H g d/\f d=Z o/\∀H',av H H'->Q o H'
abbrev DO(X:Cx)(e:Option Expr)(f:ai->Option (Option Int)):Prop:=PO X e (WS X.K f)
def JP{e:Option Expr}{t t':TO}(h:PO X e t)(i:∀d H Q,t' d H Q->t d H Q):PO X e t':=λg s d H Q I hw=>h g s d H Q I (i d H Q hw)
noncomputable def iN:ai->Option (Option Int):=λ_=>Z am
noncomputable def eC(f:Zaf):ai->Option (Option Int):=λg=>(f g).bind λd=>match d with|.int i=>Z (Z i)|_=>am
def kO(fa:Zaf)(fl g:ai->Option (Option Int)):Zaf:=λd=>(fa d).bind λx=>(fl d).bind λl=>(g d).bind λh=>qr x l h
def WU:nt X (λx lo i H Q=>∃a xs,x=.ref a/\cX X.K H a xs/\(HT.ba xs.length 0 lo=0/\HT.ba xs.length xs.length i=xs.length)/\Q (.ref a) H):=by
 intro j s y H x v z A lo i B Q I t hs pl u h;refine bV h λa xs d w hw q=>?_;clear h;subst d;cases t;refine aJ (I.tuple w) λg r m hz=>?_;have hlen:g.toArray.size=xs.length:=by rw[dY];exact r.length.symm
 refine⟨"tuple",_,xh.lookup,m.typeIs,?_⟩;exact HT.WM m hs pl u (by rw[hlen];exact hw) ⟨.ref a,H,I,W,q⟩
def oY:D->Option Int->Option Int->Option D|.tup xs,lo,g=>if HT.ba xs.length 0 lo=0/\HT.ba xs.length xs.length g=xs.length then Z (.tup xs)else Z (.tup (cc xs lo g))|d,lo,g=>qr d lo g
def jg(fa:Zaf)(fl g:ai->Option (Option Int)):Zaf:=λd=>(fa d).bind λx=>(fl d).bind λl=>(g d).bind λh=>oY x l h
theorem JQ{lo A:Option Expr}{fl B:ai->Option (Option Int)}(J:DE X a fa)(L:DO X lo fl)(M:DO X A B):DE X (.Subscript a (.Slice lo A am p2) pos) (jg fa fl B):=cR (Uz (UP.or (UB.or (WR.or WU))) J L M) λσ H Q y=>ay y λm d R e q=>by
  refine bS e λN O e=>bS e λl T e=>bS e λh U e=>⟨m,N,R,O,λv H1 t Y=>⟨m,l,R.mono t,T,λH2 u=>⟨m,h,R.mono (t.trans u),U,λC E=>?_⟩⟩⟩;have S:=t.trans (u.trans E);have r3:=Y.mono (u.trans E);have j:∀v H',av C H'->Rep X.K H' v d->Q v H':=λv H' s r=>q v H' (S.trans s) r;induction r3 using gp with
  |@lst a vs ds h' i=>exists e;exact .inl ⟨a,vs,W,.inl h',λp g=>j _ _ (dj g _) (.lst (.inl br) ((CG i l h).mono (dj g _)))⟩|@bI a ns h'=> exists e;refine .inl ⟨a,_,W,h',λp g=>j _ _ (dj g _) (.lst (.inl br) ?_)⟩;have z:=(CG (vj (K:=X.K) (H:=upd C p (.lst (nu (ns.map V.int) l h))) ns) l h);rw[<-WN]at z;exact z|@tup a vs ds h' i=>
   have w:(if HT.ba ds.length 0 l=0/\HT.ba ds.length ds.length h=ds.length then Z (D.tup ds)else Z (D.tup (cc ds l h)))=Z d:=e;split at w
   ·rename_i hw
    exists w;exact .inr (.inr (.inr ⟨a,vs,W,h',by rw[i.length];exact hw,j _ _ (av.refl _) (.tup h' i)⟩))
   ·rename_i hw
    exists w;exact .inr (.inl ⟨a,vs,W,h',by rw[i.length];exact hw,λp g=>j _ _ (dj g _) (.tup (.of br) ((CG i l h).mono (dj g _)))⟩)|str x I=> exists e;refine .inr (.inr (.inl ⟨x,W,I,j _ _ (av.refl _) (.str _ ?_)⟩));show(cc x.cps.toList l h).toArray.size<=aA;rw[dY];exact c3 (JN _ _ _) (by have h9:x.cps.size<=aA:=I;simpa using h9)|_=>injection e
noncomputable def sgn(c:Nat):Str:=⟨#[c]⟩
noncomputable abbrev kb:=VM
end
section
variable {X:Cx}{e a b c tg:Expr}{es:List Expr}{p:Pos}{f:Zaf}
def CH(h:PI X tg iter t)(i:∀d H R,t' d H R->t d H R):PI X tg iter t':=λg s d H R I hw=>h g s d H R I (i d H R hw)
noncomputable def sg(c:Nat):Str:=⟨#[c]⟩
noncomputable def JR:D->Option (List D)|.lst xs=>Z xs|.tup xs=>Z xs|.bI ns=>Z (ns.map .int)|_=>am
def dN(f:Zaf):Zag:=λd=>(f d).bind JR
noncomputable def cq(lo:Int)(n:Nat):List D:=(gd n).map λi=>.int (lo+(i:Nat))
def WV{K:au}{H:Hp}(lo:Int)(n:Nat):Wk K (rW lo n) H (cq lo n):=λH' s=>by
 refine⟨λi d g=>?_,by show n<=_;simp[cq]⟩;unfold cq at g;rw[bJ]at g;by_cases h:i<n
 ·rw[A8 h]at g
  exists g;refine⟨h,λv j z=>aM z λm q=>?_⟩;subst m q;exact⟨av.refl _,.int _⟩
 ·rw[Gw.mpr (by simpa using h)]at g;injection g
def CI:Option (List D)->Option (List D):=λo=>o.bind λds=>match ds with|[.int j]=>if-(2^62)<=j/\j<2^62 then Z (cq 0 j.toNat)else am|[.int i,.int j]=>if-(2^62)<=i/\i<2^62/\ -(2^62)<=j/\j<2^62 then Z (cq i (j-i).toNat)else am|_=>am
noncomputable def lO(h:Zah)(gb:Zai):List D->Zai|[],i=>Z (.aF i)|d::ds,i=>(h d i).bind λj=>(gb j).bind λo=>match o with|.aF g=>lO h gb ds g|.cnt g=>lO h gb ds g|.brk g=>Z (.aF g)|.ret d=>Z (.ret d)
def vJ(g:Zag)(h:Zah)(gb:Zai):Zai:=λd=>(g d).bind λds=>lO h gb ds d
def WW(K:au)(g:List D->ai->Option ai):qg:=λvs i H Q=>∃h ds ρ',cD K H i h/\az K H vs ds/\g ds h=Z ρ'/\∀d H',av H H'->cD K H' d ρ'->Q d H'
noncomputable def lP:List D->ai->Option ai|[],d=>Z d|_,_=>am
noncomputable def dF(g:Zah)(gs:List D->ai->Option ai):List D->ai->Option ai|d::ds,i=>(g d i).bind λh=>gs ds h|[],_=>am
noncomputable def lQ(n:Nat)(gs:List D->ai->Option ai):Zah|.tup ds,d=>if ds.length=n then gs ds d else am|_,_=>am
abbrev WX(X:Cx)(ts:List Expr)(g:List D->ai->Option ai):Prop:=rT X ts (WW X.K g)
theorem Inv.WY{d:Zaa}{j:St}{H:Hp}{s:ψ}{h':Heap}{ch:List Λ}(I:Inv X d j H s)(k:∀b o,b∉ch->s.heap.get? b=Z o->h'.get? b=Z o)(hn:∀t∈ch,H t=am) (h:∀b∈ch,(b∈X.ex\/X.d_.heap.objs.size<=b)/\b≠X.env.locals/\(∀x c,X.env.cells.lookup x=Z c->c≠b)/\∀p∈X.pn++d,p.1≠b):Inv X d j H {s with heap:=h',toks:=t'}:=by
 have i:∀b u,H b=Z u->b∉ch:=λb u e z=>by rw[hn b z]at e;injection e
 refine I.step (g':=s.gens) (d':=s.drawn) (ch:=ch) h (λb o _ _ g e _=>k b o g e) (λb o _ _ g e _=>⟨o.slots,k b o g e⟩) (λ_ _ _ _ n=>n) (λb o g e=>⟨o,k b o g e⟩) (λ_ _ e=>e) (λ_ _ _ e=>e) (λb ps e=>⟨#[],by rw[e];exact W⟩) (λm w=>?_) (λb u e=>?_) I.bare;·exact eM w λo es ep y r=>⟨o,es,ep,k _ o (λz=>(h _ z).2.1 W) y,r⟩
 ·refine(I.aV b u e).mv (λc v g q=>k c v ?_ q) (λ_ q=>q) λ_ _ q=>q;rcases g with z|z;·rw[z];exact i b u e
  ·exact i c _ z
theorem JU{d:Zaa}{s:ψ}{C:St}{H:Hp}{E:Zab}{t:List Expr}{x1}{B:Pos}{h i:Λ}{j:Int}{old u:ω}{x:V}{h':Heap}{tk:Tok}{J:V->Hp->Prop}{T:Heap->Prop}(I:Inv X d C H s)(yo:h≠i)(L:∀b,b∈[h,i]->oO X d H b)(h1:xB s.heap h i j old)(hsz:i<s.heap.objs.size)(M:IsEnumOut h' h i (j+1) u s.heap.objs.size) (N:h'.get? s.heap.objs.size=Z {cls:=.type "tuple",data:=.seq #[.int j tk,u]}) (O:∀b o,b≠h->b≠i->s.heap.get? b=Z o->h'.get? b=Z o) (ru:RelV x u) (hJ:H s.heap.objs.size=am->J (.ref s.heap.objs.size) (upd H s.heap.objs.size (.tup [.int j,x]))) (hT:∀m:Heap,(∀b o,b≠h->h'.get? b=Z o->m.get? b=Z o)->T m):∃Q,Z (cN s.heap.objs.size)=Z Q/\wpAny 'd' X.A (F_ (.Tuple t x1 B) (.ref h) Q) (λ_ U=>∃x H',Inv X d C H' U/\RelV x Q/\J x H'/\((∃old,xB U.heap h i (j+1) old)/\T U.heap)/\∀b,b∈[h,i]->H' b=am) E {s with heap:=h',toks:=tk+1}:=by
 refine⟨_,W,wpAny_letOwnedTupleGo_enum M λm Y r=>?_⟩;have q:s.heap.objs.size≠h:=w8 (b6 h1);have g:H s.heap.objs.size=am:=I.aV.fresh (a9 _);have I1:Inv X d C H {s with heap:=m,toks:=tk+1}:=by refine Inv.WY (ch:=[h,i]) I (λb o hb ho=>r.extBut b o (λz=>hb (by simp[z])) (O b o (λz=>hb (by simp[z])) (λz=>hb (by simp[z])) ho)) (λb hb=>(L b hb).1) (λb hb=>?_);exact iy (L b hb) λj0 j1 j2 j3 j4 j5=>⟨j3,j1,j4,j5⟩
 refine⟨.ref s.heap.objs.size,upd H s.heap.objs.size (.tup [.int j,x]),Inv.Jf I1 g I.sz (w8 I.lt) (λy c e=>?_) (λp hp=>df (b6 (I.pin p hp).1)) ⟨(by show 2<=aA;exact gW ..),[.int j tk,u],.cons ⟨_,W⟩ (.cons ru .nil),⟨_,r.extBut _ _ q N,W,_,W⟩⟩,W,hJ g,⟨⟨u,Y⟩,hT _ r.extBut⟩,λb hb=>?_⟩;·obtain⟨v,z⟩:=I.cell y c e;exact df z.lt
 ·have WZ:b≠s.heap.objs.size:=by
   rcases a6.mp hb with rfl|hb;·exact bW q
   ·rw[aZ.mp hb];exact df hsz
  rw[bu WZ];exact(L b hb).1
def yp(K:au)(a:Λ):It:=⟨λi H=>∃xs x,bX K H a xs/\xs[i]?=Z x,λi H x H'=>∃p y,H p=am/\H'=upd H p (.tup [.int i,y])/\x=.ref p/\∀xs,bX K H a xs->xs[i]?=Z y,λi H=>∃xs,bX K H a xs/\xs.length<=i⟩
theorem W0{P:a8}{w:World}{K:au}{q:List Expr}{x1}(a A g:Λ)(m:A≠g):Turn P w K (.Tuple q x1 t) (yp K a) [A,g] A (λi h=>(∃old,xB h A g ((i:Nat):Int) old)/\h.IsListIter g a i) where
 mem:=by exact .head _
 obj:=λi h st b hb=>by
  obtain⟨⟨old,d⟩,o,j,h3,h4⟩:=st;rcases a6.mp hb with rfl|hb;·exact⟨_,d,λv z=>by injection z⟩
  ·have e:b=g:=by simpa using hb
   subst e;exact⟨o,j,λv z=>by rw[h4]at z;injection z⟩
 keep:=λi h h' st k=>by obtain⟨⟨old,d⟩,o,j,h3⟩:=st;exact⟨⟨old,k A (by exact .head _) _ d⟩,o,k g (by exact .tail _ (.head _)) o j,h3⟩
 item:=by intro X M hw N hc i B s σ H E I O st Q;subst M hw N;refine cA Q λxs x y L=>aJ (I.list y) λU Y pl hz=>?_;obtain⟨⟨old,d⟩,j⟩:=st;obtain⟨u,hu,ru⟩:=Y.get L;exact wpAny_pyNext_enum_item d j pl.isList (x:=u) (by simpa using hu) m λh' CJ C CK W2 oV=>JU (J:=(yp X.K a).rV i H) (T:=λh=>h.IsListIter g a (i+1)) I m O d (ax j λ_ ho _=>b6 ho) CJ CK oV ru (λCL=>⟨_,x,CL,W,W,λys hy=>by rw[I.Hk hy y];exact L⟩) λ_ e=>ax C λo ho r=>⟨o,e g o (bW m) ho,r⟩
 done:=by intro X M hw N hc i B s σ H E I O st Q;subst M hw N;refine iy (O g (by exact .tail _ (.head _))) λg0 g1 g2 g3 g4 g5=>?_;obtain⟨xs,y,L⟩:=Q;refine aJ (I.list y) λU Y pl hz=>?_;obtain⟨⟨old,d⟩,j⟩:=st;exact wpAny_pyNext_enum_end (I.ok.hd hc) d j pl.isList (by rw[Zw6];simp;rw[<-Y.length];exact L) λh' eb=>⟨W,I.turned (t':=s.toks) (λb o hb e=>eb b o hb e) g0 g1 g3 g4 g5⟩
 self:=λ_ _ _ _ _ st h=>by obtain⟨⟨old,d⟩,_⟩:=st;exact GH d h
noncomputable def kP:Nat->List D->List D|_,[]=>[]|i,d::ds=>.tup [.int ((i:Nat):Int),d]::kP (i+1) ds
theorem sM:∀(ds:List D)(i:Nat),(kP i ds).length=ds.length|[],_=>rfl|_::ds,i=>by rw[kP,bz,bz,sM ds]
theorem JV:∀(ds:List D)(k i:Nat)(d:D),(kP k ds)[i]?=Z d->∃y,ds[i]?=Z y/\d=.tup [.int ((k+i:Nat):Int),y]|[],_,_,_,h=>by simp[kP]at h|y::ds,k,0,d,h=>by simp[kP]at h;exact⟨y,W,h.symm⟩|y::ds,k,i+1,d,h=>by obtain⟨z,g,j⟩:=JV ds (k+1) i d (by simpa [kP]using h);exact⟨z,by simpa using g,by rw[j];congr 3;grind⟩
noncomputable def W3:D->Option (List D)|.lst xs=>Z xs|.tup xs=>Z xs|.bI ns=>Z (ns.map .int)|_=>am
def sN(f:Zaf):Zag:=λg=>(f g).bind λd=>(W3 d).map (kP 0)
theorem JX{d:Zaa}{m:St}{H:Hp}{s:ψ}{R:It->Hp->Prop}{E:Zab}{g:List Expr}{x1}{a:Λ}{vs:List V}(I:Inv X d m H s)(h:bX X.K H a vs)(q:R (yp X.K a) H):wpAny 'd' X.A (call (.type "enumerate") [.ref a]) (λv t=>wpAny 'd' X.A (w9 v) (xR X d m (.Tuple g x1 i) R) E t) E s:=by
 refine aJ (I.list h) λu B pl hz=>call_enumerate_list pl.isList λh' r x C y=>GH r ?_;have z:Inv X d m H {s with heap:=h'}:=I.kept (t':=s.toks) y;refine⟨s.heap.objs.size+1,[s.heap.objs.size+1,s.heap.objs.size],_,_,H,W,z,W0 a _ _ (Zw7 _),⟨⟨_,r⟩,x⟩,λb hb=>?_,q⟩;have j:s.heap.objs.size<=b:=by
  rcases a6.mp hb with rfl|hb;·exact jC _
  ·have e:b=s.heap.objs.size:=by simpa using hb
   rw[e];exact a9 _
 exact I.qh j (I.aV.fresh j)
end
end DL
namespace HT
open PySem PySem.Spec PyProof.Rows L2
open AutoSeq1 (wpAny_loadPart')
section
variable {prog:a8}{w:World}{A:Around}{E:Zab}{s:ψ}
def W4(c:rF s.heap e t i)(m:IsTup s.heap t d)(p:d[i]?=Z x)(q:∀h',rF h' e t (i+1)->lj e s.heap h'->Q x {s with heap:=h'}):wpAny 'j' A (GI (.ref e)) Q E s:=by refine aJ (id c) λo g r f=>?_;refine aJ m λu h _ z=>hZ z λnl j=>?_;unfold GI;refine υ (uC (name:=AZ "__next__") c.typeIs GJ (mj GJ c.typeIs Zw8 ?_ (Zw9 _)));show wpAny _ _ (field (.ref e) 0>>=_) _ _ s;refine υ (rA g f (x:=.ref t) W ?_);show wpAny _ _ (if(cN t==eJ)=be then _ else _) _ _ s;rw[if_neg (show¬((cN t==eJ)=be) from dg)];show wpAny _ _ (field (.ref e) 1>>=_) _ _ s;refine υ (rA g f (x:=.int i 0) W ?_);show wpAny _ _ (seqItems? (.ref t)>>=_) _ _ s;refine υ (QQ h j ?_);simp only[mn,p];refine υ (GK g f (by exact uz _) (χ ⟨x,W,χ (q _ ⟨_,A2 _ g (Obj.isFreed_of_fields (Zw_ f _)),(Obj.cls_mapFields ..).trans r,by rw[Zw_ f];exact W⟩ (oG ..))⟩))
def JY(q:A.handled=am)(c:rF s.heap f t i)(r:IsTup s.heap t d)(u:d[i]?=am)(v:∀h' e,Zxa f s.heap h'->(∃o,h'.get? e=Z o/\o.cls=.type "StopIteration")->E (.ref e) {s with heap:=h'}):wpAny 'j' A (GI (.ref f)) Q E s:=by
 refine aJ (id c) λo g y h=>?_;refine aJ r λB j _ z=>hZ z λnl p=>?_;unfold GI;refine υ (uC (name:=AZ "__next__") c.typeIs GJ (mj GJ c.typeIs Zw8 ?_ (Zw9 _)));show wpAny _ _ (field (.ref f) 0>>=_) _ _ s;refine υ (rA g h (x:=.ref t) W ?_);show wpAny _ _ (if(cN t==eJ)=be then _ else _) _ _ s;rw[if_neg (show¬((cN t==eJ)=be) from dg)];show wpAny _ _ (field (.ref f) 1>>=_) _ _ s;refine υ (rA g h (x:=.int i 0) W ?_);show wpAny _ _ (seqItems? (.ref t)>>=_) _ _ s;refine υ (QQ j p ?_);simp only[mn,u];refine υ (xq (υ (GK g h (by exact mq _) ?_)));show wpAny _ _ (newExc (.type "StopIteration") []>>=_) _ _ _;refine υ ?_;simp only[newExc,newTuple];refine υ (wpAny_newObj_type ?_ (by size_fits));refine υ (m:=firstArgMember _ _) (wpAny_of_eq (a:=eJ) (by first|rfl|(simp only[firstArgMember];rfl)) ?_);refine wpAny_newObj_type ?_ (by size_fits);simp only[raiseNew];refine υ (wpAny_handled ?_);first|rw[show A.in1.handled=am from q]|rw[q]
 refine υ (χ (wpAny_throw (v _ _ (((oG ..).extBut.push _).push _) ⟨_,eo _ W,W⟩)))
end
def W5{A:Around}(u:A.handled=am)(e t:Λ)(j:t≠e)(c:Array ω):Draws prog w A e [e,t] c.size (λi v=>c[i]?=Z v) (λi h=>rF h e t i/\IsTup h t c) where
 live:=λ_ _ st=>by obtain⟨⟨o,m,_⟩,_⟩:=st;exact⟨o,m⟩
 frame:=λ_ _ _ st q=>by obtain⟨⟨o,m,r⟩,o2,d,p⟩:=st;exact⟨⟨o,q e (by exact .head _) o m,r⟩,o2,q t (by exact .tail _ (.head _)) o2 d,p⟩
 item:=λi s Q E B st y=>W4 st.1 st.2 (x:=c[i]) 'o' λh' f g=>y _ h' s.toks 'o' ⟨f,ax st.2 λo2 d p=>⟨o2,g.extBut t o2 j d,p⟩⟩ g;done:=λs Q E st z=>JY u st.1 st.2 'o' z
def W6{A:Around}(p:A.handled=am)(d t:Λ)(c:Array ω)(q:c[i]?=am):Draws prog w A d [d,t] i (λ_ _=>False) (λj h=>j=i/\rF h d t i/\IsTup h t c) where
 live:=λ_ _ st=>by obtain⟨_,⟨o,f,_⟩,_⟩:=st;exact⟨o,f⟩
 frame:=λ_ _ _ st m=>by obtain⟨e,⟨o,f,r⟩,o2,g,u⟩:=st;exact⟨e,⟨o,m d (by exact .head _) o f,r⟩,o2,m t (by exact .tail _ (.head _)) o2 g,u⟩
 item:=λj s Q E v st y=>absurd st.1 (df v);done:=λs Q E st x=>JY p st.2.1 st.2.2 q x
def W7(l:Λ)(e:Array ω)(n:Nat)(i:Option Λ)(p:Array (Option ω)):Meets (Builtin.«enumerate.__new__» ⟨[.type "enumerate",.ref l],[]⟩) (λ_ R s=>s.heap.get? l=Z {cls:=.type "tuple",dict:=i,data:=.seq e n,slots:=p}∧ R (.ok (.ret (.ref (s.heap.push {cls:=.type "tuple_iterator",data:=.fields #[.ref l,.int 0 0]}).objs.size))) {s with heap:=(s.heap.push {cls:=.type "tuple_iterator",data:=.fields #[.ref l,.int 0 0]}).push {cls:=.type "enumerate",data:=.fields #[.none,.bool bi,.ref s.heap.objs.size,w_ 0,.none,.none]}}):=.of_wp λprog w A R s h=>by
  obtain⟨q,g,d,tk,os⟩:=s;obtain⟨f,h⟩:=h;have j:=sub_enumerate;have m:IsTup (Shared.heap ⟨q,g,d,tk,os⟩) l e:=⟨_,f,W,n,W⟩
  wp_walk using wpAny_loadPart' f;refine wpAny_stack_any λst=>χ ?_;split;·rename_i c _ _ _ _ _;cases(c==FW "enumerate")<;>(wp_walk using wpAny_loadPart' f,iter_tuple m;exact⟨_,W,h⟩)
  ·wp_walk using wpAny_loadPart' f,iter_tuple m;exact⟨_,W,h⟩
section
variable {prog:a8}{w:World}{A:Around}{E:Zab}{s:ψ}
def W8(j:IsTup s.heap l d)(h:∀h',xB h' 'n' s.heap.objs.size 0 .none->rF h' s.heap.objs.size l 0->h'.objs.size=s.heap.objs.size+2-> (∀b o,s.heap.get? b=Z o->h'.get? b=Z o)->Q (.ref 'n') {s with heap:=h'}):wpAny 'j' A (call (.type "enumerate") [.ref l]) Q E s:=by
 obtain⟨⟨c,e,m,p⟩,r,f,n,g⟩:=j
 replace f:c=.type "tuple":=f
 replace g:m=.seq d n:=g;subst f g;refine callType_new F.called_enumerate (by exact W) (F.typeCall_enumerate_1 _) (F.newCall_enumerate_1 _) (λobj=>Zxb obj _) F.entry_enumerate_new (W7 l d n e p) ⟨r,?_⟩;have hz:(s.heap.push {cls:=.type "tuple_iterator",data:=.fields #[.ref l,.int 0 0]}).objs.size=s.heap.objs.size+1:=AR ..;show _/\_;rw[hz];have i:xB ((s.heap.push {cls:=.type "tuple_iterator",data:=.fields #[.ref l,.int 0 0]}).push {cls:=.type "enumerate",data:=.fields #[.none,.bool bi,.ref s.heap.objs.size,w_ 0,.none,.none]}) 'n' s.heap.objs.size 0 .none:=by have q:=eo (s.heap.push {cls:=.type "tuple_iterator",data:=.fields #[.ref l,.int 0 0]}) (o:={cls:=.type "enumerate",data:=.fields #[.none,.bool bi,.ref s.heap.objs.size,w_ 0,.none,.none]}) W;rw[hz]at q;exact q
 exact⟨⟨_,i,W⟩,h _ i ⟨_,cO _ (eo _ W),W,W⟩ (by rw[AR,hz]) λb o x=>cO _ (cO _ x)⟩
end
end HT
namespace DL
open PySem PySem.Spec PyProof.Rows L2
section
variable {X:Cx}{a:Expr}{p:Pos}
def yq(K:au)(a:Λ):It:=⟨λi H=>∃xs x,cX K H a xs/\xs[i]?=Z x,λi H x H'=>∃p y,H p=am/\H'=upd H p (.tup [.int i,y])/\x=.ref p/\∀xs,cX K H a xs->xs[i]?=Z y,λi H=>∃xs,cX K H a xs/\xs.length<=i⟩
theorem W9{P:a8}{w:World}{K:au}{C:List Expr}{x1}(a t c:Λ)(g:t≠c):Turn P w K (.Tuple C x1 L) (yq K a) [t,c] t (λi h=>(∃old,xB h t c ((i:Nat):Int) old)/\rF h c a i) where
 mem:=by exact .head _
 obj:=λi h st b hb=>by
  obtain⟨⟨old,d⟩,o,j,h3,h4⟩:=st;rcases a6.mp hb with rfl|hb;·exact⟨_,d,λv z=>by injection z⟩
  ·have e:b=c:=by simpa using hb
   subst e;exact⟨o,j,λv z=>by rw[h4]at z;injection z⟩
 keep:=λi h h' st k=>by obtain⟨⟨old,d⟩,o,j,h3⟩:=st;exact⟨⟨old,k t (by exact .head _) _ d⟩,o,k c (by exact .tail _ (.head _)) o j,h3⟩
 item:=by
  intro X B hw Y hc i M s σ H E I hf st hg;subst B hw Y;refine cA hg λxs x y U=>aJ (I.tuple y) λf rv pl hz=>?_;obtain⟨⟨old,d⟩,j⟩:=st;obtain⟨u,hu,ru⟩:=rv.get U;have W_:a≠t:=λz=>by
   subst z;refine aJ pl λo m q _=>?_;have e:=d.symm.trans m
   exists e;simp at q
  have Xa:a≠c:=λz=>by
   subst z;refine aJ pl λo m q _=>aJ j λo2 N O _=>?_;rw[m]at N
   exists N;rw[q]at O;simp at O
  have hi:i<f.toArray.size:=by rw[dY];exact(bt.mp hu).1
  refine wpAny_pyNext_enum_itemD (HT.W5 (A:=X.A.in1) (I.ok.hd hc) c a Xa f.toArray) d ⟨j,pl⟩ hi g (by simp[g,bW W_]) λu' h' tk B CJ Q CK W2 oV=>?_;have vz:u'=u:=by
   have e:f.toArray[i]?=Z u:=by simpa using hu
   rw[e]at B;exact(ao B).symm
  subst vz;exact JU (J:=(yq X.K a).rV i H) (T:=λh=>rF h c a (i+1)) I g hf d (ax j λ_ m _=>b6 m) CJ CK oV ru (λCL=>⟨_,x,CL,W,W,λys hy=>by rw[I.Bq hy y];exact U⟩) λ_ e=>by obtain⟨⟨o,m,r⟩,_⟩:=Q;exact⟨o,e c o (bW g) m,r⟩
 done:=by intro X B hw Y hc i M s σ H E I hf st hg;subst B hw Y;refine iy (hf c (by exact .tail _ (.head _))) λg0 g1 g2 g3 g4 g5=>?_;obtain⟨xs,y,U⟩:=hg;refine aJ (I.tuple y) λf rv pl hz=>?_;obtain⟨⟨old,d⟩,j⟩:=st;exact wpAny_pyNext_enum_endD (HT.W6 (A:=X.A.in1) (I.ok.hd hc) c a f.toArray (i:=i) (by rw[Zw6];simp;rw[<-rv.length];exact U)) d ⟨W,j,pl⟩ λh' eb=>⟨W,I.turned (t':=s.toks) (λb o hb e=>eb b o hb e) g0 g1 g3 g4 g5⟩
 self:=λ_ _ _ _ _ st h=>by obtain⟨⟨old,d⟩,_⟩:=st;exact GH d h
def Xb{c:Zaa}{i:St}{H:Hp}{s:ψ}{R:It->Hp->Prop}{E:Zab}{d:List Expr}{x1}{a:Λ}{vs:List V}(I:Inv X c i H s)(h:cX X.K H a vs)(q:R (yq X.K a) H):wpAny 'd' X.A (call (.type "enumerate") [.ref a]) (λv m=>wpAny 'd' X.A (w9 v) (xR X c i (.Tuple d x1 f) R) E m) E s:=by
 refine aJ (I.tuple h) λr y pl hz=>HT.W8 pl λh' j t z u=>GH j ?_;have x:Inv X c i H {s with heap:=h'}:=I.kept (t':=s.toks) u;refine⟨s.heap.objs.size+1,[s.heap.objs.size+1,s.heap.objs.size],_,_,H,W,x,W9 a _ _ (Zw7 _),⟨⟨_,j⟩,t⟩,λb hb=>?_,q⟩;have g:s.heap.objs.size<=b:=by
  rcases a6.mp hb with rfl|hb;·exact jC _
  ·have e:b=s.heap.objs.size:=by simpa using hb
   rw[e];exact a9 _
 exact I.qh g (I.aV.fresh g)
end
section
def xV(K:au)(h:Zac)(x:Str)(d:D):Prop:=∃v u,h x=Z u/\RelV v u/\∀H,Rep K H v d
end
def cJ(np ns:Nat)(g:Zai)(ds:List D):Option D:=if ds.length=np then(g (lK ns ds)).bind λo=>match o with|.ret d=>Z d|.aF _=>Z .aD|_=>am else am
def Xc{P:a8}{w:World}{K:au}{u:Zac}{base:Heap}{x i:Str}{st:Stmt}{f:Λ}{v:dt}{N ps:List Str}{k np ns:Nat}{g:Zai}(Fn:kG K x i st f v)(S:nq N ps (cQ st))(B:ps.length=np)(hn:N.length=ns) (m:∀(j:ω)(A:Around)(c:List Env)(s:ψ)(H:Hp)(E:XK),bA k (A.deeper (iH i (cQ st) s.heap.objs.size f j))->yb (i_ cL P w K u base N i (cQ st) f j A c s H E).j6 (gP st) g):cP P w K u base cL (k+1) f v ps (kJ K (cJ np ns g)):=by
 subst B hn;have hlen:∀{ds:List D}{d:D},cJ ps.length N.length g ds=Z d->ds.length=ps.length/\∃o,g (lK N.length ds)=Z o/\(match o with|.ret d=>Z d|.aF _=>Z .aD|_=>am)=Z d:=λ{ds d} h=>by unfold cJ at h;exact bR h λC h=>bS h λo t p=>⟨C,o,t,p⟩
 refine Fn.ok S (λvs H Q E z=>ay z λds d r e _=>by rw[r.length];exact(hlen e).1) (λj A c s H vs Q E hr h=>?_);refine ay h λds d r e q=>aM (hlen e) λ_ y=>ax y λo t p=>⟨_,m j A c s H E hr,lK N.length ds,o,Vz r,t,?_⟩;cases o with|ret d'=>exists p;exact q|aF J=>exists p;exactλI H' s _=>q .aD H' s .aD|_=>injection p
noncomputable def cx:Expr->Bool|.Starred _ _=>bi|_=>be
noncomputable def CN:Expr->Bool|.UnaryOp _ _ _=>bi|.BoolOp _ _ _=>bi|.IfExp _ _ _ _=>bi|.Compare _ _ _ _=>bi|_=>be
noncomputable def oZ:Expr->Bool|.Slice _ _ _ _=>bi|_=>be
noncomputable def jN:Expr->Bool|.Set _ _ _=>bi|_=>be
theorem bF(h:cx e=be):bq (e::es) c=(bi,eval e c)::bq es c:=by cases e<;>first|rfl|injection h
theorem eP:∀{es:List Expr},es.all cx=be->(dW pos (bq es c)).any (·.1)=bi|[],_=>rfl|e::es,h=>by rw[cW,cV]at h;rw[bF h.1];show(bi||(dW pos (bq es c)).any (·.1))=bi;rw[QN];exact eP h.2
theorem ji:∀{es:List Expr},es.all cx=be->(dW pos (bq es c)).all (λx=>!x.1)=be|[],_=>rfl|e::es,h=>by rw[cW,cV]at h;rw[bF h.1];show(be&&(dW pos (bq es c)).all (λx=>!x.1))=be;rw[rG];exact ji h.2
def JZ{e:Expr}(h:CN e=be)(c:Sem ω):isTrue e d c=(do let v<-c;standAt e.pos;holding [v] (truthy v)):=by cases e<;>first|rfl|injection h
def qs(h:oZ e=be)(o i:ω):A1 e bi o i=operate [o,i] (mi o i):=by cases e<;>first|rfl|injection h
def qt(h:jN e=be)(x:ω):uo e c x=pure x:=by cases e<;>first|rfl|injection h
def yr(h:jN e=be):behindInMarks c e=bi:=by cases e<;>first|rfl|injection h
structure JE(X:Cx)(e:Expr)(f:Zaf):Prop where h:DE X e f
structure JT(X:Cx)(e:Expr)(f:Zae):Prop where h:DT X e f
structure JW(X:Cx)(e:Expr)(f:Zae):Prop where h:DW X e f
structure JA(X:Cx)(es:List Expr)(f:List Zaf)(g:Zag):Prop where
 h:oR X es g
 n:ya f.length g
 st:es.all cx=be
structure JO(X:Cx)(e:Option Expr)(f:ai->Option (Option Int)):Prop where h:DO X e f
structure JI(X:Cx)(tg e:Expr)(f:Zag):Prop where
 h:DI X tg e f
 s:jN e=be
structure JG(X:Cx)(e:Expr)(g:Zah):Prop where h:DG X e g
structure sO(X:Cx)(es:List Expr)(g:List D->ai->Option ai):Prop where h:WX X es g
structure JF(X:Cx)(es:List Expr)(f:Zae):Prop where h:sA X es f
structure JS(X:Cx)(st:Stmt)(g:Zai):Prop where h:DS X st g
structure JB(X:Cx)(st:List Stmt)(g:Zai):Prop where h:yb X st g
def ag:List Zaf->Zag|[]=>nF|f::fs=>x9 f (ag fs)
theorem CO:ag (f::fs) c=(f c).bind λd=>(ag fs c).bind λds=>Z (d::ds):=rfl
def dm(g:Zag):Zag:=λc=>CI (g c)
structure d3(X:Cx)(op:ω->ω->Sem ω)(g:D->D->Option D):Prop where h:oS X op g
section
variable {X:Cx}{e a b c:Expr}{es:List Expr}{pos p p2:Pos}{f fa fb fc:Zaf}{fs:List Zaf}{x:Str}{g g':D->D->Option D}{ta tb:Zae}{rest:List Expr}
def Zip(i:Nat)(m:X.N[i]?=Z x)(t:c6 X.env.scope x)(u:'f'=bi) (j:'i'=bi):JE X (.Name x pos) (aa i):=⟨cR (er m t u j) λA H Q z=>ay z λB d r h q=>ax (r.get i d (vo h)) λv w y=>⟨v,w,q v H 'v' y⟩⟩
def sP:JE X (.Constant (.int i) j pos) (cC (.int i)):=⟨cR Bp λm H Q z=>ay z λt d r h q=>by exists h;exact q _ H 'v' (.int i)⟩
def yt{b j}:JE X (.Constant (.bool b) j pos) (cC (.bl b)):=⟨cR R8 λi H Q z=>ay z λm d r h q=>by exists h;exact q _ H 'v' (.bl b)⟩
def CP:JE X (.Constant .none j pos) (cC .aD):=⟨cR R9 λi H Q z=>ay z λm d r h q=>by exists h;exact q _ H 'v' .aD⟩
def vK{x}(d:x.length<=aA):JE X (.Constant (.str x) j pos) (cC (.str x)):=⟨IP d⟩
def J0(h:xV X.K X.mg x d)(i:Gl X x)(j:'f'=bi):JE X (.Name x pos) (cC d):=⟨by exact ay h λv u m q r=>Vu i m q r j⟩
theorem Xd(m:JE X a fa):JE X (.UnaryOp .USub a pos) (qq fa):=⟨cR (Tp Tv m.h) λA H Q z=>ay z λr d R e q=>by refine bS e λj t e=>⟨r,j,R,t,λv u w y=>?_⟩;cases j with|int i=>exists e;induction y using lJ;exact⟨i,W,q _ u w (.int _)⟩|_=>injection e⟩
theorem Xe(i:JE X a fa):JE X (.UnaryOp .Not a pos) (B0 fa):=⟨cR (SF i.h) λw H Q z=>ay z λj d R e q=>by
  refine bS e λc m e=>?_
  exists e;refine⟨j,.bl c,R,sj m,λv r t u=>?_⟩;induction u using mH;exact⟨c,W,q _ r t (.bl _)⟩⟩
def yu(d:d3 X (hV i) g)(j:JE X a fa)(m:JE X b fb):JE X (.BinOp a i b pos) (ab g fa fb):=⟨cR (Hy d.h j.h m.h) (BZ W W)⟩
def CQ(d:d3 X (c5 i) g)(j:JE X a fa)(m:JE X b fb)(q:jN b=be):JE X (.Compare a [i] [b] pos) (ab g fa fb):=⟨cR (TH d.h j.h m.h (yr q)) (BZ W W)⟩
theorem yv(d:d3 X (c5 i) g)(j:JE X a fa)(m:JE X b fb)(r:jN b=be):JT X (.Compare a [i] [b] pos) (cB (ab g fa fb)):=⟨vm (HG d.h j.h m.h (yr r)) λt H Q z=>ay z λu k R e q=>by refine BZ W W t H _ ⟨u,.bl k,R,sj e,λv H' w y=>?_⟩;induction y using mH;exact⟨k,W,q H' w⟩⟩
theorem Xf(I:d3 X (c5 J) g)(r:d3 X (c5 A) g')(L:JE X a fa)(M:JE X b fb)(N:JE X c fc)(O:jN c=be):JE X (.Compare a [J,A] [b,c] pos) (mI g g' fa fb fc):=⟨cR (TJ I.h r.h L.h M.h N.h (yr O)) λσ H Q p=>ay p λB d R e q=>by
  refine bS e λx T e=>bS e λy U e=>bS e λz Y e=>⟨B,x,R,T,λv H1 i r1=>⟨B,y,R.mono i,U,λu H2 j C=>⟨x,y,z,r1.mono j,C,Y,λw H3 m r3=>?_⟩⟩⟩;cases z with
  |bl k=>induction r3 using mH;refine⟨k,W,?_⟩;cases k with
   |true=>rw[if_pos W];exact bS e λw h4 e=>⟨B,w,R.mono (i.trans (j.trans m)),h4,λt H4 E r4=>⟨y,w,d,C.mono (m.trans E),r4,e,λv' H' s5 r5=>q v' H' (i.trans (j.trans (m.trans (E.trans s5)))) r5⟩⟩|false=>rw[if_neg dg];exists e;exact q _ H3 (i.trans (j.trans m)) (.bl bi)
  |_=>injection e⟩
theorem Xg(I:d3 X (c5 J) g)(r:d3 X (c5 A) g')(L:JE X a fa)(M:JE X b fb)(N:JE X c fc)(O:jN c=be):JT X (.Compare a [J,A] [b,c] pos) (cB (mI g g' fa fb fc)):=⟨vm (TK I.h r.h L.h M.h N.h (yr O)) λσ H Q p=>ay p λB k R e q=>by
  have e:=sj e;refine bS e λx T e=>bS e λy U e=>bS e λz Y e=>⟨B,x,R,T,λv H1 d r1=>⟨B,y,R.mono d,U,λu H2 i C=>⟨x,y,z,r1.mono i,C,Y,λw H3 m r3=>?_⟩⟩⟩;cases z with
  |bl j=>induction r3 using mH;refine⟨j,W,?_⟩;cases j with
   |true=>rw[if_pos W];exact bS e λw h4 e=>⟨B,w,R.mono (d.trans (i.trans m)),h4,λt H4 E r4=>⟨y,w,_,C.mono (m.trans E),r4,e,λv' H' s5 r5=>by induction r5 using mH;exact⟨k,W,q H' (d.trans (i.trans (m.trans (E.trans s5))))⟩⟩⟩|false=>rw[if_neg dg];cases e;exact⟨bi,W,q H3 (d.trans (i.trans m))⟩
  |_=>cases e⟩
def J2(d:JE X a fa):JE X (.BoolOp i [a] pos) fa:=⟨Sz d.h⟩
theorem Xh(m:JE X a fa)(r:JE X (.BoolOp .And (b::rest) pos) fb):JE X (.BoolOp .And (a::b::rest) pos) (gu fa fb):=⟨cR (SA m.h r.h) λB H Q z=>ay z λj d R e q=>by refine bS e λc t e=>⟨j,.bl c,R,sj t,λv u i w=>?_⟩;induction w using mH;refine⟨c,W,?_⟩;cases c with|true=>rw[if_pos W]at e⊢;exact⟨j,d,R.mono i,e,λv H' y A=>q v H' (i.trans y) A⟩|false=>rw[if_neg dg]at e⊢;exists e;exact q _ u i (.bl bi)⟩
theorem J4(m:JE X a fa)(r:JE X (.BoolOp .Or (b::rest) pos) fb):JE X (.BoolOp .Or (a::b::rest) pos) (qo fa fb):=⟨cR (SE m.h r.h) λB H Q z=>ay z λj d R e q=>by refine bS e λc t e=>⟨j,.bl c,R,sj t,λv u i w=>?_⟩;induction w using mH;refine⟨c,W,?_⟩;cases c with|true=>rw[if_pos W]at e⊢;exists e;exact q _ u i (.bl be)|false=>rw[if_neg dg]at e⊢;exact⟨j,d,R.mono i,e,λv H' y A=>q v H' (i.trans y) A⟩⟩
def Xi(d:JT X a ta):JW X (.BoolOp .And [a] pos) ta:=⟨Sn d.h⟩
def Xj(d:JT X a ta):JW X (.BoolOp .Or [a] pos) ta:=⟨Hi d.h⟩
theorem Xk(j:JT X a ta)(m:JW X (.BoolOp .And (b::rest) pos) tb):JW X (.BoolOp .And (a::b::rest) pos) (iI ta tb):=⟨IK (Sq j.h m.h) λv H Q z=>ay z λi k R e q=>by refine bS e λc r e=>⟨i,c,R,r,λt d=>?_⟩;cases c with|true=>exact⟨i,k,R.mono d,e,λH' u=>q H' (d.trans u)⟩|false=>exists e;exact q t d⟩
theorem w_or(j:JT X a ta)(m:JW X (.BoolOp .Or (b::rest) pos) tb):JW X (.BoolOp .Or (a::b::rest) pos) (oT ta tb):=⟨IK (Hj j.h m.h) λv H Q z=>ay z λi k R e q=>by refine bS e λc r e=>⟨i,c,R,r,λt d=>?_⟩;cases c with|true=>exists e;exact q t d|false=>exact⟨i,k,R.mono d,e,λH' u=>q H' (d.trans u)⟩⟩
def Xl(h:JW X (.BoolOp d l pos) ta):JT X (.BoolOp d l pos) ta:=⟨h.h.pt⟩
theorem yw(d:JT X a ta):JT X (.UnaryOp .Not a pos) (g_ ta):=⟨vm (Sr d.h) λm H Q z=>ay z λi k R e q=>by
  refine bS e λc j e=>?_
  exists e;exact⟨i,c,R,j,q⟩⟩
def vL(h:JE X e f)(d:CN e=be):JT X e (cB f):=⟨vm (Sj h.h (JZ d)) λr H Q z=>ay z λi k R e q=>⟨i,.bl k,R,sj e,λv H' j m=>by induction m using mH;exact⟨k,W,q H' j⟩⟩⟩
def sQ:JA X [] [] (ag []):=⟨x_,Vv,W⟩
def sR(d:JE X e f)(hr:JA X es fs (ag fs))(hn:cx e=be):JA X (e::es) (f::fs) (ag (f::fs)):=⟨vq d.h hr.h (bF hn),Vw hr.n,by rw[cW,hn,hr.st];rfl⟩
def yx{n:Nat}(h:wZ n 1000=be):n<=aA:=c3 (k_ h) 'b'
theorem vM(h:JA X es fs (ag fs))(hn:wZ fs.length 1000=be):JE X (.Tuple es x1 pos) (aH (ag fs)):=⟨cR (HQ h.h) λv H Q z=>ay z λi d r e q=>by
  refine bS e λds j e=>?_
  exists e;refine⟨i,ds,r,j,λvs w u m=>⟨by rw[m.length];exact c3 (h.n i ds j) (yx hn),λp t=>?_⟩⟩;exact q _ _ (u.trans (dj t _)) (.tup (.of br) (m.mono (dj t _)))⟩
theorem J5(h:JA X es fs (ag fs))(hn:wZ fs.length 1000=be):JE X (.List es pos) (jc (ag fs)):=⟨cR (u7 h.h) λv H Q z=>ay z λi d r e q=>by
  refine bS e λds j e=>?_
  exists e;refine⟨i,ds,r,j,λvs w u m=>⟨by rw[m.length];exact c3 (h.n i ds j) (yx hn),λp t=>?_⟩⟩;exact q _ _ (u.trans (dj t _)) (.lst (.inl br) (m.mono (dj t _)))⟩
theorem sS(M:JE X a fa)(N:JE X b fb)(hs:oZ b=be):JE X (.Subscript a b pos) (ab ar fa fb):=⟨cR (xX UI M.h N.h (qs hs)) λσ H Q y=>ay y λI d R e q=>by
  refine bS e λO T e=>bS e λU Y e=>⟨I,O,R,T,λv H1 J r1=>⟨I,U,R.mono J,Y,λu H2 L A=>?_⟩⟩;have C:=r1.mono L;have B:∀v,Rep X.K H2 v d->Q v H2:=λv hv=>q v H2 (J.trans L) hv;induction C using gp with
  |@tup p xs ds h r=>induction A using gp with|int i=>obtain⟨w,hw,m⟩:=B6 r (show b4 ds i=Z d from e);exact .inr (.inl ⟨p,xs,i,w,W,W,h,hw,B w m⟩)|_=>injection e
  |@lst p xs ds h r=>induction A using gp with
   |int i=>obtain⟨w,hw,m⟩:=B6 r (show b4 ds i=Z d from e);exact .inl ⟨p,xs,i,w,W,W,.inl h,hw,B w m⟩|_=>injection e
  |@bI p ns h=>induction A using gp with
   |int i=>
    have t:(b4 ns i).map D.int=Z d:=e;rw[bQ]at t;obtain⟨n,E,rfl⟩:=t;have h4:b4 (ns.map D.int) i=Z (.int n):=by
     unfold b4 at E⊢;rw[aG];cases z:g9 ns.length i with
     |none=>simp_all
     |some j=>simp_all
    obtain⟨w,hw,m⟩:=B6 (vj (K:=X.K) (H:=H2) ns) h4;exact .inl ⟨p,_,i,w,W,W,h,hw,B w m⟩
   |_=>injection e
  |str x hx=>
   induction A using gp with
   |int i=>have t:(b4 x.cps.toList i).map (λc=>D.str ⟨#[c]⟩)=Z d:=e;rw[bQ]at t;obtain⟨c,E,rfl⟩:=t;exact .inr (.inr ⟨x,i,c,W,W,hx,E,B _ (.str _ (show 1<=aA by decide))⟩)
   |_=>injection e
  |_=>injection e⟩
theorem J6:JO X am iN:=⟨JP Uw λd H Q z=>ay z λh o R e q=>by(obtain rfl:=ao e);exact q H 'v'⟩
def CS(h:JE X e f):JO X (Z e) (eC f):=⟨JP (Ux h.h) λw H Q z=>ay z λj o R e q=>by refine bS e λd m e=>⟨j,d,R,m,λv r t u=>?_⟩;cases d with|int i=>exists e;induction u using lJ;exact⟨i,W,q r t⟩|_=>injection e⟩
theorem CT{lo i:Option Expr}{fl j:ai->Option (Option Int)}(m:JE X a fa)(r:JO X lo fl)(t:JO X i j):JE X (.Subscript a (.Slice lo i am p2) pos) (kO fa fl j):=⟨cR (JQ m.h r.h t.h) λB H Q z=>ay z λu d R e q=>by refine bS e λv w e=>bS e λl y e=>bS e λh A e=>⟨u,d,R,?_,q⟩;simp only[jg,w,y,A,bb];cases v<;>first|exact e|(simp only[qr,oY]at e⊢;split at e<;>simp_all)⟩
def Xm{k:Nat}(C:Callee X.prog X.w X.K X.mg X.base k x F)(hr:bA k X.A)(j:JA X (e::es) fs (ag fs))(m:Gl X x)(i:'f'=bi):JE X 'p' (aw F (ag fs)):=by have d:=j.st;rw[cW,cV]at d;exact⟨Vy C hr m j.h i (bF d.1) (eP d.2)⟩
structure JC(X:Cx)(f:ω)(g:Zad):Prop where h:su X f g
def qu{id:String}{g:Zad}(m:JC X (.builtin id) g)(q:X.mg x=am)(r:gy x=Z (.builtin id))(j:JA X (e::es) fs (ag fs))(t:Gl X x)(hn:x≠"__name__") (i:'f'=bi):JE X 'p' (aw g (ag fs)):=by have d:=j.st;rw[cW,cV]at d;exact⟨VJ m.h t q r j.h hn i (bF d.1) (eP d.2)⟩
def yy{T:String}{g:Zad}(m:JC X (.type T) g)(q:X.mg x=am)(r:gy x=Z (.type T))(j:JA X (e::es) fs (ag fs))(t:Gl X x)(hn:x≠"__name__") (i:'f'=bi):JE X 'p' (aw g (ag fs)):=by have d:=j.st;rw[cW,cV]at d;exact⟨VL m.h t q r j.h hn i (bF d.1) (eP d.2)⟩
def yz(T:Ty)(q:X.mg "isinstance"=am)(d:X.mg x=am)(r:gy x=Z (.type T.nm))(t:JE X a fa)(u:Gl X "isinstance")(i:Gl X x)(j:cx a=be)(hn:x≠"__name__")(m:'f'=bi):JE X (.Call (.Name "isinstance" p) [a,.Name x p2] [] pos) (nM T fa):=⟨WH T u q i d r t.h hn m (bF j) (eP W) (bF W)⟩
def Xn{apos cpos:Pos}{z:Str}(i:JE X b fb)(hz:z.length<=aA)(hn:cx b=be)(d:'s'=be):JE X (.Call (.Attribute (.Constant (.str z) j m) "join" apos) [b] [] cpos) (yn (cC (.str z)) fb):=⟨WL (IP hz) i.h W (by rw[ji (show [b].all cx=be by rw[cW,hn];rfl)];rfl) d (bF hn)⟩
theorem vN(i:Nat)(j:X.N.Nodup)(m:X.N[i]?=Z x)(t:Loc X.env.scope x)(v:X.fn x=be\/X.env.scope.names.lookup x=Z .local):JG X (.Name x pos) (gN i):=⟨λh s w H x u Q I r z=>aS z λB d ρ' R A y=>aM y λe q=>Hn j m t v h s w H x u Q I r (by exists e;exact q _ H 'v' (R.set i A))⟩
def CU:sO X [] lP:=⟨by intro d s h H xs us Q I r ⟨m,ds,ρ',R,j,i,q⟩;refine Ho d s h H xs us Q I r ?_;induction j using az.casesOn with|nil=>exists i;exact⟨W,q h H 'v' R⟩|cons _ _=>injection i⟩
def CV{g:Zah}{gs:List D->ai->Option ai}(v:JG X e g)(w:sO X es gs)(hs:(i0 (e::es) X.env).map (·.2)=lr e X.env::(i0 es X.env).map (·.2)):sO X (e::es) (dF g gs):=⟨by intro d s y H xs us Q I r ⟨z,ds,ρ',R,A,j,q⟩;refine Hq v.h w.h hs d s y H xs us Q I r ?_;induction A using az.casesOn with|nil=>injection j|cons B t=>exact bS j λi C j=>⟨_,_,W,z,_,i,R,B,C,λE M u J=>⟨i,_,ρ',J,t.mono u,j,λm H2 L R2=>q m H2 (u.trans L) R2⟩⟩⟩
theorem CY{k n:Nat}(h:sO X es gs)(z:X.calm=be)(hn:(i0 es X.env).length=n)(m:(i0 es X.env).findIdx? (·.1)=am):JG X (.Tuple es k pos) (lQ n gs):=⟨by intro j s A H v u Q I r ⟨t,d,ρ',R,B,w,q⟩;refine Hr z h.h hn m j s A H v u Q I r ?_;induction B using gp with|@tup a xs ds h' y=>have i:(if ds.length=n then gs ds t else am)=Z ρ':=w;exact bR i λC i=>⟨a,xs,W,h',by rw[y.length];exact C,t,ds,ρ',R,y,i,q⟩|_=>injection w⟩
theorem CZ:JF X [] (λ_=>Z be):=⟨λd s h H i b I R e=>by exists e;exact wpAny_tests_nil ⟨W,H,av.refl H,I⟩⟩
theorem C0(h:JT X c ta):JF X [c] ta:=⟨λd s i H j b I R e=> wpAny_tests_one (aL (h.h d s i H (λk H'=>k=b/\av H H') I ⟨j,b,R,e,λH' s=>⟨W,s⟩⟩) λok s' z=>ax z λH' m q=>⟨q.1,H',q.2,m⟩)⟩
def Xo{E iter v:Expr}{w:List Expr}{d:Scope}{u:List (Str×Λ)}{N':List Str}{cap:List (Option Nat)}{J:Zag}{L:Zah}{fc:Zae}{fe:Zaf} (M:JI X E iter J) (H:∀C i j z,JG (cw X d u N' C i j z) E L/\JF (cw X d u N' C i j z) w fc/\JE (cw X d u N' C i j z) v fe) (q:oF d X.env=pure u) (r:∀y∈d.names,y.2≠ .cell) (t:d.kind=.function) (m:∀y∈d.names,y.2=.local->d.names.lookup y.1=Z .local) (I:jd X.env.cells u) (A:jf u (ky d X.env).names) (B:gv X d N' cap) (N:X.calm=be):JE X (.ListComp v [⟨E,iter,w,0⟩] d pos) (d2 cap J L fc fe):=⟨Wy N M.h q r t m I A B (λC i j z=>aQ (H C i j z) λO Q T=>⟨O.h,Q.h,T.h⟩) (qt M.s)⟩
end
section
variable {X:Cx}{e c tg:Expr}{st:Stmt}{rest:List Stmt}{pos:Pos}{f:Zaf}{g u:Zai}{t:Zae}
theorem Xp:JB X [] b5:=⟨jJ xQ λh d H z=>ay z λi o R e q=>by exists e;exact q d H 'v' R⟩
def Xq(h:JS X st g):JB X [st] g:=⟨qf h.h⟩
def Xr(d:JS X st g)(i:JB X rest u):JB X (st::rest) (a7 g u):=⟨Vx d.h i.h⟩
def J7(h:JE X e f):JS X (.Return (Z e) pos) (a_ f):=⟨cM (rS h.h) λm p H z=>ay z λi o R e q=>by
  refine bS e λd j e=>?_
  exists e;exact⟨i,d,R,j,q⟩⟩
theorem J8(j:JT X c t)(m:JB X a g)(p:JB X b u):JS X (.If c a b pos) (bD t g u):=⟨cM (uY j.h m.h p.h) λv w H z=>ay z λi o R e q=>by refine bS e λk r e=>⟨i,k,R,r,λx d=>?_⟩;cases k with|true=>rw[if_pos W]at e;exact⟨i,o,R.mono d,e,q.mono d⟩|false=>rw[if_neg dg]at e;exact⟨i,o,R.mono d,e,q.mono d⟩⟩
def Xs(i:Nat)(m:X.N.Nodup)(h:JE X e f)(p:X.N[i]?=Z x)(r:Loc X.env.scope x)(hs:d4 e (Z (.Name x pos')) pos.line X.env=pure bi)(w:X.fn x=be\/X.env.scope.names.lookup x=Z .local):JS X (.Assign [.Name x pos'] e pos) (et i f):=⟨cM (lF m p r h.h hs w) λE I H z=>ay z λy o R e q=>by
  refine bS e λd A e=>?_
  exists e;exact⟨y,d,R,A,λv B j C=>q _ B j ((R.mono j).set i C)⟩⟩
def Xt(hi:JI X tg iter fi)(hg:JG X tg O)(hb:JB X body gb)(hp:PassesOwn 'd' X.A X.env X.xe)(hc:X.calm=be):JS X (.For tg iter body [] pos) (vJ fi O gb):=⟨cM (Hw hp hc hi.h hg.h hb.h (qt hi.s)) λDn σ H z=>ay z λρ o R Q q=>by
  refine bS Q λds h1 Q=>⟨ρ,ds,R,h1,λJ H1 s1 wk=>?_⟩;refine⟨λi m y H'=>i<=ds.length/\m=ds.length-i/\∃ρ',cD X.K H' y ρ'/\av H1 H'/\lO O gb (ds.drop i) ρ'=Z o,⟨ds.length,dZ _,W,ρ,R.mono s1,av.refl _,Q⟩,?_⟩;rintro i m y H' ⟨T,rfl,ρ',R',s',j⟩;have U:vt X.K Dn H' o:=q.mono (s1.trans s');by_cases r:i<ds.length;·right;rw[Gy r]at j;refine bS j λI h2 j=>bS j λo1 h3 j=>?_;obtain⟨Y,hy⟩:=(wk H' s').1 i ds[i] (cF r);refine⟨Y,λL H2=>∃p,cD X.K H2 L p/\av H' H2/\lO O gb (ds.drop (i+1)) p=Z o,λL H2 z=>aJ z λp R2 S2 e2=>⟨_,by omega,r,W,p,R2,s'.trans S2,e2⟩,λx H2 hx=>?_⟩;obtain⟨s2,rx⟩:=hy x H2 hx;refine⟨ρ',ds[i],I,R'.mono s2,rx,h2,λXu H3 s3 R3=>⟨I,o1,R3,h3,?_⟩⟩;have N:=s2.trans s3;cases o1 with|aF p=>exactλB M C E=>⟨p,E,N.trans C,j⟩|cnt p=>exactλB M C E=>⟨p,E,N.trans C,j⟩|brk p=>exists j;exactλB M C E=>U B M (N.trans C) E|ret d=>exists j;exactλv M C E=>U v M (N.trans C) E
  ·left;have vG:i=ds.length:=Gz T (QU.mp r);subst vG;rw[QV]at j
   exists j;exact⟨(wk H' s').2,U y H' (av.refl _) R'⟩⟩
end
section
variable {X:Cx}
def C1:d3 X (hV .Add) aP:=⟨IU⟩
def J9:d3 X (hV .Sub) iz:=⟨yd Tr λ_ _ _=>.int _⟩
def J_:d3 X (hV .Mult) iJ:=⟨B1 Ts λ_ _ _=>.int _⟩
def Ka:d3 X (hV .Mod) iK:=⟨B1 Tt λ_ _ _=>.int _⟩
def Kb:d3 X (c5 .Lt) j9:=⟨yd Tw λ_ _ _=>.bl _⟩
def Xv:d3 X (c5 .LtE) jK:=⟨yd Tx λ_ _ _=>.bl _⟩
def Kc:d3 X (c5 .Gt) iL:=⟨yd Tz λ_ _ _=>.bl _⟩
def C2{k:Nat}(hr:bA k X.A):d3 X (c5 .Eq) (bg 64):=⟨VF hr.units⟩
def C3{k:Nat}(hr:bA k X.A):d3 X (c5 .NotEq) (eU 64):=⟨Jc hr.units⟩
def C4:d3 X (c5 .Is) lN:=⟨by intro f s i H x y v u Q I c h ⟨j,r,d,g,m,e,q⟩;induction m using gp with
 |aD=>exists e;exact TC f s i H x .aD v u Q I c h ⟨W,by rw[B5 g];exact q _ H 'v' (.bl _)⟩|bl b=>
  exists e;cases h;refine wpAny_is_plain ?_ ?_;·induction g using gp<;>first|(cases c;rfl)|(obtain⟨t,rfl⟩:=c;rfl)
  ·have p:(v==lh b)=lM j (.bl b):=by induction g using gp<;>first|(cases c;rfl)|(obtain⟨t,rfl⟩:=c;rfl)|(cases c;rename_i k;cases k<;>cases b<;>rfl)
   rw[p];exact⟨.bl _,H,I,W,q _ H 'v' (.bl _)⟩|_=>injection e⟩
def Xw:d3 X (c5 .IsNot) vv:=⟨by intro f s i H x y v u Q I c h ⟨j,r,d,g,m,e,q⟩;induction m using gp with
 |aD=>exists e;exact TF f s i H x .aD v u Q I c h ⟨W,by rw[B5 g];exact q _ H 'v' (.bl _)⟩|bl b=>
  exists e;cases h;refine wpAny_isNot_plain ?_ ?_;·induction g using gp<;>first|(cases c;rfl)|(obtain⟨t,rfl⟩:=c;rfl)
  ·have p:(v==lh b)=lM j (.bl b):=by induction g using gp<;>first|(cases c;rfl)|(obtain⟨t,rfl⟩:=c;rfl)|(cases c;rename_i k;cases k<;>cases b<;>rfl)
   rw[p];exact⟨.bl _,H,I,W,q _ H 'v' (.bl _)⟩|_=>injection e⟩
def Xx{k:Nat}(hr:bA k X.A):d3 X (c5 .In) vA:=⟨DL.BV (x3 hr)⟩
def C5:JC X (.builtin "len") cS:=⟨DL.IC⟩
def Xy(w:X.calm=be):JC X (.builtin "all") nO:=⟨sv λ{g}{s}{T}{H}{x}{u}{Q}{U}{d} I B r e q=>by have C:X.A.in1.handled=am:=I.ok.hd w;induction r using gp with
 |@lst a vs ds h j=>
  cases B;have m:(nN ds).map (λbs=>D.bl (bs.all id))=Z d:=e;rw[bQ]at m;obtain⟨bs,E,rfl⟩:=m;rw[Cu E]at j;obtain⟨J,L,p⟩:=Inv.oU I h;have M:=Cv j L;subst M;obtain⟨Y,f,_⟩:=id p;refine call_all_walk (Qn p ?_);refine⟨s.heap.objs.size,_,_,_,_,_,λi=>bs.getD i bi,W,Zxc C s.heap.objs.size a (df (b6 f)) (bs.map lh).toArray,⟨⟨_,eo _ W,W,W⟩,p.at λo e=>cO _ e⟩,?_,?_⟩
  ·intro i v s' Q' E' N y;have c:(bs.map lh)[i]?=Z v:=by simpa using N
   rw[bJ]at c;cases z:bs[i]? with
   |none=>rw[z]at c;injection c|some b=>
    rw[z]at c
    exists c;refine wpAny_truthy_bool ?_;have:bs.getD i bi=b:=by rw[pY,z];rfl
    rw[<-this];exact y
  ·intro h' tk O;refine⟨.bl _,H,I.kept (t':=tk) λb o t=>O b o (by simpa using df (b6 t)) (cO _ t),W,?_⟩;have hz:(bs.map lh).toArray.size=bs.length:=by exact aG ..
   rw[hz,WI];exact q _ H 'v' (.bl _)
 |_=>injection e⟩
def Xz:JC X (.builtin "sorted") CD:=⟨sv λ{j}{s}{J}{H}{x}{u}{Q}{L}{d} I v r e q=>by induction r using gp with|@lst a vs ds h g=>cases v;have f:(if ds.length<64 then(strsOf ds).map (λbs=>D.lst ((gR bs).map .str))else am)=Z d:=e;refine bR f λc f=>?_;rw[bQ]at f;obtain⟨bs,m,rfl⟩:=f;have w:=g.length;rw[sI m]at g;obtain⟨y,t,p⟩:=Inv.oU I h;refine sorted_strs p (yk g t) (by rw[<-t.length,w];exact c) λout i z A B=>?_;have eq:i=gR bs:=CC (JH B) (ym bs) (A.trans (kN bs).symm);subst eq;obtain⟨C,E⟩:=Cz (K:=X.K) (H:=H) z (by grind[Cy,kN]);exact JJ I (by rw[aG,(kN bs).length_eq,<-show ds.length=bs.length by rw[sI m,aG]];exact gK (uI c 'b')) C E q|_=>injection e⟩
def Ke(g:X.calm=be):JC X (.type "tuple") kb:=⟨B7 λ{H}{x}{Q}{i}{d} r e q=>by induction r using gp with|tup h c=>exists e;exact⟨_,Ip,_,_,W,.inr ⟨h,q _ H 'v' (.tup h c)⟩⟩|lst h c=>exists e;exact⟨_,Ip,_,_,W,.inl ⟨.inl h,λl f=>q _ _ (dj f _) (.tup (.of br) (c.mono (dj f _)))⟩⟩|_=>injection e⟩
end
noncomputable def aq(H:Hp)(O:List Λ):Hp:=λb=>if b∈O then am else H b
noncomputable def lay(H:Hp)(O:List Λ)(H':Hp):Hp:=λb=>if b∈O then H b else H' b
theorem c8(h:b∈O):aq H O b=am:=if_pos h
theorem bj(h:b∉O):aq H O b=H b:=if_neg h
theorem gC(h:b∈O):lay H O H' b=H b:=if_pos h
theorem dO(h:b∉O):lay H O H' b=H' b:=if_neg h
theorem jj(H:Hp):aq H []=H:=by rfl
theorem eg(h:aq H O b=Z o):b∉O/\H b=Z o:=by grind[c8,bj]
def dG(H:Hp)(O:List Λ):av 'r' H:=λb o h=>(eg h).2
def C6(h:∀b∈O,H' b=am):aq (lay H O H') O=H':=by
 funext b;by_cases c:b∈O;·grind[c8]
 ·rw[bj c,dO c]
def lR(a:Λ)(u:HO):Prop:=(∃vs,u=.lst vs)\/(∃kvs,u=.dK kvs)\/∃K ks vs,u=cj K a ks vs
def iA(H:Hp)(O:List Λ):Prop:=∀a∈O,∃u,H a=Z u/\lR a u
section
variable {X:Cx}{π:Zaa}{σ:St}{H:Hp}{s:ψ}{O:List Λ}
def Inv.o4(I:Inv X π σ H s)(h:H a=Z u)(g:lR a u):∃o,s.heap.get? a=Z o/\(∀v,o.data≠ .cell v)/\∀(H':Hp)(h':Heap),h'.get? a=Z o->(∀b xs,H b=Z (.tup xs)->H' b=Z (.tup xs))->d6 X.prog X.w H' h' a u:=by
 rcases g with⟨vs,rfl⟩|⟨kvs,rfl⟩|⟨K,ks,vs,rfl⟩;·exact aM (I.aV a _ h) λz y=>cA y λd n r e=>⟨_,e,λv z=>(by injection z),λH' h' c _=>⟨z,d,n,r,c⟩⟩
 ·exact aQ (I.aV a _ h) λz i y=>ax y λvs j p=>aS p λo es ep m A t=>aM t λB C=>⟨o,m,(by simp_all),λH' h' c _=>⟨z,i,vs,j,o,es,ep,c,A,B,C⟩⟩
 ·exact aQ ((I.aV a _ h).1) λE J y=>bh y λxs L M N p=>aS p λo es ep e Q t=>aM t λf T=>⟨o,e,λv z=>(by rw[f]at z;injection z),λH' h' c U=>x6 ⟨E,J,xs,L,λx Y=>dv.mono (λb xs q=>qb.mpr (U b xs (qb.mp q))) 8 _ _ (M x Y),N,o,es,ep,c,Q,f,T⟩⟩
theorem XA(I:Inv X π σ H s)(c:b∈X.fs):H b=am:=by exact aM (I.ok.jZ.mem c) λ_ y=>ax y λo d _=>I.base.free b o d (I.ok.oK b c) λz=>I.ok.rR b z c
def Inv.hide(I:Inv X π σ H s)(m:iA H O):Inv X (π++jI O s.heap) σ 'r' s:=by
 have t:∀b∈O,∀u,H b=Z u->lR b u:=λb g u e=>by refine ax (m b g) λB h r=>?_;simp_all
 have f:∀b u,H b=Z u->¬lR b u->aq H O b=Z u:=(by grind[absurd,bj]);have none_of:∀b,H b=am->aq H O b=am:=(by grind[c8,bj]);refine⟨I.ok,I.os,I.bare,⟨I.base.keep,I.base.slot,λb o e n w=>none_of b (I.base.free b o e n w),I.base.there,λb xs e=>f b _ (I.base.nh b xs e) (by rintro(⟨_,z⟩|⟨_,z⟩|⟨_,_,_,z⟩)<;>injection z),λb o u e=>f b _ (I.base.jH b o u e) (by rintro(⟨_,z⟩|⟨_,z⟩|⟨_,_,_,z⟩)<;>injection z),λb ps e=>?_⟩,I.loc,I.cell,none_of _ I.free,λx c e=>none_of _ (I.i6 x c e),λp y=>?_,λb u e=>?_,I.len⟩;·obtain⟨more,q⟩:=I.base.mw b ps e;exact⟨more,f b _ q (by rintro(⟨_,z⟩|⟨_,z⟩|⟨_,_,_,z⟩)<;>injection z)⟩
 ·have i:p∈X.pn++π\/p∈jI O s.heap:=by
   rcases bU.mp y with h|h;·simp_all
   ·grind
  rcases i with h|h;·refine jG (I.pin p h) λe n t C d=>?_;simp_all
  ·obtain⟨g,e⟩:=Hv h;refine ax (m _ g) λu j r=>aJ (Inv.o4 I j r) λo q E _=>?_;rw[q]at e;have ep:o=p.2:=ao e;refine⟨by rw[q,ep],c8 g,λz=>?_,λz=>?_,λv z=>?_⟩
   ·rw[z,I.free]at j;injection j
   ·grind[XA]
   simp_all
 ·obtain⟨g,A⟩:=eg e;refine(I.aV b u A).mv (λ_ _ _ q=>q) (λc q=>f c _ q (by rintro(⟨_,z⟩|⟨_,z⟩|⟨_,_,_,z⟩)<;>injection z)) λc xs q=>f c _ q (by rintro(⟨_,z⟩|⟨_,z⟩|⟨_,_,_,z⟩)<;>injection z)
def Inv.yA(I:Inv X π σ H s)(y:iA H O)(J:Inv X (π++jI O s.heap) m H' s')(S:∀b xs,aq H O b=Z (.tup xs)->H' b=Z (.tup xs)):Inv X π m (lay H O H') s'/\∀b∈O,H' b=am:=by
 have C:∀b xs,H b=Z (.tup xs)->lay H O H' b=Z (.tup xs):=λb xs e=>by
  have f:b∉O:=λz=>by
   refine ax (y b z) λu h r=>?_;rw[e]at h
   exists h;rcases r with⟨_,z⟩|⟨_,z⟩|⟨_,_,_,z⟩<;>injection z
  rw[dO f];exact S _ _ (by rw[bj f];exact e)
 have i:∀b∈O,∃u,H b=Z u/\d6 X.prog X.w (lay H O H') s'.heap b u/\H' b=am:=λb f=>by exact ax (y b f) λu j r=>aJ (Inv.o4 I j r) λo q _ t=>aQ (J.pin (b,_) (dr _ (dr _ (rX f q)))) λE L _=>⟨u,j,t _ _ E C,L⟩
 have hn:∀b∈O,H' b=am:=λb f=>aJ (i b f) λ_ _ _ z=>z;have out:∀b u,H' b=Z u->b∉O:=λb u e f=>by rw[hn b f]at e;injection e
 have g:∀b u,H' b=Z u->lay H O H' b=Z u:=λb u e=>by rw[dO (out b u e)];exact e
 refine⟨⟨J.ok,J.os,J.bare,⟨J.base.keep,J.base.slot,λb o e n A=>?_,J.base.there,λb xs e=>g b _ (J.base.nh b xs e),λb o u e=>g b _ (J.base.jH b o u e),λb ps e=>?_⟩,J.loc,J.cell,?_,λx c e=>?_,λp B=>?_,λb u e=>?_,J.len⟩,hn⟩
 ·by_cases f:b∈O;·rw[gC f];exact I.base.free b o e n A
  ·rw[dO f];exact J.base.free b o e n A
 ·obtain⟨more,q⟩:=J.base.mw b ps e;exact⟨more,g b _ q⟩
 ·by_cases f:X.env.locals∈O
  ·rw[gC f];exact I.free
  ·rw[dO f];exact J.free
 ·by_cases f:c∈O
  ·rw[gC f];exact I.i6 x c e
  ·rw[dO f];exact J.i6 x c e
 ·have v:p∈X.pn++(π++jI O s.heap):=by
   rcases bU.mp B with h|h
   ·exact gf _ h
   ·exact dr _ (gf _ h)
  refine jG (J.pin p v) λe n M N d=>⟨e,?_,M,N,d⟩
  by_cases f:p.1∈O
  ·rw[gC f];exact(I.pin p B).2.1
  ·rw[dO f];exact n
 ·by_cases f:b∈O
  ·rw[gC f]at e;refine aJ (i b f) λQ j t _=>?_;rw[j]at e
   exists e;exact t
  ·rw[dO f]at e;exact(J.aV b u e).mv (λ_ _ _ q=>q) (λc q=>g c _ q) λc xs q=>g c _ q
def Inv.yB(I:Inv X π σ H s)(d:iA H O)(J:Inv X (π++jI O s.heap) c H' s')(S:av 'r' H'):Inv X π c (lay H O H') s'/\∀b∈O,H' b=am:=Inv.yA I d J λb xs=>S b _
end
inductive XD where|t (o:Option Λ) (ks:List D)|n|x (b:Λ)|s (ks:List Key)|h (r C:Λ)
noncomputable def XD.root:XD->Λ->Λ|.h r _,_=>r|_,a=>a
noncomputable def iB:List Str:=["grammar","parts","states","doings","letters"]
noncomputable def XD.fl:XD->Bool|.t _ _=>be|.x _=>be|_=>bi
inductive SD where|bY (d:D)|ow (κ:Option (List Key)) (ds:List D)|xt (κ:XD) (ds:List D)
noncomputable abbrev SD.own(ds:List D):SD:=.ow am ds
noncomputable def mJ:Option (List Key)->List V->HO|none,vs=>.lst vs|some ks,vs=>.dK (ks.zip vs)
def Kg(a:Λ)(κ:Option (List Key))(vs:List V):lR a (mJ κ vs):=by cases κ with|none=>exact .inl ⟨vs,W⟩|some ks=>exact .inr (.inl ⟨_,W⟩)
def qv(κ:Option (List Key))(vs:List V):Prop:=∀ks,κ=Z ks->ks.length=vs.length/\ks.Nodup/\∀k∈ks,nE k=be
def Kh(vs:List V):qv am vs:=λ_ z=>by injection z
abbrev aj:=List (Option SD)
abbrev _root_.Zaj:=aj->Option D
abbrev _root_.Zak:=D->aj->Option aj
noncomputable def XB:Option SD->Option D|some (.bY d)=>Z d|_=>am
def XC:Option SD->Option D|some (.bY d)=>Z d|some (.ow am ds)=>Z (.lst ds)|some (.xt (.t _ ks) ds)=>Z (.tab ks ds)|some (.xt .n ds)=>Z (.lst ds)|some (.xt (.x _) ds)=>Z (.lst ds)|some (.xt (.h _ C) ds)=>Z (.obj C iB ds)|_=>am
def pv(c:aj):ai:=c.map XB
def fz(c:aj):ai:=c.map XC
def LL(K:au)(H G:Hp)(B:List Λ)(c:List D):Prop:=B.length=c.length/\∀(j:Nat)(b:Λ)(d:D),B[j]?=Z b->c[j]?=Z d->∃vs es,d=.lst es/\H b=Z (.lst vs)/\az K G vs es
structure nP(K:au)(H G:Hp)(r C a:Λ)(A:List Λ)(ds:List D)(dx dA lA:Λ)(B L:List Λ)(vg vp:V)(g p:D)(aR bP ks cE:List D)(dP:List V):Prop where
 eA:A=dA::lA::(B++L)
 nd:A.Nodup
 eD:ds=[g,p,.lst aR,.lst bP,.tab ks cE]
 ins:G r=Z (.ins C dx (iB.zip [vg,vp,.ref a,.ref dA,.ref lA]))
 rg:Rep K G vg g
 rp:Rep K G vp p
 hs:H a=Z (.lst dP)
 rs:az K G dP aR
 hd:H dA=Z (.lst (B.map .ref))
 ld:LL K H G B bP
 hl:H lA=Z (cj K lA ks (L.map .ref))
 lk:ks.length=L.length
 ll:LL K H G L cE
def OX(K:au)(H G:Hp)(κ:XD)(a:Λ)(A:List Λ)(ds:List D):Prop:=match κ with|.t o ks=>A=[]/\∃vs,H a=Z (cj K a ks vs)/\az K G vs ds/\ks.length=vs.length/\∀b,o=Z b->a=b|.n=>H a=Z (.lst (A.map .ref))/\A.Nodup/\A.length=ds.length/\∀(j:Nat)(b:Λ)(d:D),A[j]?=Z b->ds[j]?=Z d->∃vs es,d=.lst es/\H b=Z (.lst vs)/\az K G vs es|.x b=>a=b/\A=[]/\∃vs,H a=Z (.lst vs)/\az K G vs ds|.s ks=>∃T:List Λ,H a=Z (.dK (ks.zip (T.map .ref)))/\qv (Z ks) (T.map .ref)/\A.Nodup/\T.length=ds.length/\A.length=ds.length/\∀(j:Nat)(b c:Λ)(d:D),A[j]?=Z b->T[j]?=Z c->ds[j]?=Z d->∃v k vs es,G c=Z (.tup [v,.ref b])/\Rep K G v k/\d=.tup [k,.lst es]/\H b=Z (.lst vs)/\az K G vs es|.h r C=>∃m q u B L w y g p aR e ks f i,nP K H G r C a A ds m q u B L w y g p aR e ks f i
theorem yC{K:au}{H:Hp}:∀{vs:List V}{ds:List D},vs.length=ds.length->(∀(j:Nat)(v:V)(d:D),vs[j]?=Z v->ds[j]?=Z d->Rep K H v d)->az K H vs ds|[],[],_,_=>.nil|v::vs,d::ds,h,q=>.cons (q 0 v d W W) (yC (by simpa using h) λj v d c e=>q (j+1) v d (by simpa using c) (by simpa using e))
theorem LL.mono{K:au}{H H' G f:Hp}{B:List Λ}{c:List D}(h:LL K H G B c)(e:∀b∈B,H' b=H b)(s:av G f):LL K H' f B c:=⟨h.1,λj b d g i=>ay (h.2 j b d g i) λvs es m p q=>⟨vs,es,m,(e b (cu g)).trans p,q.mono s⟩⟩
def LL.Ki{K:au}{H G:Hp}{B:List Λ}{e:List D}(h:LL K H G B e)(s:av G H):az K H (B.map .ref) e:=yC (by simpa using h.1) λj v d f g=>by rw[bJ]at f;refine ax (bQ.mp f) λb i c=>?_;subst c;refine ay (h.2 j b d i g) λvs es c m p=>?_;subst c;exact .lst (.inl m) (p.mono s)
def OX.flat{K:au}{H G:Hp}{κ:XD}{a:Λ}{A:List Λ}{ds:List D}(h:OX K H G κ a A ds)(e:κ.fl=be):A=[]:=by cases κ with|t o ks=>exact h.1|x b=>exact h.2.1|_=>injection e
theorem OX.mono{K:au}{H H' G G':Hp}{κ:XD}{a:Λ}{A:List Λ}{ds:List D}(h:OX K H G κ a A ds)(e:∀b∈a::A,H' b=H b)(s:av G G'):OX K H' G' κ a A ds:=by cases κ with|t o ks=>refine aM h λi z=>aJ z λvs q E I=>?_;exact⟨i,vs,(e a (by exact .head _)).trans q,E.mono s,I⟩|s ks=>exact bh h λT i q E z=>aQ z λI M h6=>⟨T,(e a (by exact .head _)).trans i,q,E,I,M,λj b c d J N q3=>aU (h6 j b c d J N q3) λv k vs z=>bh z λes O Q U y=>aM y λp4 p5=>⟨v,k,vs,es,s _ _ O,Q.mono s,U,(e b (b8 _ (cu J))).trans p4,p5.mono s⟩⟩|n=>exact gz h λi q E I=>⟨(e a (by exact .head _)).trans i,q,E,λj b d J N=>ay (I j b d J N) λvs es O Q U=>⟨vs,es,O,(e b (b8 _ (cu J))).trans Q,U.mono s⟩⟩|x b=>exact aQ h λi q E=>ax E λvs I M=>⟨i,q,vs,(e a (by exact .head _)).trans I,M.mono s⟩|h r C=>refine aU h λdx dA lA z=>aU z λB L vg y=>aU y λvp g p u=>aU u λaR Y ks w=>gO w λcE dP h=>?_;have m:∀b∈A,H' b=H b:=λb f=>e b (b8 _ f);have mB:∀b∈B,b∈A:=λb f=>h.eA▸b8 _ (b8 _ (gf _ f));have mL:∀b∈L,b∈A:=λb f=>h.eA▸b8 _ (b8 _ (dr _ f));exact⟨dx,dA,lA,B,L,vg,vp,g,p,aR,Y,ks,cE,dP,h.eA,h.nd,h.eD,s _ _ h.ins,h.rg.mono s,h.rp.mono s,(e a (by exact .head _)).trans h.hs,h.rs.mono s,(m _ (h.eA▸bZ)).trans h.hd,h.ld.mono (λb f=>m b (mB b f)) s,(m _ (h.eA▸b8 _ bZ)).trans h.hl,h.lk,h.ll.mono (λb f=>m b (mL b f)) s⟩
def Off(c:St)(d:aj)(A:List Λ):Prop:=∀(j:Nat)(κ:Option (List Key))(es:List D)(b:Λ),d[j]?=Z (Z (.ow κ es))->c[j]?=Z (Z (.ref b))->b∉A
def RX(K:au)(H:Hp)(c:St)(d:aj)(O:List Λ):Prop:=∀(i:Nat)(κ:XD)(ds:List D),d[i]?=Z (Z (.xt κ ds))->(∀j κ' es,d[j]?=Z (Z (.xt κ' es))->j=i\/κ.fl=be/\κ'.fl=be/\c[j]?≠c[i]?)/\∃a A,c[i]?=Z (Z (.ref (κ.root a)))/\(∀b∈a::A,b∈O)/\a∉A/\OX K H 'r' κ a A ds/\Off c d (a::A)
def RX.of{K:au}{H H':Hp}{d c:St}{f ρ':aj}{O g:List Λ}(R:RX K H d f O)(m:∀(i:Nat)(κ:XD)(ds:List D),ρ'[i]?=Z (Z (.xt κ ds))->f[i]?=Z (Z (.xt κ ds))/\c[i]?=d[i]?)(r:av 'r' (aq H' g))(t:∀A,(∀b∈A,b∈O)->Off d f A->(∀b∈A,b∈g/\H' b=H b)/\Off c ρ' A):RX K H' c ρ' g:=λi κ ds h=>by obtain⟨v,p⟩:=m i κ ds h;refine aM (R i κ ds v) λu y=>cv y λa A w x B C E=>?_;obtain⟨q,I⟩:=t _ x E;exact⟨λj κ' es e=>(u j κ' es (m _ _ _ e).1).imp_right λz=>⟨z.1,z.2.1,by rw[(m _ _ _ e).2,p];exact z.2.2⟩,a,A,p.trans w,λb h=>(q b h).1,B,C.mono (λb h=>(q b h).2) r,I⟩
structure RO(K:au)(H:Hp)(σ:St)(ρ:aj)(O:List Λ):Prop where
 len:σ.length=ρ.length
 ls:iA H O
 bY:∀(i:Nat)(d:D),ρ[i]?=Z (Z (.bY d))->∃v,σ[i]?=Z (Z v)/\Rep K 'r' v d
 ow:∀(i:Nat)(κ:Option (List Key))(ds:List D),ρ[i]?=Z (Z (.ow κ ds))->∃a vs,σ[i]?=Z (Z (.ref a))/\a∈O/\H a=Z (mJ κ vs)/\az K 'r' vs ds/\qv κ vs
 inj:∀(i j:Nat)(κ κ':Option (List Key))(ds es:List D)(a:Λ),ρ[i]?=Z (Z (.ow κ ds))->ρ[j]?=Z (Z (.ow κ' es))->σ[i]?=Z (Z (.ref a))->σ[j]?=Z (Z (.ref a))->i=j
 xt:RX K H σ ρ O
section
variable {K:au}{H H':Hp}{σ:St}{ρ:aj}{O:List Λ}
theorem RO.own(R:RO K H σ ρ O)(i:Nat)(ds:List D)(h:ρ[i]?=Z (Z (.own ds))):∃a vs,σ[i]?=Z (Z (.ref a))/\a∈O/\H a=Z (.lst vs)/\az K 'r' vs ds:=let ⟨a,vs,c,d,e,f,_⟩:=R.ow i am ds h
 ⟨a,vs,c,d,e,f⟩
theorem RO.pv(R:RO K H σ ρ O):cD K 'r' σ (pv ρ):=by refine⟨by rw[R.len];simp[DL.pv],λi d h=>?_⟩;unfold DL.pv at h;rw[bJ]at h;cases q:ρ[i]? with|none=>simp_all|some o=>rw[q]at h;cases o with|none=>(injection h with h;injection h)|some x=>cases x with|bY d'=>cases h;exact R.bY i d q|ow κ ds=>(injection h with h;injection h)|xt κ ds=>(injection h with h;injection h)
theorem RO.fz(R:RO K H σ ρ O):cD K H σ (fz ρ):=by refine⟨by rw[R.len];simp[DL.fz],λi d h=>?_⟩;unfold DL.fz at h;rw[bJ]at h;cases q:ρ[i]? with|none=>simp_all|some o=>rw[q]at h;cases o with|none=>(injection h with h;injection h)|some x=>cases x with
   |bY d'=>cases h;exact ax (R.bY i d q) λv c J=>⟨v,c,J.mono (dG H O)⟩|ow κ ds=>cases κ with
    |some ks=>(injection h with h;injection h)|none=>cases h;exact bV (R.own i ds q) λa vs c _ M f=>⟨.ref a,c,.lst (.inl M) (f.mono (dG H O))⟩
   |xt κ ds=>refine aM (R.xt i κ ds q) λ_ z=>cv z λa A c _ _ f _=>?_;cases κ with|t o ks=>cases h;refine aM f λ_ z=>aJ z λvs m E _=>?_;exact⟨.ref a,c,.tab m (E.mono (dG H O))⟩|s ks=>(injection h with h;injection h)|n=>cases h;exact gz f λm _ E N=>⟨.ref a,c,.lst (.inl m) (yC (by simpa using E) λj v d I Q=>by rw[bJ]at I;refine ax (bQ.mp I) λb T e=>?_;subst e;refine ay (N j b d T Q) λvs es e U Y=>?_;subst e;exact .lst (.inl U) (Y.mono (dG H O)))⟩|x b=>cases h;exact aQ f λ_ _ h5=>ax h5 λvs m E=>⟨.ref a,c,.lst (.inl m) (E.mono (dG H O))⟩|h r C=>cases h;refine aU f λdx dA lA z=>aU z λB L vg u=>aU u λvp g p y=>aU y λaR bP ks w=>gO w λcE dP h=>?_;have S:=dG H O;exact⟨.ref r,c,h.eD▸ .obj (S _ _ h.ins) (.cons (h.rg.mono S) (.cons (h.rp.mono S) (.cons (.lst (.inl h.hs) (h.rs.mono S)) (.cons (.lst (.inl h.hd) (h.ld.Ki S)) (.cons (.tab h.hl (h.ll.Ki S)) .nil)))))⟩
structure SO(H H':Hp)(O:List Λ):Prop where
 same:av 'r' (aq H' O)
 own:∀a∈O,H' a=H a
theorem SO.refl(H:Hp)(O:List Λ):SO H H O:=⟨av.refl _,λ_ _=>rfl⟩
theorem SO.trans(a:SO d H2 O)(b:SO H2 e O):SO d e O:=⟨a.same.trans b.same,λc h=>(b.own c h).trans (a.own c h)⟩
def SO.of(c:iA H O)(h:av H H'):SO H H' O:=⟨λb o e=>by obtain⟨d,f⟩:=eg e;rw[bj d];exact h b o f,λa g=>by refine ax (c a g) λvs e _=>?_;rw[e];exact h a _ e⟩
theorem RO.mono(R:RO K H σ ρ O)(s:SO H H' O):RO K H' σ ρ O:=⟨R.len,λa g=>ax (R.ls a g) λu e p=>⟨u,(s.own a g).trans e,p⟩,λi d h=>ax (R.bY i d h) λv f c=>⟨v,f,c.mono s.same⟩,λi κ ds h=>cv (R.ow i κ ds h) λa vs f c q r t=>⟨a,vs,f,c,(s.own a c).trans q,r.mono s.same,t⟩,R.inj,R.xt.of (λ_ _ _ h=>⟨h,W⟩) s.same λA j o=>⟨λb m=>⟨j b m,s.own b (j b m)⟩,o⟩⟩
theorem RO.set(R:RO K H σ ρ O)(i:Nat)(q:Rep K 'r' v d):RO K H (σ.set i (Z v)) (ρ.set i (Z (.bY d))) O:=by
 have old:∀(j:Nat)(x:SD),(ρ.set i (Z (.bY d)))[j]?=Z (Z x)->(j=i/\i<ρ.length/\x=.bY d)\/(j≠i/\ρ[j]?=Z (Z x)):='m';refine⟨by rw[d9,d9];exact R.len,R.ls,λj e h=>?_,λj κ ds h=>?_,λj k κ κ' ds es a g m p r=>?_,R.xt.of (λj κ ds h=>?_) (av.refl _) λA t o=>⟨λb u=>⟨t b u,W⟩,λj κ es b g m=>?_⟩⟩;rotate_left 3
 ·rcases old j _ h with⟨_,_,c⟩|⟨f,h⟩;·injection c
  ·exact⟨h,c4 (bW f)⟩
 ·rcases old j _ g with⟨_,_,c⟩|⟨f,g⟩;·injection c
  ·rw[c4 (bW f)]at m;exact o j κ es b g m
 ·rcases old j _ h with⟨rfl,w,c⟩|⟨f,h⟩;·cases c;exact⟨v,gq (by rw[R.len];exact w),q⟩
  ·rw[c4 (bW f)];exact R.bY j e h
 ·rcases old j _ h with⟨_,_,c⟩|⟨f,h⟩
  ·injection c
  ·rw[c4 (bW f)];exact R.ow j κ ds h
 ·rcases old j _ g with⟨_,_,c⟩|⟨f,g⟩
  ·injection c
  ·rcases old k _ m with⟨_,_,c⟩|⟨y,m⟩
   ·injection c
   ·rw[c4 (bW f)]at p;rw[c4 (bW y)]at r;exact R.inj j k κ κ' ds es a g m p r
def RO.Kj(R:RO K H σ ρ O)(i:Nat)(y:H p=am)(q:az K 'r' vs ds)(B:qv κ vs):RO K (upd H p (mJ κ vs)) (σ.set i (Z (.ref p))) (ρ.set i (Z (.ow κ ds))) (p::O)/\av 'r' (aq (upd H p (mJ κ vs)) (p::O)):=by
 have g:p∉O:=λh=>by refine ax (R.ls p h) λvs e _=>?_;simp_all
 have m:av 'r' (aq (upd H p (mJ κ vs)) (p::O)):=λb o e=>by obtain⟨C,L⟩:=eg e;have M:b≠p:=gY L y;simp_all[bj,bu]
 have old:∀(j:Nat)(x:SD),(ρ.set i (Z (.ow κ ds)))[j]?=Z (Z x)->(j=i/\i<ρ.length/\x=.ow κ ds)\/(j≠i/\ρ[j]?=Z (Z x)):='m';refine⟨⟨by rw[d9,d9];exact R.len,λa ha=>?_,λj e h=>?_,λj κ' es h=>?_,λj k N Q es fs a d c r w=>?_,R.xt.of (λj κ ds h=>?_) m λA E o=>⟨λb C=>⟨b8 _ (E b C),bu λz=>g (z▸E b C)⟩,λj κ es b d c=>?_⟩⟩,m⟩;rotate_left 4
 ·rcases old j _ h with⟨_,_,t⟩|⟨f,h⟩;·injection t
  ·exact⟨h,c4 (bW f)⟩
 ·rcases old j _ d with⟨rfl,u,_⟩|⟨f,d⟩;·rw[gq (by rw[R.len];exact u)]at c;cases c;exactλz=>g (E _ z)
  ·rw[c4 (bW f)]at c;exact o j κ es b d c
 ·rcases a6.mp ha with rfl|ha;·exact⟨_,br,Kg _ _ _⟩
  ·exact ax (R.ls a ha) λus e T=>⟨us,dD e (gY e y),T⟩
 ·rcases old j _ h with⟨_,_,t⟩|⟨f,h⟩
  ·injection t
  ·rw[c4 (bW f)];exact ax (R.bY j e h) λv d c=>⟨v,d,c.mono m⟩
 ·rcases old j _ h with⟨rfl,u,t⟩|⟨f,h⟩
  ·cases t;exact⟨p,vs,gq (by rw[R.len];exact u),bZ,br,q.mono m,B⟩
  ·rw[c4 (bW f)];exact cv (R.ow j κ' es h) λa us d c r w U=>⟨a,us,d,b8 _ c,dD r (gY r y),w.mono m,U⟩
 ·have J:∀(j:Nat)(κ:Option (List Key))(es:List D)(a:Λ),ρ[j]?=Z (Z (.ow κ es))->σ[j]?=Z (Z (.ref a))->a≠p:=λj κ es a d c z=>by refine bV (R.ow j κ es d) λb us Y q2 q3 _=>?_;simp_all
  rcases old j _ d with⟨rfl,u,_⟩|⟨f,I⟩;·grind
  ·rw[c4 (bW f)]at r;rcases old k _ c with⟨rfl,u,_⟩|⟨B,c⟩
   ·grind
   ·rw[c4 (bW B)]at w;exact R.inj j k _ _ es fs a I c r w
def RO.new(R:RO K H σ ρ O)(i:Nat)(c:H p=am)(q:az K 'r' vs ds):RO K (upd H p (.lst vs)) (σ.set i (Z (.ref p))) (ρ.set i (Z (.own ds))) (p::O)/\av 'r' (aq (upd H p (.lst vs)) (p::O)):=R.Kj (κ:=am) i c q (Kh vs)
def RO.Kk(R:RO K H σ ρ O)(f:ρ[i]?=Z (Z (.ow κ ds)))(C:σ[i]?=Z (Z (.ref a)))(I:a∈O)(q:az K 'r' us es)(E:qv κ' us):RO K (upd H a (mJ κ' us)) σ (ρ.set i (Z (.ow κ' es))) O/\aq (upd H a (mJ κ' us)) O=aq H O:=by
 have v:aq (upd H a (mJ κ' us)) O=aq H O:=by
  funext b;by_cases p:b∈O;·simp_all[c8]
  ·grind[bj,bu]
 have J:i<ρ.length:=(bt.mp f).1;have old:∀(j:Nat)(x:SD),(ρ.set i (Z (.ow κ' es)))[j]?=Z (Z x)->(j=i/\x=.ow κ' es)\/(j≠i/\ρ[j]?=Z (Z x)):='m';refine⟨⟨by rw[d9];exact R.len,λb p=>?_,λj e h=>?_,λj c fs h=>?_,λj k c L r fs b g m w y=>?_,R.xt.of (λj κ ds h=>?_) (by rw[v];exact av.refl _) λA M o=>⟨λb p=>⟨M b p,bu λz=>o i κ ds a f C (z▸p)⟩,λj c N b g m=>?_⟩⟩,v⟩;rotate_left 4
 ·rcases old j _ h with⟨_,B⟩|⟨t,h⟩;·injection B
  ·exact⟨h,W⟩
 ·rcases old j _ g with⟨rfl,_⟩|⟨t,g⟩;·exact o j κ ds b f m
  ·exact o j _ _ b g m
 ·by_cases z:b=a
  ·subst z;exact⟨_,br,Kg _ _ _⟩
  ·rw[bu z];exact R.ls b p
 ·rw[v];rcases old j _ h with⟨_,B⟩|⟨t,h⟩
  ·injection B
  ·exact R.bY j e h
 ·rw[v];rcases old j _ h with⟨rfl,B⟩|⟨t,h⟩
  ·grind[br]
  ·refine bV (R.ow j c fs h) λb ws g m w y=>?_;have Q:b≠a:=λz=>t (R.inj j i _ _ fs ds a h f (by simp_all) C);grind[bu]
 ·rcases old j _ g with⟨rfl,_⟩|⟨t,u⟩
  ·rcases old k _ m with⟨rfl,_⟩|⟨E,d⟩
   ·rfl
   ·exact R.inj j k _ _ ds fs b f d w y
  ·rcases old k _ m with⟨rfl,_⟩|⟨E,d⟩
   ·exact R.inj j k _ _ r ds b u f w y
   ·exact R.inj j k _ _ r fs b u d w y
def RO.chg(R:RO K H σ ρ O)(d:ρ[i]?=Z (Z (.own ds)))(e:σ[i]?=Z (Z (.ref a)))(c:a∈O)(q:az K 'r' us es):RO K (upd H a (.lst us)) σ (ρ.set i (Z (.own es))) O/\aq (upd H a (.lst us)) O=aq H O:=R.Kk (κ':=am) d e c q (Kh us)
end
mutual
noncomputable def b9:D->Bool|.lst _=>bi|.bI _=>bi|.aW _ _=>bi|.tab .. =>bi|.obj .. =>bi|.tup xs=>cf xs|_=>be
noncomputable def cf:List D->Bool|[]=>be|x::xs=>b9 x&&cf xs
end
def yD(n:cf (d::ds)=be):b9 d=be/\cf ds=be:=by simpa [cf]using n
def Rep.hide{K:au}{H:Hp}{O:List Λ}(e:iA H O){v:V}(r:Rep K H v d):b9 d=be->Rep K 'r' v d:=r.go (P:=λd=>b9 d=be) (Q:=λds=>cf ds=be) (λ{a xs ds} _ h=>h.imp_left λh=>by
  by_cases c:a∈O
  ·refine ax (e a c) λvs q f=>?_;rw[h]at q
   exists q;rcases f with⟨_,z⟩|⟨_,z⟩|⟨_,_,_,z⟩<;>injection z
  ·rw[bj c];exact h) (λn=>by simp[b9]at n) (λn=>by simp[b9]at n) (λn=>by simp[b9]at n) (λn=>by simp[b9]at n) (λn=>by simp[b9]at n) (λn=>by simpa [b9]using n) yD
theorem az.hide{K:au}{H:Hp}{O:List Λ}(c:iA H O){vs:List V}{ds:List D}(r:az K H vs ds):cf ds=be->az K 'r' vs ds:=r.go (P:=λd=>b9 d=be) (Q:=λds=>cf ds=be) (λr=>r.hide c) yD
def XE(K:au)(f:Zaj):TE:=λe H Q=>∃c O d,RO K H e c O/\f c=Z d/\∀v H',SO H H' O->Rep K (aq H' O) v d->Q v H'
def vH(f:Zaf):Zaj:=λc=>f (pv c)
def vZ(f:Zaf):Zaj:=λc=>(f (fz c)).bind λd=>if b9 d=be then Z d else am
section
variable {X:Cx}{e b:Expr}{p:Pos}{f fa fb:Zaf}{fl:Zag}
noncomputable def C7:D->Option (List D)|.lst xs=>Z xs|_=>am
noncomputable def XF:D->Option (List D)|.lst xs=>Z xs|.tup xs=>Z xs|_=>am
def yE(fa fb:Zaf):Zag:=λc=>(fa c).bind λx=>(fb c).bind λy=>(C7 x).bind λxs=>(C7 y).bind λys=>if xs.length+ys.length<=aA then Z (xs++ys)else am
def Kl(fa:Zaf):Zag:=λc=>(fa c).bind XF
def XG(K:au)(f:aj->Option (List D)):TE:=λd H Q=>∃c O ds,RO K H d c O/\f c=Z ds/\∀vs H' p,SO H H' O->H' p=am->az K (aq H' O) vs ds->Q (.ref p) (upd H' p (.lst vs))
def lH(f:Zag):aj->Option (List D):=λc=>f (pv c)
def lZ(f:Zag):aj->Option (List D):=λc=>(f (fz c)).bind λds=>if cf ds=be then Z ds else am
theorem C8{x:Type}{fl:ai->Option x}{ds:x->List D}{o:x->Λ->List V->HO}(h:PE X e (λj H Q=>∃g z,cD X.K H j g/\fl g=Z z/\∀vs c p,av H c->c p=am->az X.K c vs (ds z)->Q (.ref p) (upd c p (o z p vs)))):PE X e (λj H Q=>∃g O z,RO X.K H j g O/\fl (pv g)=Z z/\∀vs H' p,SO H H' O->H' p=am->az X.K (aq H' O) vs (ds z)->Q (.ref p) (upd H' p (o z p vs))):=by
 intro E s j H Q I ⟨g,O,z,R,M,q⟩;refine aL (h _ s j 'r' (λv H2=>∃vs c p,v=.ref p/\H2=upd c p (o z p vs)/\av 'r' c/\c p=am/\az X.K c vs (ds z)) (Inv.hide I R.ls) ⟨pv g,z,R.pv,M,λvs c p m r A=>⟨vs,c,p,W,W,m,r,A⟩⟩) λu s' y=>ay y λv H2 J N t=>aS t λvs c p T U w=>aQ w λm r A=>?_;subst T U;obtain⟨L,hn⟩:=Inv.yB I R.ls J (m.trans (dj r _));have i:p∉O:=λh=>by have:=hn p h;rw[br]at this;injection this
 have B:∀b∈O,c b=am:=λb d=>by have:=hn b d;rw[bu (λz=>i (by rw[<-z];exact d))]at this;exact this
 have e:=C6 (H:=H) B;have el:lay H O (upd c p (o z p vs))=upd (lay H O c) p (o z p vs):=by
  funext b;by_cases d:b∈O;·rw[gC d,bu (λz=>i (by rw[<-z];exact d)),gC d]
  ·rw[dO d];by_cases C:b=p;·subst C;rw[br,br]
   ·rw[bu C,bu C,dO d]
 rw[el]at L;exact⟨.ref p,_,L,N,q vs _ p ⟨by rw[e];exact m,λa Y=>gC Y⟩ (by rw[dO i];exact r) (by rw[e];exact A)⟩
end
inductive aK where|aF (ρ:aj)|ret (d:D)|brk (ρ:aj)|cnt (ρ:aj)
abbrev _root_.Zal:=aj->Option aK
def qw(K:au)(g:Ends)(H:Hp)(O:List Λ):aK->Prop|.aF f=>∀c H' e,av 'r' (aq H' e)->RO K H' c f e->g.nx c H'|.ret d=>∀v H',av 'r' H'->Rep K H' v d->g.rt v H'|.brk f=>∀c H' e,av 'r' (aq H' e)->RO K H' c f e->g.bk c H'|.cnt f=>∀c H' e,av 'r' (aq H' e)->RO K H' c f e->g.ct c H'
def qw.mono{K:au}{f:Ends}{H H':Hp}{O g:List Λ}{o:aK}(h:qw K f H O o)(e:av 'r' (aq H' g)):qw K f H' g o:=by cases o with|aF i=>exactλc H2 O2 s r=>h c H2 O2 (e.trans s) r|ret d=>exactλv H2 s r=>h v H2 (e.trans s) r|brk i=>exactλc H2 O2 s r=>h c H2 O2 (e.trans s) r|cnt i=>exactλc H2 O2 s r=>h c H2 O2 (e.trans s) r
def Km(K:au)(g:Zal):TS:=λd e H=>∃c O o,RO K H e c O/\g c=Z o/\qw K d H O o
structure KS(X:Cx)(st:Stmt)(g:Zal):Prop where h:PS X st (Km X.K g)
structure KB(X:Cx)(st:List Stmt)(g:Zal):Prop where h:gr X st (Km X.K g)
structure cT(X:Cx)(e:Expr)(f:Zaj):Prop where h:PE X e (XE X.K f)
structure KF(X:Cx)(e:Expr)(f:aj->Option (List D)):Prop where h:PE X e (XG X.K f)
structure JL(X:Cx)(e:Expr)(f:Zag):Prop where h:PE X e (B8 X.K f)
section
variable {X:Cx}{e c:Expr}{st:Stmt}{rest:List Stmt}{pos p:Pos}{f:Zaf}{fo:Zaj}{lo:aj->Option (List D)}{fl:Zag}{g u:Zal}{t:Zae}{x:Str}
def yF(h:JE X e f):cT X e (vH f):=⟨by intro m s w H Q I ⟨y,O,d,R,A,q⟩;refine aL (h.h _ s w 'r' (λv i=>av 'r' i/\Rep X.K i v d) (Inv.hide I R.ls) ⟨pv y,d,R.pv,A,λv i j r=>⟨j,r⟩⟩) λu s' z=>bV z λv i J B j r=>?_;obtain⟨C,hn⟩:=Inv.yB I R.ls J j;have e:=C6 (H:=H) hn;exact⟨v,lay H O i,C,B,q v _ ⟨by simp_all,λa E=>gC E⟩ (by simp_all)⟩⟩
def C9(h:JE X e f):cT X e (vZ f):=⟨cR h.h λA H Q z=>aS z λj O d R i q=>by refine bS i λd' m i=>bR i λhn i=>?_;cases i;refine⟨fz j,d,R.fz,m,λv r w y=>?_⟩;have S:=SO.of R.ls w;exact q v r S (Rep.hide (R.mono S).ls y hn)⟩
def XH(h:JL X e fl):KF X e (lH fl):=⟨C8 (ds:=id) (o:=λ_ _=>.lst) h.h⟩
theorem XI(h:JL X e fl):KF X e (lZ fl):=⟨cR h.h λA H Q z=>aS z λi O ds R d q=>by refine bS d λj m d=>bR d λhn d=>?_;cases d;refine⟨fz i,ds,R.fz,m,λvs r p v w y=>?_⟩;have S:=SO.of R.ls v;exact q vs r p S w (az.hide (R.mono S).ls y hn)⟩
noncomputable def cZ:Zal:=λd=>Z (.aF d)
noncomputable def aI(g u:Zal):Zal:=λd=>(g d).bind λo=>match o with|.aF ρ'=>u ρ'|o=>Z o
theorem yG:KB X [] cZ:=⟨jJ xQ λh d H z=>aS z λi O o R e q=>by exists e;exact q d H O (av.refl _) R⟩
def vO(h:KS X st g):KB X [st] g:=⟨qf h.h⟩
theorem Kn(i:KS X st g)(m:KB X rest u):KB X (st::rest) (aI g u):=⟨jJ (lE i.h m.h) λA B H z=>aS z λv O o R e q=>by refine bS e λj i e=>⟨v,O,j,R,i,?_⟩;cases j with|aF ρ'=>exactλw H' y s r=>⟨ρ',y,o,r,e,q.mono s⟩|ret d=>exists e;exact q|brk ρ'=>exists e;exact q|cnt ρ'=>exists e;exact q⟩
def eW(f:Zaf):Zal:=λh=>(f (fz h)).bind λd=>Z (.ret d)
def C_(h:JE X e f):KS X (.Return (Z e) pos) (eW f):=⟨cM (rS h.h) λm w H z=>aS z λi O o R e q=>by
  refine bS e λd j e=>?_
  exists e;exact⟨fz i,d,R.fz,j,λv H' s r=>q v H' ((dG H O).trans s) r⟩⟩
def cK(t:Zae)(g u:Zal):Zal:=λd=>(t (fz d)).bind λc=>if c=be then g d else u d
theorem yH(i:JT X c t)(j:KB X a g)(m:KB X b u):KS X (.If c a b pos) (cK t g u):=⟨cM (uY i.h j.h m.h) λw y H z=>aS z λd O o R e q=>by refine bS e λk r e=>⟨fz d,k,R.fz,r,λA v=>?_⟩;have S:=SO.of R.ls v;cases k with|true=>rw[if_pos W]at e;exact⟨d,O,o,R.mono S,e,q.mono S.same⟩|false=>rw[if_neg dg]at e;exact⟨d,O,o,R.mono S,e,q.mono S.same⟩⟩
noncomputable def bE(i:Nat)(f:Zaj):Zal:=λh=>(f h).bind λd=>Z (.aF (h.set i (Z (.bY d))))
def yI(i:Nat)(j:X.N.Nodup)(h:cT X e fo)(m:X.N[i]?=Z x)(r:Loc X.env.scope x)(hs:d4 e (Z (.Name x pos')) pos.line X.env=pure bi)(w:X.fn x=be\/X.env.scope.names.lookup x=Z .local):KS X (.Assign [.Name x pos'] e pos) (bE i fo):=⟨cM (lF j m r h.h hs w) λE I H z=>aS z λy O o R e q=>by
  refine bS e λd A e=>?_
  exists e;exact⟨y,O,d,R,A,λv B S C=>q _ B O S.same ((R.mono S).set i C)⟩⟩
noncomputable def eE(i:Nat)(f:aj->Option (List D)):Zal:=λd=>(f d).bind λds=>Z (.aF (d.set i (Z (.own ds))))
theorem XJ(i:Nat)(d:X.N.Nodup)(h:KF X e lo)(j:X.N[i]?=Z x)(m:Loc X.env.scope x)(hs:d4 e (Z (.Name x pos')) pos.line X.env=pure bi)(r:X.fn x=be\/X.env.scope.names.lookup x=Z .local):KS X (.Assign [.Name x pos'] e pos) (eE i lo):=⟨cM (lF d j m h.h hs r) λE I H z=>aS z λv O o R e q=>by
  refine bS e λds w e=>?_
  exists e;refine⟨v,O,ds,R,w,λvs J p S y A=>?_⟩;obtain⟨B,C⟩:=(R.mono S).new i y A;exact q _ _ _ (S.same.trans C) B⟩
noncomputable def iC(i:Nat)(d:aj):Option (List D):=match d[i]? with|some (Z (.ow am ds))=>Z ds|_=>am
def qx(h:iC i j=Z ds):j[i]?=Z (Z (.own ds)):=by unfold iC at h;cases q:j[i]? with|none=>rw[q]at h;injection h|some o=>rw[q]at h;cases o with|none=>injection h|some y=>cases y with|xt κ es=>injection h|bY d=>injection h|ow κ es=>cases κ with|none=>exists h;rfl|some ks=>injection h
def gw(i:Nat)(f:Zaj):Zal:=λh=>(iC i h).bind λds=>(f h).bind λd=>if ds.length<aA then Z (.aF (h.set i (Z (.own (ds++[d])))))else am
def XM{apos cpos:Pos}(i:Nat)(h:cT X e fo)(I:X.N[i]?=Z x)(J:c6 X.env.scope x)(hn:cx e=be)(L:'f'=bi)(w:'i'=bi)(j:'s'=be):KS X (.Expr (.Call (.Attribute (.Name x np) "append" apos) [e] [] cpos) pos) (gw i fo):=⟨cM (mz (kF m_ uK uL ql (er I J L w) (ed h.h eT (bF hn)) W (by rw[ji (show [e].all cx=be by rw[cW,hn];rfl)];rfl) j (bF hn) (eP W)) W) λDn σ H z=>aS z λM O o R m q=>by
  refine bS m λds Q m=>bS m λd T m=>bR m λhz m=>?_
  exists m;have r:=qx Q;refine bV (R.own i ds r) λa vs y U Y e4=>⟨.ref a,y,.inl ⟨W,vs,bX.of Y⟩,M,O,d,R,T,λv H1 S r1=>?_⟩;have B:=R.mono S;refine bV (B.own i ds r) λa' A C f2 f3 E=>?_;rw[y]at C;cases C;refine⟨a,A,v,W,W,f3,by rw[E.length];exact hz,?_⟩;obtain⟨R2,hh⟩:=B.chg r y U (E.snoc r1);exact q _ _ O (by rw[hh];exact S.same) R2⟩
def yJ(i:Nat)(f:aj->Option (List D)):Zal:=λd=>(iC i d).bind λds=>(f d).bind λes=>if ds.length+es.length<=aA then Z (.aF (d.set i (Z (.own (ds++es)))))else am
def XN{apos cpos:Pos}(i:Nat)(h:KF X e lo)(U:X.N[i]?=Z x)(Y:c6 X.env.scope x)(hn:cx e=be)(hd:'f'=bi)(v:'i'=bi)(d:'s'=be):KS X (.Expr (.Call (.Attribute (.Name x np) "extend" apos) [e] [] cpos) pos) (yJ i lo):=⟨cM (mz (kF m_ Zxd Zxe UZ (er U Y hd v) (ed h.h eT (bF hn)) W (by rw[ji (show [e].all cx=be by rw[cW,hn];rfl)];rfl) d (bF hn) (eP W)) W) λDn σ H y=>aS y λρ O o R j q=>by
  refine bS j λds h1 j=>bS j λes h2 j=>bR j λhz j=>?_
  exists j;have m:=qx h1;refine bV (R.own i ds m) λa vs A e2 e3 e4=>⟨.ref a,A,.inl ⟨W,vs,bX.of e3⟩,ρ,O,es,R,h2,λus J b S B L=>?_⟩;have r:=R.mono S;refine bV (r.own i ds m) λa' C M f2 Q T=>?_;rw[A]at M;cases M;have E:a≠b:=gY Q B;have hbO:b∉O:=λz=>by obtain⟨ws,w,_⟩:=r.ls b z;rw[B]at w;injection w
  have I:SO J (upd J b (.lst us)) O:=SO.of r.ls (dj B _);have R2:=r.mono I;refine⟨a,b,C,us,W,W,dD Q E,br,by rw[T.length,L.length];exact hz,?_⟩;obtain⟨R3,hh⟩:=R2.chg m A e2 ((T.append L).mono I.same);exact q _ _ O (by rw[hh];exact S.same.trans I.same) R3⟩
def yK(i:Nat)(q fv:Zaj):Zal:=λh=>(fv h).bind λd=>(q h).bind λk=>(iC i h).bind λds=>match k with|.int j=>(g9 ds.length j).bind λm=>Z (.aF (h.set i (Z (.own (ds.set m d)))))|_=>am
theorem az.set{K:au}{H:Hp}{v:V}{d:D}(q:Rep K H v d):∀{vs:List V}{ds:List D}(m:Nat),az K H vs ds->az K H (vs.set m v) (ds.set m d)|_,_,_,.nil=>.nil|_,_,0,.cons _ t=>.cons q t|_,_,m+1,.cons r t=>.cons r (az.set q m t)
end
section
variable {X:Cx}{e tg:Expr}{st:Stmt}{pos p:Pos}{f:Zaf}{fo fi fv:Zaj}{g u:Zal}{x:Str}
def XO(i:Nat)(hv:cT X e fv)(E:cT X y fi)(hi:X.N[i]?=Z x)(B:c6 X.env.scope x)(hd:'f'=bi)(I:'i'=bi)(ha:∀v,lr (.Subscript (.Name x np) y r) X.env v=(do
   let C<-holding [v] (eval (.Name x np) X.env);let J<-holding [v,C] (eval y X.env)
   standAt r
   holding [v,C,J] (w6 C J v)
   release [v,C,J] []):=by intro _;rfl) (hs:F8 [.Subscript (.Name x np) y r] e pos.line X.env=pure bi) (hw:F9 [.Subscript (.Name x np) y r] e X.env=pure am) (h1:(i0 [.Subscript (.Name x np) y r] X.env).map (·.2)=[lr (.Subscript (.Name x np) y r) X.env]):KS X (.Assign [.Subscript (.Name x np) y r] e pos) (yK i fi fv):=⟨cM (Bv hv.h (Hs (er hi B hd I) E.h Io ha) hs hw h1) λDn σ H z=>aS z λU O o R t q=>by
  refine bS t λd q1 t=>bS t λk q2 t=>bS t λds q3 t=>?_;cases k with|int j=>
   refine bS t λm q4 t=>?_
   exists t;have A:=qx q3;refine⟨U,O,d,R,q1,λv H1 Y r1=>?_⟩;have L:=R.mono Y;refine bV (L.own i ds A) λa vs M e2 e3 e4=>⟨.ref a,M,U,O,.int j,L,q2,λw H2 Q r2=>?_⟩;induction r2 using lJ;have R2:=L.mono Q;refine bV (R2.own i ds A) λa' T f1 f2 f3 f4=>?_;rw[M]at f1;cases f1;refine⟨a,T,j,m,W,W,f3,by rw[f4.length];exact q4,?_⟩;obtain⟨R3,hh⟩:=R2.chg A M e2 (az.set (r1.mono Q.same) m f4);exact q _ _ O (by rw[hh];exact Y.same.trans Q.same) R3|_=>injection t⟩
inductive KJ(K:au)(H:Hp):It->List D->Prop|lst {a:Λ} {vs:List V} {ds:List D} (h:bX K H a vs) (r:az K H vs ds):KJ K H (Bw K a) ds|tup {a:Λ} {vs:List V} {ds:List D} (h:cX K H a vs) (r:az K H vs ds):KJ K H (Bx K a) ds|p_ (lo:Int) (n:Nat):KJ K H (rW lo n) (cq lo n)|De {a:Λ} {vs:List V} {ds:List D} (h:bX K H a vs) (r:az K H vs ds):KJ K H (yp K a) (kP 0 ds)|Ko {a:Λ} {vs:List V} {ds:List D} (h:cX K H a vs) (r:az K H vs ds):KJ K H (yq K a) (kP 0 ds)
def sT(K:au)(f:Zag):TI:=λh H R=>∃d ds,cD K H h d/\f d=Z ds/\∀J H',av H H'->KJ K H' J ds->R J H'
structure JK(X:Cx)(tg e:Expr)(f:Zag):Prop where
 h:PI X tg e (sT X.K f)
 s:jN e=be
def Kp(h:DE X e f):PI X tg e (sT X.K (dN f)):=by intro i s m H R I ⟨t,ds,Rn,j,q⟩;refine bS j λd w j=>?_;cases d with
 |lst xs=>
  exists j;refine Ht h i s m H R I ⟨t,_,Rn,w,λv H' s r=>?_⟩;cases r with|@lst a vs _ h' y=>exact⟨a,W,⟨vs,.inl h'⟩,q _ H' s (.lst (.inl h') y)⟩
 |tup xs=>
  exists j;refine Td h i s m H R I ⟨t,_,Rn,w,λv H' s r=>?_⟩;cases r with|@tup a vs _ h' y=>exact⟨a,W,⟨vs,h'⟩,q _ H' s (.tup h' y)⟩
 |bI ns=> exists j;refine Ht h i s m H R I ⟨t,_,Rn,w,λv H' s r=>?_⟩;cases r with|@bI a _ h'=>exact⟨a,W,⟨_,h'⟩,q _ H' s (.lst h' (vj ns))⟩
 |_=>injection j
def Kq(w:Gl X "range")(y:X.mg "range"=am)(A:DE X a B)(hs:bq [a] X.env=[(bi,eval a X.env)]):PI X tg (.Call (.Name "range" p) [a] [] pos) (sT X.K (dm (ag [B]))):=CH (Tg w y (vq A x_ hs) hs) λE H R z=>ay z λC ds Rn i q=>by
  refine bS i λas m i=>⟨C,as,Rn,m,λvs H' s r=>?_⟩;refine bS m λd I m=>?_
  exists m;induction r using si with|cons r t=>
   induction t using vh;induction r using gp with|int j=>
    have h:(if-(2^62)<=j/\j<2^62 then Z (cq 0 j.toNat)else am)=Z ds:=i;refine bR h λv h=>?_
    exists h;exact⟨j,W,v.1,v.2,q _ H' s (.p_ 0 _)⟩|_=>injection i
def XP(A:Gl X "range")(B:X.mg "range"=am)(C:DE X a E)(I:DE X b J)(hs:bq [a,b] X.env=[(bi,eval a X.env),(bi,eval b X.env)])(h:bq [b] X.env=[(bi,eval b X.env)]):PI X tg (.Call (.Name "range" p) [a,b] [] pos) (sT X.K (dm (ag [E,J]))):=CH (Th A B (vq C (vq I x_ h) (by rw[hs,h])) hs h) λO H R z=>ay z λL ds Rn v q=>by
  refine bS v λas w v=>⟨L,as,Rn,w,λvs H' s r=>?_⟩;refine bS w λd Q w=>bS w λM y w=>?_
  exists w;refine bS y λd' T y=>?_
  exists y;induction r using si with|cons r t=>induction t using si with|cons r' t=>induction t using vh;induction r using gp with
    |int i=>induction r' using gp with
     |int j=>
      have m:(if-(2^62)<=i/\i<2^62/\ -(2^62)<=j/\j<2^62 then Z (cq i (j-i).toNat)else am)=Z ds:=v;refine bR m λN m=>?_
      exists m;exact⟨i,j,W,N,q _ H' s (.p_ i _)⟩
     |_=>injection v
    |_=>first|injection v|(cases r'<;>injection v)
theorem XQ(J:Gl X "enumerate")(L:X.mg "enumerate"=am)(M:DE X a N)(hs:bq [a] X.env=[(bi,eval a X.env)]):PI X (.Tuple C x1 E) (.Call (.Name "enumerate" p) [a] [] pos) (sT X.K (sN N)):=by intro j s O H R I ⟨Q,ds,Rn,v,q⟩;refine bS v λd T v=>?_;rw[bQ]at v;obtain⟨ys,w,rfl⟩:=v;refine Call_ (oM I J L DL.boot_enumerate (xa (aL (vq M x_ hs pos j s O H (λvs i=>av H i/\az X.K i vs [d]) I ⟨Q,[d],Rn,by simp[x9,nF,T],λvs H' s r=>⟨s,r⟩⟩) λus Y z=>bV z λvs i y U A m=>?_) hs W));induction m using si with|cons r t=>induction t using vh;obtain⟨u,rfl,B⟩:=mE U;induction r using gp with|@lst a vs ds h m=> exists w;cases B;exact JX y (.inl h) (q _ i A (.De (.inl h) m))|@tup a vs ds h m=> exists w;cases B;exact Xb y h (q _ i A (.Ko h m))|@bI a ns h=> exists w;cases B;exact JX y h (q _ i A (.De h (vj ns)))|_=>injection w
def o_(K:au)(J:It)(H:Hp)(O:List Λ)(ds:List D):Prop:=∀H' j,av 'r' (aq H' j)->iA H' j-> (∀(i:Nat)(d:D),ds[i]?=Z d->J.go i H'/\∀x h,J.rV i H' x h->SO H' h j/\Rep K (aq h j) x d)/\J.stop ds.length H'
noncomputable def XR(P:Hp->List V->Prop):It:=⟨λi H=>∃xs x,P H xs/\xs[i]?=Z x,λi H x H'=>H'=H/\∀xs,P H xs->xs[i]?=Z x,λi H=>∃xs,P H xs/\xs.length<=i⟩
def XS(P:Hp->List V->Prop):It:=⟨λi H=>∃xs x,P H xs/\xs[i]?=Z x,λi H x H'=>∃p y,H p=am/\H'=upd H p (.tup [.int i,y])/\x=.ref p/\∀xs,P H xs->xs[i]?=Z y,λi H=>∃xs,P H xs/\xs.length<=i⟩
def Kr{K:au}{P:Hp->List V->Prop}{H:Hp}{O:List Λ}{vs:List V}{ds:List D}(m:∀{H'},av 'r' H'->P H' vs)(r:az K 'r' vs ds):o_ K (XR P) H O ds:=by
 intro H' j S C;have z:=m (S.trans (dG H' j));refine⟨λi d q=>?_,⟨vs,z,by rw[r.length];exact a9 _⟩⟩;obtain⟨v,h,t⟩:=r.get q;refine⟨⟨vs,v,z,h⟩,λx w y=>?_⟩;obtain⟨A,B⟩:=y;subst A;have:=B vs z;rw[h]at this
 exists this;exact⟨SO.refl _ _,t.mono S⟩
theorem Kt{K:au}{P:Hp->List V->Prop}{H:Hp}{O:List Λ}{vs:List V}{ds:List D}(m:∀{H'},av 'r' H'->P H' vs)(r:az K 'r' vs ds):o_ K (XS P) H O (kP 0 ds):=by
 intro H' h S t;have u:=m (S.trans (dG H' h));refine⟨λi d E=>?_,⟨vs,u,by rw[sM,r.length];exact a9 _⟩⟩;obtain⟨y,I,rfl⟩:=JV ds 0 i d E;obtain⟨v,A,J⟩:=r.get I;refine⟨⟨vs,v,u,A⟩,λx L M=>?_⟩;obtain⟨p,z,B,N,Q,T⟩:=M;have:=T vs u;rw[A]at this
 exists this;subst N Q;have C:SO H' (upd H' p (.tup [.int i,v])) h:=SO.of t (dj B _);have j:p∉h:=λw=>by obtain⟨us,q,_⟩:=t p w;rw[B]at q;injection q
 refine⟨C,.tup (.of (by rw[bj j];exact br)) (.cons ?_ (.cons ((J.mono S).mono C.same) .nil))⟩;rw[oH];exact .int _
def Ku{K:au}{J:It}{H:Hp}{O:List Λ}{ds:List D}(h:KJ K 'r' J ds):o_ K J H O ds:=by induction h using KJ.casesOn with|@lst a _ _ h r=>exact Kr (P:=λH=>bX K H a) (λs=>s.seq h) r|@tup a _ _ h r=>exact Kr (P:=λH=>cX K H a) (λs=>x8 s h) r|@De a _ _ h r=>exact Kt (P:=λH=>bX K H a) (λs=>s.seq h) r|@Ko a _ _ h r=>exact Kt (P:=λH=>cX K H a) (λs=>x8 s h) r|p_ lo n=>intro H' j S E;obtain⟨m,q⟩:=WV (K:=K) (H:=aq H' j) lo n _ (av.refl _);refine⟨λi d t=>?_,q⟩;obtain⟨v,w⟩:=m i d t;refine⟨v,λy A z=>aM z λB C=>?_⟩;subst B;exact⟨SO.refl _ _,(w y _ ⟨W,C⟩).2⟩
theorem XT{K:au}{J:It}{H:Hp}{ds:List D}(h:KJ K H J ds):Wk K J H ds:=λH' s=>by obtain⟨m,r⟩:=Ku (O:=[]) (jj H▸h) H' [] (by rw[jj,jj];exact s) (λa t=>(nomatch t));refine⟨λi d q=>⟨(m i d q).1,λx j y=>?_⟩,r⟩;have:=(m i d q).2 x j y;rw[jj]at this;exact⟨by have z:=this.1.same;rw[jj,jj]at z;exact z,this.2⟩
def Kv{tg e:Expr}{f:Zag}(h:PI X tg e (sT X.K f)):DI X tg e f:=CH h λj H R z=>ay z λd ds Rn i q=>⟨d,ds,Rn,i,λJ H' s k=>q J H' s (XT k)⟩
def XU(K:au)(g:Zak):TG:=λx j H Q=>∃i O d ρ',RO K H j i O/\Rep K 'r' x d/\g d i=Z ρ'/\∀h,RO K H h ρ' O->Q h H
def XW(K:au)(g:List D->aj->Option aj):qg:=λxs i H Q=>∃h O ds ρ',RO K H i h O/\az K 'r' xs ds/\g ds h=Z ρ'/\∀d,RO K H d ρ' O->Q d H
structure KG(X:Cx)(e:Expr)(g:Zak):Prop where h:PG X e (XU X.K g)
structure sU(X:Cx)(es:List Expr)(g:List D->aj->Option aj):Prop where h:rT X es (XW X.K g)
noncomputable def goN(i:Nat):Zak:=λd h=>Z (h.set i (Z (.bY d)))
noncomputable def ib:List D->aj->Option aj|[],d=>Z d|_,_=>am
noncomputable def cG(g:Zak)(gs:List D->aj->Option aj):List D->aj->Option aj|d::ds,i=>(g d i).bind λh=>gs ds h|[],_=>am
noncomputable def ic(n:Nat)(gs:List D->aj->Option aj):Zak|.tup ds,d=>if ds.length=n then gs ds d else am|_,_=>am
theorem Kw(i:Nat)(j:X.N.Nodup)(m:X.N[i]?=Z x)(t:Loc X.env.scope x)(w:X.fn x=be\/X.env.scope.names.lookup x=Z .local):KG X (.Name x pos) (goN i):=⟨λh s A H v u Q I r z=>aU z λC O d y=>bh y λρ' R B e q=>Hn j m t w h s A H v u Q I r (by exists e;exact q _ (R.set i B))⟩
def Kx:sU X [] ib:=⟨by intro d s h H xs us Q I r ⟨m,O,ds,ρ',R,j,i,q⟩;refine Ho d s h H xs us Q I r ?_;induction j using az.casesOn with|nil=>exists i;exact⟨W,q h R⟩|cons _ _=>injection i⟩
def Ky{es:List Expr}{g:Zak}{gs:List D->aj->Option aj}(m:KG X e g)(v:sU X es gs)(hs:(i0 (e::es) X.env).map (·.2)=lr e X.env::(i0 es X.env).map (·.2)):sU X (e::es) (cG g gs):=⟨by intro d s w H xs us Q I r ⟨y,O,ds,ρ',R,z,j,q⟩;refine Hq m.h v.h hs d s w H xs us Q I r ?_;induction z using az.casesOn with|nil=>injection j|cons A t=>exact bS j λi B j=>⟨_,_,W,y,O,_,i,R,A,B,λC E=>⟨i,O,_,ρ',E,t,j,q⟩⟩⟩
theorem Kz{k n:Nat}(h:sU X es gs)(z:X.calm=be)(hn:(i0 es X.env).length=n)(m:(i0 es X.env).findIdx? (·.1)=am):KG X (.Tuple es k pos) (ic n gs):=⟨by intro j s A H v u Q I r ⟨t,O,d,ρ',R,B,w,q⟩;refine Hr z h.h hn m j s A H v u Q I r ?_;induction B using gp with|@tup a xs ds h' y=>have i:(if ds.length=n then gs ds t else am)=Z ρ':=w;exact bR i λC i=>⟨a,xs,W,x8 (dG H O) h',by rw[y.length];exact C,t,O,ds,ρ',R,y,i,q⟩|_=>injection w⟩
noncomputable def c9(i:Zak)(gb:Zal):List D->Zal|[],j=>Z (.aF j)|d::ds,j=>(i d j).bind λm=>(gb m).bind λo=>match o with|.aF h=>c9 i gb ds h|.cnt h=>c9 i gb ds h|.brk h=>Z (.aF h)|.ret d=>Z (.ret d)
def eX(fi:Zag)(h:Zak)(gb:Zal):Zal:=λd=>(fi (pv d)).bind λds=>c9 h gb ds d
structure KW(X:Cx)(tg e:Expr)(f:Zag):Prop where
 h:PI X tg e (λσ H R=>∃ρ O ds,RO X.K H σ ρ O/\f (pv ρ)=Z ds/\∀J H',SO H H' O->o_ X.K J H' O ds->R J H')
 s:jN e=be
theorem XX{tg i:Expr}{f:Zag}{t:au->Hp->It->List D->Prop}(L:PI X tg i (λw H R=>∃m ds,cD X.K H w m/\f m=Z ds/\∀J H',av H H'->t X.K H' J ds->R J H'))(hw:∀H O J ds,t X.K 'r' J ds->o_ X.K J H O ds)(hn:jN i=be):KW X tg i f:=⟨by
 intro B s w H R I ⟨m,O,ds,r,M,q⟩;refine aL (L _ s w 'r' (λJ d=>av 'r' d/\t X.K d J ds) (Inv.hide I r.ls) ⟨pv m,ds,r.pv,M,λJ d C k1=>⟨C,k1⟩⟩) λv C N=>aL N λQ s2 U=>aU U λi Y tn y=>cv y λJ d e1 I1 T st u=>aQ u λf1 j k1=>?_;obtain⟨J',hn⟩:=Inv.yB I r.ls I1 j;have e:=C6 (H:=H) hn;have S:SO H (lay H O d) O:=⟨by rw[e];exact j,λa ha=>gC ha⟩;refine⟨i,Y,tn,J,lay H O d,e1,J',T,st,λb hb=>?_,q J _ S (hw _ _ _ _ (by rw[e];exact k1))⟩;refine iy (f1 b hb) λj0 j1 j2 j3 j4 E=>?_;have A:b∉O:=λz=>by obtain⟨vs,hl,hu⟩:=r.ls b z;obtain⟨_,q,_⟩:=Inv.o4 I hl hu;exact E (b,_) (dr _ (dr _ (rX z q))) W
 refine⟨by rw[dO A];exact j0,j1,j2,j3,j4,λp hp=>E p ?_⟩;rcases bU.mp hp with h|h;·exact gf _ h
 ·exact dr _ (gf _ h),hn⟩
def XY(fi:aj->Option (List D))(h:Zak)(gb:Zal):Zal:=λd=>(fi d).bind λds=>c9 h gb ds d
theorem XZ{fi:aj->Option (List D)}(hi:PI X tg iter (λσ H R=>∃L O ds,RO X.K H σ L O/\fi L=Z ds/\∀J H',SO H H' O->o_ X.K J H' O ds->R J H'))(hs:jN iter=be)(hg:KG X tg gt)(hb:KB X body gb)(hp:PassesOwn 'd' X.A X.env X.xe)(hc:X.calm=be):KS X (.For tg iter body [] pos) (XY fi gt gb):=by
 refine⟨cM (Hw hp hc hi hg.h hb.h (qt hs)) λDn σ H z=>aS z λL O o R ee q=>?_⟩;refine bS ee λds h1 ee=>⟨L,O,ds,R,h1,λJ H1 S1 wk=>?_⟩;refine⟨λi m B H'=>i<=ds.length/\m=ds.length-i/\∃ρ' t,RO X.K H' B ρ' t/\av (aq H1 O) (aq H' t)/\c9 gt gb (ds.drop i) ρ'=Z o,⟨ds.length,dZ _,W,L,O,R.mono S1,av.refl _,ee⟩,?_⟩;rintro i m B H' ⟨vE,rfl,ρ',t,Y,s',j⟩;have q':qw X.K Dn H' t o:=q.mono (S1.same.trans s');by_cases y:i<ds.length;·right;rw[Gy y]at j;refine bS j λM h2 j=>bS j λo1 h3 j=>?_;obtain⟨Cn,hy⟩:=(wk H' t s' Y.ls).1 i ds[i] (cF y);refine⟨Cn,λN H2=>∃r O2,RO X.K H2 N r O2/\av (aq H' t) (aq H2 O2)/\c9 gt gb (ds.drop (i+1)) r=Z o,λN H2 z=>ay z λr O2 R2 S2 e2=>⟨_,by omega,y,W,r,O2,R2,s'.trans S2,e2⟩,λx H2 hx=>?_⟩;obtain⟨Q,rx⟩:=hy x H2 hx;refine⟨ρ',t,ds[i],M,Y.mono Q,rx,h2,λXu R3=>⟨M,t,o1,R3,h3,?_⟩⟩;cases o1 with|aF r=>exactλC T U E I=>⟨r,U,I,Q.same.trans E,j⟩|cnt r=>exactλC T U E I=>⟨r,U,I,Q.same.trans E,j⟩|brk r=>exists j;exactλC T U E I=>q' C T U (Q.same.trans E) I|ret d=>exists j;exactλv T E I=>q' v T (Q.same.trans E) I
 ·left;have vG:i=ds.length:=Gz vE (QU.mp y);subst vG;rw[QV]at j
  exists j;exact⟨(wk H' t s' Y.ls).2,q' B H' t (av.refl _) Y⟩
def KA{iter:Expr}{body:List Stmt}{fi:Zag}{i:Zak}{gb:Zal}(d:JK X tg iter fi)(j:KG X tg i)(m:KB X body gb)(q:PassesOwn 'd' X.A X.env X.xe)(r:X.calm=be):KS X (.For tg iter body [] pos) (eX fi i gb):=XZ (XX d.h (λ_ _ _ _ h=>Ku h) d.s).h d.s j m q r
noncomputable def lS(f:Zaj)(g:Zak):Zal:=λh=>(f h).bind λd=>(g d h).bind λρ'=>Z (.aF ρ')
def KC(h:cT X e fo)(t:KG X tg w)(hs:F8 [tg] e pos.line X.env=pure bi)(hw:F9 [tg] e X.env=pure am)(y:(i0 [tg] X.env).map (·.2)=[lr tg X.env]):KS X (.Assign [tg] e pos) (lS fo w):=⟨cM (Bv h.h t.h hs hw y) λJ L H z=>aS z λm O o R i q=>by
  refine bS i λd A i=>bS i λρ' B i=>?_
  exists i;exact⟨m,O,d,R,A,λv C r E=>⟨m,O,d,ρ',R.mono r,E,B,λj I=>q j C O r.same I⟩⟩⟩
end
noncomputable def mK(n:Nat)(ds:List D):aj:=ds.map (λd=>Z (.bY d))++lx (n-ds.length) am
def eY(np ns:Nat)(g:Zal)(ds:List D):Option D:=if ds.length=np then(g (mK ns ds)).bind λo=>match o with|.ret d=>Z d|.aF _=>Z .aD|_=>am else am
def X0{K:au}{H:Hp}{N:List Str}{vs:List V}{ds:List D}(r:az K H vs ds):RO K H (start N vs) (mK N.length ds) []:=by
 have g:=r.length;have nr:∀(i:Nat)(x:SD),(mK N.length ds)[i]?=Z (Z x)->∃d,ds[i]?=Z d/\x=.bY d:=λi x h=>by
  unfold mK at h;by_cases c:i<ds.length;·rw[gL (by simpa using c),bJ]at h;cases q:ds[i]? with|none=>rw[q]at h;injection h|some d=>rw[q]at h;cases h;exact⟨d,W,W⟩
  ·rw[ku (by simp;lia),xu]at h;split at h<;>cases h
 refine⟨by simp[L2.start,mK,g],λa m=>(by cases m),λi d h=>?_,λi κ es h=>?_,λi j κ κ' es fs a h _ _ _=>?_,λi κ es h=>?_⟩;·obtain⟨d',e,f⟩:=nr i _ h;cases f;obtain⟨v,p,t⟩:=r.get e;refine⟨v,?_,by rw[jj];exact t⟩;have c:i<ds.length:=(bt.mp e).1;unfold L2.start;rw[gL (by simp[g];exact c),bJ,p];rfl
 all_goals
  obtain⟨d',e,f⟩:=nr i _ h;injection f
def X1{P:a8}{w:World}{K:au}{u:Zac}{base:Heap}{x i:Str}{st:Stmt}{f:Λ}{B:dt}{N ps:List Str}{k np ns:Nat}{g:Zal}(Fn:kG K x i st f B)(S:nq N ps (cQ st))(C:ps.length=np)(hn:N.length=ns) (m:∀(j:ω)(A:Around)(c:List Env)(s:ψ)(H:Hp)(E:XK),bA k (A.deeper (iH i (cQ st) s.heap.objs.size f j))->KB (i_ cL P w K u base N i (cQ st) f j A c s H E).j6 (gP st) g):cP P w K u base cL (k+1) f B ps (kJ K (eY np ns g)):=by
 subst C hn;have hlen:∀{ds:List D}{d:D},eY ps.length N.length g ds=Z d->ds.length=ps.length/\∃o,g (mK N.length ds)=Z o/\(match o with|.ret d=>Z d|.aF _=>Z .aD|_=>am)=Z d:=λ{ds d} h=>by unfold eY at h;exact bR h λI h=>bS h λo t p=>⟨I,o,t,p⟩
 refine Fn.ok S (λvs H Q E z=>ay z λds d r e _=>by rw[r.length];exact(hlen e).1) (λj A c s H vs Q E hr h=>?_);refine ay h λds d r e q=>aM (hlen e) λ_ y=>ax y λo t p=>⟨_,(m j A c s H E hr).h,mK N.length ds,[],o,X0 r,t,?_⟩;cases o with|ret d'=>exists p;exactλv H' s r'=>q v H' (by rw[jj]at s;exact s) r'|aF M=>exists p;exactλJ H' L s _=>q .aD H' (by rw[jj]at s;exact s.trans (dG H' L)) .aD|_=>injection p
section
variable {X:Cx}{e a b:Expr}{es:List Expr}{pos p:Pos}{f fa fb fc:Zaf}{fs:List Zaf}{x:Str}
def X3{B iter u:Expr}{v:List Expr}{d:Scope}{t:List (Str×Λ)}{N':List Str}{cap:List (Option Nat)}{I:Zag}{J:Zah}{fc:Zae}{fe:Zaf} (L:JI X B iter I) (E:∀C g i w,JG (cw X d t N' C g i w) B J/\JF (cw X d t N' C g i w) v fc/\JE (cw X d t N' C g i w) u fe) (m:oF d X.env=pure t) (q:∀y∈d.names,y.2≠ .cell) (r:d.kind=.function) (j:∀y∈d.names,y.2=.local->d.names.lookup y.1=Z .local) (H:jd X.env.cells t) (z:jf t (ky d X.env).names) (A:gv X d N' cap) (M:X.calm=be):JL X (.ListComp u [⟨B,iter,v,0⟩] d pos) (ez cap I J fc fe):=⟨Jv M L.h m q r j H z A (λC g i w=>aQ (E C g i w) λN O Q=>⟨N.h,O.h,Q.h⟩) (qt L.s)⟩
theorem X4(h:JA X es fs (ag fs))(hn:wZ fs.length 1000=be):JL X (.List es pos) (ag fs):=⟨cR (u7 h.h) λt H Q z=>ay z λd ds r e q=>⟨d,ds,r,e,λvs i j g=>⟨by rw[g.length];exact c3 (h.n d ds e) (yx hn),λp m=>q vs i p j m g⟩⟩⟩
theorem X5(t:JE X a fa)(w:JE X b fb):JL X (.BinOp a .Add b pos) (yE fa fb):=⟨cR (Hy IT t.h w.h) λU H Q z=>ay z λj ds R e q=>by refine bS e λx A e=>bS e λy B e=>bS e λxs C e=>bS e λys E e=>bR e λhz e=>?_;cases e;refine⟨j,x,R,A,λv Y m I=>⟨j,y,R.mono m,B,λu H2 r J=>?_⟩⟩;cases x<;>cases C;cases y<;>cases E;have i:=I.mono r;cases i with|@lst L vs _ M d=>cases J with|@lst N ws _ O g=>exact⟨L,N,vs,ws,W,W,M,O,by rw[d.length,g.length];exact hz,λp T=>q (vs++ws) H2 p (m.trans r) T (d.append g)⟩⟩
theorem X6(t:X.mg "list"=am)(u:JE X a fa)(w:Gl X "list")(hn:cx a=be):JL X (.Call (.Name "list" p) [a] [] pos) (Kl fa):=⟨cR (Ic UR w t DL.WG (ed u.h eT (bF hn)) 'b' 'b' (bF hn) (eP W)) λC H Q z=>ay z λy ds R e q=>by refine bS e λx A e=>⟨y,x,R,A,λv m r B=>?_⟩;induction B using gp with|@lst g vs _ i d=>exists e;exact⟨g,vs,W,.inl (.inl i),λp j=>q vs m p r j d⟩|@tup g vs _ i d=>exists e;exact⟨g,vs,W,.inr i,λp j=>q vs m p r j d⟩|_=>injection e⟩
def KH(h:JE X e f)(hs:jN e=be):JK X d e (dN f):=⟨Kp h.h,hs⟩
def KI(d:X.mg "range"=am)(g:JE X a fa)(i:Gl X "range")(hn:cx a=be):JK X j (.Call (.Name "range" p) [a] [] pos) (dm (ag [fa])):=⟨Kq i d g.h (bF hn),W⟩
def X7(g:X.mg "range"=am)(i:JE X a fa)(j:JE X b fb)(m:Gl X "range")(hn:cx a=be)(d:cx b=be):JK X q (.Call (.Name "range" p) [a,b] [] pos) (dm (ag [fa,fb])):=⟨XP m g i.h j.h (by rw[bF hn,bF d];rfl) (bF d),W⟩
def Df(h:JE X e f)(hs:jN e=be):JI X d e (dN f):=⟨Kv (Kp h.h),hs⟩
def yL(d:X.mg "range"=am)(g:JE X a fa)(i:Gl X "range")(hn:cx a=be):JI X j (.Call (.Name "range" p) [a] [] pos) (dm (ag [fa])):=⟨Kv (Kq i d g.h (bF hn)),W⟩
def X8(i:X.mg "enumerate"=am)(j:JE X a fa)(m:Gl X "enumerate")(hn:cx a=be):JK X (.Tuple d x1 g) (.Call (.Name "enumerate" p) [a] [] pos) (sN fa):=⟨XQ m i j.h (bF hn),W⟩
noncomputable def Dg:D->Option Bool|.aD=>Z bi|.bl b=>Z b|.int i=>Z (i != 0)|.str y=>Z ((y.length:Int) != 0)|.tup xs=>Z (!xs.isEmpty)|.lst xs=>Z (!xs.isEmpty)|.bI ns=>Z (!ns.isEmpty)|.aW _ _=>am|.tab .. =>am|.obj .. =>am
theorem X9{K:au}{H:Hp}{v:V}{k:Bool}(r:Rep K H v d)(h:Dg d=Z k):BE K v H k:=by induction r using gp with|aD=>exists h;rfl|bl b=>exists h;rfl|int i=>cases h;rfl|str y j=>cases h;exact⟨j,W⟩|@tup a vs ds q g=>exists h;refine .inr (.inl ⟨vs,q,?_⟩);induction g using az.casesOn<;>rfl|@lst a vs ds q g=>exists h;refine .inl ⟨vs,.inl q,?_⟩;induction g using az.casesOn<;>rfl|@bI a ns q=>exists h;refine .inl ⟨_,q,?_⟩;cases ns<;>rfl|aW|tab|obj=>injection h
def vP(f:Zaf):Zae:=λd=>(f d).bind Dg
def X_(h:JE X e f)(g:CN e=be):JT X e (vP f):=⟨vm (TN h.h (JZ g)) λw H Q z=>ay z λi k R j q=>by exact bS j λd m r=>⟨i,d,R,m,λv H' t u=>⟨k,X9 u r,q H' t⟩⟩⟩
noncomputable def sV:Zal:=λ_=>am
theorem Dh{st:Stmt}:KS X st sV:=⟨λd s g i H I h=>by refine aS h λ_ _ _ _ e _=>?_;injection e⟩
end
end DL
namespace DL
open PySem PySem.Spec PyProof.Rows L2
section
variable {X:Cx}{a:Expr}{pos p2:Pos}{fa:Zaf}
def KL{lo c:Option Expr}{fl d:ai->Option (Option Int)}(e:JE X a fa)(f:JO X lo fl)(g:JO X c d):JE X (.Subscript a (.Slice lo c am p2) pos) (jg fa fl d):=⟨JQ e.h f.h g.h⟩
end
section
variable {prog:a8}{w:World}{A:Around}{E:Zab}{s:ψ}
def Ya{ws:List ω}(q:IsTup s.heap t (#[]:Array ω))(r:IsTup s.heap b ws.toArray)(u:Q (.ref b) s):wpAny 'j' A (hV .Add (.ref t) (.ref b)) Q E s:=by obtain⟨⟨cls,v,h,x⟩,i,j,n,m⟩:=id q;obtain⟨⟨p,f,data2,g⟩,c,d,n2,e⟩:=id r;simp only at j m d e;subst j m d e;exact Qx ⟨_,i,W⟩ ⟨_,c,W⟩ Qy Qz QA QB (QC _ _) (tuple_addW0 t b #[] ws.toArray n n2 v f x g (by rfl)) ⟨i,c,u⟩
end
section
variable {X:Cx}
def jO:D->D->Option D|.tup [],.tup ys=>Z (.tup ys)|a,b=>aP a b
def KN:d3 X (hV .Add) jO:=⟨by
 intro c s j H x y v u Q I m r h;refine aS h λB C d f g t=>aM t λe q=>?_;clear h t;have old:aP B C=Z d->wpAny 'd' X.A (hV .Add v u) (EP X c j Q) X.xe s:=λJ=>IU c s j H x y v u Q I m r ⟨B,C,d,f,g,J,q⟩;unfold jO at e;split at e;case h_2=>exact old e
 exists e;cases f with|@tup a vs ds p L=>cases g with|@tup b ws es z i=>cases L;cases m;cases r;refine aJ (I.tuple p) λM f N _=>aJ (I.tuple z) λE g O _=>?_;cases f;exact Ya N O ⟨.ref b,H,I,W,q _ H 'v' (.tup z i)⟩⟩
end
section
variable {X:Cx}
noncomputable instance(i j:Int):Decidable (ur i j):=by unfold ur;infer_instance
def Yb:c7 X (hV .Mult) (rI ur λi j=>.int (i*j)):=BC λ_ _ _ _ _ _ _ c q=>mul_int q c
def sW:D->D->Option D:=dI ur λi j=>.int (i*j)
def KO:d3 X (hV .Mult) sW:=⟨B1 Yb λ_ _ _=>.int _⟩
end
noncomputable def jP{c:Type}(lt:Nat->Nat->Bool):rH c->c|.ret a=>a|.ask i j k=>jP lt (k (lt i j))
noncomputable def mM{c:Type}(n:Nat):rH c->Bool|.ret _=>be|.ask i j k=>decide (i<n)&&decide (j<n)&&decide (i≠j)&&mM n (k be)&&mM n (k bi)
theorem KP{d:Type}{n:Nat}{c:Nat->Nat->(Bool->ψ->Prop)->ψ->Prop}{lt:Nat->Nat->Bool}{Q:d->ψ->Prop}{s:ψ}(e:∀i j C,i<n->j<n->i≠j->C (lt i j) s->c i j C s):∀(t:rH d),mM n t=be->Q (jP lt t) s->t.kasWp c Q s
 |.ret a,_,h=>h|.ask i j k,f,h=>by
  simp only[mM,cV,decide_eq_true_eq]at f;obtain⟨⟨⟨⟨g,m⟩,p⟩,q⟩,r⟩:=f;refine e i j _ g m p (KP e _ ?_ h);cases lt i j;·exact r
  ·exact q
def KQ:mM 2 (jF 2)=be:=by decide+kernel
def Yc:mM 4 (jF 4)=be:=by decide+kernel
def KR:mM 3 (jF 3)=be:=by decide+kernel
def iO{c:Type}(d:c)(lt:Nat->Nat->Bool)(vs:List c):List c:=if vs.length<2 then vs else(jP lt (jF vs.length)).toList.map λi=>vs.getD i d
section
variable {prog:a8}{w:World}{A:Around}{E:Zab}{s:ψ}
def Yd{vs:List ω}{n:Nat}{P:PySem.Fin->ψ->Prop}{lt:Nat->Nat->Bool}(t:s.heap.get? a=Z (du "list" vs.toArray n))(g:vs.length<=4) (M:∀h',(∀b o,b≠a->s.heap.get? b=Z o->h'.get? b=Z o)->2<=vs.length->∃κ,(∀Q,Q κ {s with heap:=h'}->wpAny 'j' A (keyKind' vs.toArray) Q (λ_ _=>False) {s with heap:=h'})∧ ∀i j C,i<vs.length->j<vs.length->i≠j->C (lt i j) {s with heap:=h'}->wpAny 'j' A (keyLt' κ (vs.getD i eJ) (vs.getD j eJ)) C (λ_ _=>False) {s with heap:=h'}) (h:P (.done (.ret .none)) {s with heap:=QY s.heap a vs (iO eJ lt vs).toArray}):wpAny 'j' A (Builtin.«list.sort» ⟨[.ref a],[]⟩) P E s:=by
 rw[list_sort_plain];have J:a<s.heap.objs.size:=b6 t;refine υ (listItems_at t W ?_);refine υ (QZ t W ?_);obtain⟨v,m⟩:∃v,(s.heap.update a (i4 λ_=> #[])).get? a=Z (du "list" #[] v):=⟨_,get?_update_seq t (λ_=> #[])⟩;refine υ (Q0 m W ?_);refine υ (wpAny_newTuple ?_);refine υ (Q1 ?_);refine wpAny_holding ?_;have d:(((s.heap.update a (i4 λ_=> #[])).push (du "tuple" vs.toArray 0)).push (du "list" #[] 0)).get? a=Z (du "list" #[] v):=by rw[xC _ _ _ (by rw[Q2,A9];exact df (xx J)),xC _ _ _ (by rw[A9];exact df J)];exact m
 show wpAny 'j' A _ P E {s with heap:=((s.heap.update a (i4 λ_=> #[])).push (du "tuple" vs.toArray 0)).push (du "list" #[] 0)};dsimp only;have hsz:vs.toArray.size=vs.length:=by exact W
 by_cases u:vs.toArray.size<2
 ·rw[if_pos u,if_pos u];refine υ (χ ?_);rw[StateT.run_pure];refine υ (χ ?_);dsimp only;refine υ (Q0 d W ?_);refine υ (QZ d W ?_ (hsz2:=by rw[Array.size_map];show(pairsOf vs).size<=_;rw[pairsOf_size,rq];exact fo g));simp only[bne_self_eq_false,lC,if_false];have e:(iO eJ lt vs).toArray=(arrOf (SortSt.mk' general' (vs.toArray.zip vs.toArray) #[] 7 am)).map (·.2):=by unfold iO;rw[if_pos (by omega)];show vs.toArray=(vs.toArray.zip vs.toArray).map (·.2);apply Array.toList_inj.mp;rw[Array.toList_map,Array.toList_zip];simp[Q3]
  rw[e]at h;exact χ h
 ·rw[if_neg u,if_neg u];obtain⟨κ,k1,N⟩:=M (((s.heap.update a (i4 λ_=> #[])).push (du "tuple" vs.toArray 0)).push (du "list" #[] 0)) (λb o O q=>by have r:b<s.heap.objs.size:=b6 q;rw[xC _ _ _ (by rw[Q2,A9];exact df (xx r)),xC _ _ _ (by rw[A9];exact df r),Zxf _ _ _ _ O];exact q) 'c';refine υ (lq (k1 (λκ' s'=>κ'=κ/\s'={s with heap:=((s.heap.update a (i4 λ_=> #[])).push (du "tuple" vs.toArray 0)).push (du "list" #[] 0)}) ⟨W,W⟩) (λκ' s' T=>?_) λ_ _ x=>x.elim);obtain⟨rfl,rfl⟩:=T;have y:mM vs.length (jF vs.length)=be:=by
   have:vs.length=2\/vs.length=3\/vs.length=4:=by omega
   rcases this with e|e|e;·rw[e];exact KQ
   ·rw[e];exact KR
   ·rw[e];exact Yc
  refine υ (lq (PySem.W.kat_run (ks:=vs) (vs:=vs) (κ:=κ') (G:=λp s'=>p=jP lt (jF vs.length)/\s'={s with heap:=((s.heap.update a (i4 λ_=> #[])).push (du "tuple" vs.toArray 0)).push (du "list" #[] 0)}) (Q:=λc s'=>(∃p:Array Nat,p.size=vs.length/\arrOf c=p.map (PySem.W.kas_item (vs.toArray.zip vs.toArray))/\p=jP lt (jF vs.length))/\failedOf c=am/\s'={s with heap:=((s.heap.update a (i4 λ_=> #[])).push (du "tuple" vs.toArray 0)).push (du "list" #[] 0)})
   rfl 'm' 'c' (λU c s' Y a2 a3 L=>⟨⟨U,Y,a2,L.1⟩,a3,L.2⟩) (KP (n:=vs.length) (lt:=lt) (λi j C hi hj z hC=>N i j C hi hj z hC) _ y ⟨W,W⟩)) ?_ λ_ _ e=>e);rintro⟨⟨⟩,c⟩ s' ⟨⟨p,B,H,I⟩,hf,rfl⟩;dsimp only;have f:=PySem.W.kat_snds (ks:=vs) (vs:=vs) W H;have e:(arrOf c).map (·.2)=(iO eJ lt vs).toArray:=by rw[f];unfold iO;rw[if_neg (by omega),I]
  refine υ (Q0 d W ?_);refine υ (QZ d W ?_ (hsz2:=by rw[f,dY,aG,oE,B,rq];exact fo g));rw[hf];simp only[bne_self_eq_false,lC,if_false];rw[e];exact χ h
def Ye{vs:List ω}{lt:Nat->Nat->Bool}(g:s.heap.IsList l vs.toArray)(c:vs.length<=4) (p:∀h',(∀b o,s.heap.get? b=Z o->h'.get? b=Z o)->2<=vs.length->∃κ,(∀Q,Q κ {s with heap:=h'}->wpAny 'j' A.in1.in1 (keyKind' vs.toArray) Q (λ_ _=>False) {s with heap:=h'})∧ ∀i j C,i<vs.length->j<vs.length->i≠j->C (lt i j) {s with heap:=h'}->wpAny 'j' A.in1.in1 (keyLt' κ (vs.getD i eJ) (vs.getD j eJ)) C (λ_ _=>False) {s with heap:=h'}) (h:Q (.ref 'n') {s with heap:=sortedAll s.heap vs (iO eJ lt vs).toArray}):wpAny 'j' A (call (.builtin "sorted") [.ref l]) Q E s:=by
 refine Zxg kind_sorted plain_sorted entry_sorted (args_sorted1 _) ?_;unfold Builtin.«sorted»;refine υ (m:=checkCount "sorted" 1 1 _) (χ ?_);refine υ (collect_list g ?_ (by rw[rq];exact fo c));refine υ (Q1 ?_ (by rw[rq];exact fo c));have hsz:((s.heap.push (du "list" #[] 0)).update s.heap.objs.size (i4 (· ++vs.toArray))).objs.size=s.heap.objs.size+1:=by rw[A9,Q2]
 have e:(((s.heap.push (du "list" #[] 0)).update s.heap.objs.size (i4 (· ++vs.toArray))).push (du "list" vs.toArray 0)).get? 'n'=Z (du "list" vs.toArray 0):=by rw[<-hsz];exact eo _ W
 have f:∀b o,s.heap.get? b=Z o->(((s.heap.push (du "list" #[] 0)).update s.heap.objs.size (i4 (· ++vs.toArray))).push (du "list" vs.toArray 0)).get? b=Z o:=λb o q=>by have d:b<s.heap.objs.size:=b6 q;rw[xC _ _ _ (by rw[hsz];exact df (xx d)),Zxf _ _ _ _ (df d),xC _ _ _ (df d)];exact q
 show wpAny _ _ _ _ _ {s with heap:=((s.heap.push (du "list" #[] 0)).update s.heap.objs.size (i4 (· ++vs.toArray))).push (du "list" vs.toArray 0)};rw[hsz];refine υ (wpAny_holding (mj Q4 ⟨_,e,W⟩ Q5 ?body (Q6 _)));case body=>refine Yd (s:={s with heap:=((s.heap.push (du "list" #[] 0)).update s.heap.objs.size (i4 (· ++vs.toArray))).push (du "list" vs.toArray 0)}) (lt:=lt) e c (λh' r t=>p h' (λb o q=>r b o (df (xx (b6 q))) (f b o q)) t) ⟨_,W,?_⟩;exact χ ⟨_,W,h⟩
end
def yM(h:Heap)(v:ω)(x:Str):Prop:=∃a o xs n t,v=.ref a/\h.get? a=Z o/\o.cls=.type "tuple"/\o.data=.seq xs n/\xs[0]?=Z (.str x t)
def jn(h:Heap):List ω->List Str->Prop|[],[]=>True|v::vs,x::xs=>yM h v x/\jn h vs xs|_,_=>False
theorem jn.len{h:Heap}:∀{vs:List ω}{xs:List Str},jn h vs xs->vs.length=xs.length|[],[],_=>rfl|v::vs,x::xs,t=>by rw[bz,bz,jn.len t.2]|[],_::_,t=>t.elim|_::_,[],t=>t.elim
theorem jn.get{h:Heap}:∀{vs:List ω}{xs:List Str}{i:Nat},jn h vs xs->i<vs.length->yM h (vs.getD i eJ) (xs.getD i "")|v::vs,x::xs,0,t,_=>t.1|v::vs,x::xs,i+1,t,c=>by have:=jn.get (i:=i) t.2 (by simpa using c);simpa using this|[],[],i,_,c=>by simp at c|[],_::_,_,t,_=>t.elim|_::_,[],_,t,_=>t.elim
theorem jn.mono{h h':Heap}(k:∀b o,h.get? b=Z o->h'.get? b=Z o):∀{vs:List ω}{xs:List Str},jn h vs xs->jn h' vs xs|[],[],_=>trivial|v::vs,x::xs,⟨⟨a,o,ys,n,t,c,d,e⟩,r⟩=>⟨⟨a,o,ys,n,t,c,k _ _ d,e⟩,jn.mono k r⟩|[],_::_,t=>t.elim|_::_,[],t=>t.elim
theorem jn.KU{h:Heap}:∀{vs:List ω}{xs:List Str},jn h vs xs->∃fs,PySem.W.KatTups h vs fs/\fs.length=vs.length/\∀f∈fs,∃x t,f=uk x t
 |[],[],_=>⟨[],trivial,W,λf hf=>by cases hf⟩|v::vs,x::xs,⟨⟨a,o,ys,n,t,c,d,e,g,i⟩,r⟩=>by
  subst c;refine aJ (jn.KU r) λfs j m p=>⟨.str x t::fs,.cons d e g i j,by simp[m],λf hf=>?_⟩;rcases a6.mp hf with rfl|hf;·exact⟨x,t,W⟩
  ·exact p f hf|[],_::_,t=>t.elim|_::_,[],t=>t.elim
section
variable {prog:a8}{w:World}{A:Around}{E:Zab}{s:ψ}
def Yf{C:Bool->ψ->Prop}(h:yM s.heap v x)(i:yM s.heap u y)(f:(x==y)=bi)(I:C (bM x y) s):wpAny 'j' A (keyLt' (tuples' be) v u) C E s:=by
 refine aU h λa o xs j=>cv j λn t c J T L d=>?_;clear h j;subst c;refine aU i λb p ys j=>cv j λm r c M U N e=>?_;clear i j;subst c;refine PySem.W.kat_lt J L M N ?_;obtain⟨B,O⟩:∃B,xs.toList=.str x t::B:=by rw[<-uD]at d;cases q:xs.toList with|nil=>rw[q]at d;injection d|cons z g=>rw[q]at d;exists d;exact⟨g,W⟩
 obtain⟨H,Q⟩:∃H,ys.toList=.str y r::H:=by rw[<-uD]at e;cases q:ys.toList with|nil=>rw[q]at e;injection e|cons z g=>rw[q]at e;exists e;exact⟨g,W⟩
 rw[O,Q];refine PySem.W.kat_cons (eqBool_str ?_);rw[f];exact PySem.W.kat_no (oneLt_str I)
end
noncomputable def KY:D->Option Str|.tup (.str x::_)=>Z x|_=>am
def qz:List D->Option (List Str)|[]=>Z []|d::ds=>(KY d).bind λx=>(qz ds).bind λxs=>Z (x::xs)
def kc(ks:List Str):Nat->Nat->Bool:=λi j=>bM (ks.getD i "") (ks.getD j "")
def nQ:Zad:=k1 λd=>match d with|.lst ds=>(qz ds).bind λks=>if ds.length<=4/\ks.Nodup then Z (.lst (iO .aD (kc ks) ds))else am|_=>am
section
variable {X:Cx}{π:Zaa}{σ:St}{H:Hp}{s:ψ}
theorem Di(I:Inv X π σ H s):∀{ds:List D}{c:List ω}{ks:List Str},az X.K H vs ds->Vals vs c->qz ds=Z ks->jn s.heap c ks:=by induction vs with|nil=>intro ds c ks r q h;induction r using sh;induction q using gM;exists h;trivial|cons v vs e=>intro ds c ks r q h;induction r using oQ with|cons r t=>induction q using eL with|cons q u=>
    refine bS h λx d h=>bS h λxs f h=>?_
    exists h;refine⟨?_,e t u f⟩;induction r using gp with
    |@tup a ws es z g=>induction g using az.casesOn with
     |nil=>injection d|cons i B=>induction i using gp with
      |str y C=> exists d;cases q;obtain⟨c,j,⟨o,m,p,n,w⟩,_⟩:=I.tuple z;induction j using eL with|cons A E=>obtain⟨t',rfl⟩:=A;exact⟨a,o,_,n,_,W,m,p,w,by simp;rfl⟩
      |_=>injection d
    |_=>injection d
theorem KZ{K:au}{vs:List V}{ds:List D}(r:az K H vs ds):∀{is:List Nat},(∀i∈is,i<ds.length)->az K H (is.map λi=>vs.getD i .aD) (is.map λi=>ds.getD i .aD)|[],_=>.nil|i::is,h=>by have c:=h i bZ;obtain⟨v,d,e⟩:=r.get (cF c);refine .cons ?_ (KZ r λj f=>h j (b8 _ f));show Rep K H (vs.getD i .aD) (ds.getD i .aD);rw[pY,pY,d,cF c];exact e
end
noncomputable def nR(n:Nat):rH (Array Nat)->Bool|.ret p=>p.toList.all λi=>decide (i<n)|.ask _ _ k=>nR n (k be)&&nR n (k bi)
theorem K0{n:Nat}{lt:Nat->Nat->Bool}:∀(t:rH (Array Nat)),nR n t=be->∀i∈(jP lt t).toList,i<n
 |.ret p,h,i,c=>by have:=hY.mp h i c;simpa using this|.ask a b k,h,i,c=>by
  simp only[nR,cV]at h;have d:nR n (k (lt a b))=be:=by cases lt a b;exact h.2;exact h.1
  exact K0 (k (lt a b)) d i c
def Yg:nR 2 (jF 2)=be:=by decide+kernel
def Yh:nR 4 (jF 4)=be:=by decide+kernel
def Yi:nR 3 (jF 3)=be:=by decide+kernel
def Yj{n:Nat}(c:¬n<2)(d:n<=4):nR n (jF n)=be:=by
 have:n=2\/n=3\/n=4:=by omega
 rcases this with e|e|e;·rw[e];exact Yg
 ·rw[e];exact Yi
 ·rw[e];exact Yh
noncomputable def sX(n:Nat):rH (Array Nat)->Bool|.ret p=>decide (p.toList.length<=n)|.ask _ _ k=>sX n (k be)&&sX n (k bi)
theorem K1{n:Nat}{lt:Nat->Nat->Bool}:∀{t:rH (Array Nat)},sX n t=be->(jP lt t).toList.length<=n
 |.ret p,h=>of_decide_eq_true h|.ask a b k,h=>by
  simp only[sX,cV]at h;have c:sX n (k (lt a b))=be:=by cases lt a b;exact h.2;exact h.1
  exact K1 (t:=k (lt a b)) c
def Yk{n:Nat}(c:¬n<2)(d:n<=4):sX 4 (jF n)=be:=by
 have:n=2\/n=3\/n=4:=by omega
 rcases this with e|e|e;·rw[e];decide+kernel
 ·rw[e];decide+kernel
 ·rw[e];decide+kernel
theorem K2:∀{vs:List V}{us:List ω},Vals vs us->∀{is:List Nat},(∀i∈is,i<vs.length)->Vals (is.map λi=>vs.getD i .aD) (is.map λi=>us.getD i eJ)|vs,us,r,[],_=>.nil|vs,us,r,i::is,h=>by have c:=h i bZ;obtain⟨u,d,e⟩:=r.get (cF c);refine .cons ?_ (K2 r λj f=>h j (b8 _ f));show L2.RelV (vs.getD i .aD) (us.getD i eJ);rw[pY,pY,d,cF c];exact e
def Yl{ks:List Str}(h:ks.Nodup)(d:i<ks.length)(f:j<ks.length)(c:i≠j):(ks.getD i ""==ks.getD j "")=bi:=by
 rw[pY,pY,cF d,cF f];refine beq_eq_false_iff_ne.mpr λe=>c ?_;have g:ks[i]=ks[j]:=e;have m:=Zxh.mp (A_.mp h);rcases Zxi c with q|q;·exact absurd g (m i j d f q)
 ·exact absurd g.symm (m j i f d q)
section
variable {X:Cx}
def K3:JC X (.builtin "sorted") nQ:=⟨sv λ{J}{s}{σ}{H}{x}{u}{Q}{dx}{d} I O r e q=>by
 induction r using gp with|@lst a vs ds h g=>
  cases O;refine bS (show(qz ds).bind (λks=>if ds.length<=4/\ks.Nodup then Z (D.lst (iO .aD (kc ks) ds))else am)=Z d from e) λks U w=>bR w λY w=>?_
  exists w;obtain⟨L,y⟩:=Y;have M:=g.length;obtain⟨f,m,p⟩:=Inv.oU I h;have z:f.length=vs.length:=m.length.symm;have T:=Di I g m U;have Ym:=T.len;refine Ye (lt:=kc ks) p 'c' (λh' kp c=>?_) ?_;·have A:=T.mono kp;refine aJ A.KU λfs f1 f2 f3=>⟨tuples' be,λQ hQ=>PySem.W.kat_kind (T:=FW "str") f1 'c' (λv hv=>?_) (by exact W) hQ,λi j C B hj E hC=>Yf (A.get B) (A.get hj) (Yl y 'c' 'c' E) hC⟩;obtain⟨x,t,rfl⟩:=f3 v hv;exact Zy4
  ·have both:Vals (iO V.aD (kc ks) vs) (iO eJ (kc ks) f)/\az X.K H (iO V.aD (kc ks) vs) (iO D.aD (kc ks) ds)/\(iO V.aD (kc ks) vs).length<=4:=by
    unfold iO;rw[z,M];by_cases c:ds.length<2;·rw[if_pos c,if_pos c,if_pos c];exact⟨m,g,by lia⟩
    ·rw[if_neg c,if_neg c,if_neg c];have N:=K0 (lt:=kc ks) _ (Yj c L);refine⟨K2 m λi B=>by rw[M];exact N i B,KZ g N,?_⟩;rw[aG];exact K1 (Yk c L)
   obtain⟨b1,b2,b3⟩:=both;exact JJ I (c3 b3 (by exact gW ..)) b1 b2 q|_=>injection e⟩
end
section
variable {X:Cx}{x:Str}{pos:Pos}
def Yn{j:Pos}{c:Scope}(i:Nat)(hN:X.N.Nodup)(Y:JI X J iter fi)(L:∀C d f v,JG (cw X c w N' C d f v) J gt/\JF (cw X c w N' C d f v) A fc/\JE (cw X c w N' C d f v) B fe)(M:X.N[i]?=Z x)(hx:Loc X.env.scope x)(m:oF c X.env=pure w)(r:∀y∈c.names,y.2≠ .cell)(t:c.kind=.function)(g:∀y∈c.names,y.2=.local->c.names.lookup y.1=Z .local)(Q:jd X.env.cells w)(E:jf w (ky c X.env).names)(I:gv X c N' cap)(hc:X.calm=be)(T:d4 (.ListComp B [⟨J,iter,A,0⟩] c pos) (Z (.Name x pos')) j.line X.env=pure be)(hf:X.fn x=be\/X.env.scope.names.lookup x=Z .local):KS X (.Assign [.Name x pos'] (.ListComp B [⟨J,iter,A,0⟩] c pos) j) (eE i (lZ (ez cap fi gt fc fe))):=⟨cM (Wx hN M hx hc Y.h m r t g Q E I (λC d f v=>aQ (L C d f v) λu U h3=>⟨u.h,U.h,h3.h⟩) (qt Y.s) T hf) λDn σ H z=>aS z λρ O o R e q=>by refine bS e λds u e=>?_;cases e;refine bS u λYo U u=>bR u λhn u=>?_;cases u;refine⟨fz ρ,ds,R.fz,U,λvs H1 p s1 hp r1=>?_⟩;have S:=SO.of R.ls s1;obtain⟨R',S'⟩:=(R.mono S).new i hp (az.hide (R.mono S).ls r1 hn);exact q _ _ _ (S.same.trans S') R'⟩
def qA:Zad:=k1 λd=>match d with|.int i=>Z (.int i)|.bl k=>Z (.int (if k then 1 else 0))|_=>am
theorem K4:JC X (.type "int") qA:=⟨B7 λ{H}{x}{Q}{c}{d} r e q=>by induction r using gp with|int i=>exists e;exact⟨_,HK,.inl ⟨i,W,q _ H 'v' (.int _)⟩⟩|bl k=>exists e;exact⟨_,HK,.inr ⟨k,W,q _ H 'v' (.int _)⟩⟩|_=>injection e⟩
end
end DL
namespace HT
open PySem PySem.Spec PyProof.Rows L2
end HT
namespace DL
open PySem PySem.Spec PyProof.Rows L2
noncomputable def qB(i:Nat)(c:aj):aj:=match c[i]? with|some (Z (.ow am ds))=>c.set i (Z (.bY (.lst ds)))|_=>c
def RO.K5{K:au}{H H2:Hp}{w:St}{g:aj}{O:List Λ}(R:RO K H w g O){i:Nat}{κ:Option (List Key)}{ds:List D}{a:Λ}(e:g[i]?=Z (Z (.ow κ ds)))(y:w[i]?=Z (Z (.ref a)))(E:a∈O)(t:∀b,b≠a->H2 b=H b) (hr:av 'r' (aq H2 (O.filter λb=>decide (b≠a)))->Rep K (aq H2 (O.filter λb=>decide (b≠a))) (.ref a) d):RO K H2 w (g.set i (Z (.bY d))) (O.filter λb=>decide (b≠a))/\av 'r' (aq H2 (O.filter λb=>decide (b≠a))):=by
 have B:i<g.length:=(bt.mp e).1;have sub:∀b,b∈O.filter (λb=>decide (b≠a))↔b∈O/\b≠a:=λb=>by simp[eR]
 have S:av 'r' (aq H2 (O.filter λb=>decide (b≠a))):=λb o q=>by obtain⟨c,I⟩:=eg q;rw[bj λz=>c ((sub b).mp z).1,t b λz=>c (by rw[z];exact E)];exact I
 have old:∀(j:Nat)(x:SD),(g.set i (Z (.bY d)))[j]?=Z (Z x)->(j=i/\x=.bY d)\/(j≠i/\g[j]?=Z (Z x)):=λj x h=>by
  by_cases m:i=j;·subst m;rw[gq B]at h;cases h;exact .inl ⟨W,W⟩
  ·rw[c4 m]at h;exact .inr ⟨bW m,h⟩
 refine⟨⟨by rw[d9];exact R.len,λb c=>by rw[t b ((sub b).mp c).2];exact R.ls b ((sub b).mp c).1,λj d h=>?_,λj κ es h=>?_,λj k κ κ' es fs b f p J L=>?_,R.xt.of (λj κ es h=>?_) S λA M o=>⟨λb c=>have z:b≠a:=λz=>o i κ ds a e y (z▸c);⟨(sub b).mpr ⟨M b c,z⟩,t b z⟩,λj κ es b f p=>?_⟩⟩,S⟩;rotate_left 3
 ·rcases old j _ h with⟨_,q⟩|⟨_,h⟩;·injection q
  ·exact⟨h,W⟩
 ·rcases old j _ f with⟨_,q⟩|⟨_,f⟩;·injection q
  ·exact o j κ es b f p
 ·rcases old j _ h with⟨rfl,q⟩|⟨m,h⟩
  ·cases q;exact⟨.ref a,y,hr S⟩
  ·obtain⟨v,u,C⟩:=R.bY j d h;exact⟨v,u,C.mono S⟩
 ·rcases old j _ h with⟨_,q⟩|⟨m,h⟩
  ·injection q
  ·refine cv (R.ow j κ es h) λb us u C N Q T=>?_;have r:b≠a:=λz=>by subst z;exact m (R.inj j i _ _ es ds b h e u y)
   exact⟨b,us,u,(sub b).mpr ⟨C,r⟩,by rw[t b r];exact N,Q.mono S,T⟩
 ·rcases old j _ f with⟨_,q⟩|⟨_,f⟩
  ·injection q
  ·rcases old k _ p with⟨_,q⟩|⟨_,p⟩
   ·injection q
   ·exact R.inj j k _ _ es fs b f p J L
def RO.drop{K:au}{H:Hp}{g:St}{c:aj}{O:List Λ}(R:RO K H g c O)(i:Nat):∃j,RO K H g (qB i c) j/\av 'r' (aq H j):=by cases f:iC i c with
  | none=>
    have e:qB i c=c:=by
      unfold qB;unfold iC at f;split at f;·injection f
      ·rename_i h;first
         | rfl
         | (split;·rename_i ds m;exact absurd m (h ds)
            ·rfl)
    rw[e];exact⟨O,R,av.refl _⟩| some ds=>
    have d:=qx f;have e:qB i c=c.set i (Z (.bY (.lst ds))):=by unfold qB;rw[d]
    rw[e];exact bV (R.own i ds d) λa vs p q r t=>⟨_,R.K5 d p q (λ_ _=>rfl) λS=>.lst (.inl (by rw[bj λz=>by simp at z];exact r)) (t.mono S)⟩
section
noncomputable def lT:List D->Option 'u'|[]=>Z []|d::r=>match d with|.int i=>(lT r).map (i:: ·)|_=>am
theorem K6:∀{ds:List D}{ns:List Int},lT ds=Z ns->ds=ns.map D.int:=by intro ds;induction ds with|nil=>intro ns h;exists h;rfl|cons d r c=>intro ns h;cases d with|int i=>obtain⟨m,g,j⟩:=bQ.mp (show(lT r).map (i:: ·)=Z ns from h);subst j;rw[c g];rfl|_=>injection h
def xZ{K:au}{H:Hp}(ns:List Int):∀{vs:List V}{c:List ω},az K H vs (ns.map D.int)->Vals vs c->uE c ns:=by induction ns with|nil=>intro vs c r q;cases r;induction q using gM;exact .nil|cons n m d=>intro vs c r q;cases r with|cons g t=>induction g using lJ;induction q using eL with|cons h i=>obtain⟨tk,rfl⟩:=h;exact .cons n tk (d t i)
end
end DL
namespace HT
open PySem PySem.Spec PyProof.Rows L2
end HT
namespace DL
open PySem PySem.Spec PyProof.Rows L2
section
noncomputable def sY:List D->List D->List D|x::xs,y::ys=>.tup [x,y]::sY xs ys|_,_=>[]
def Yp{K:au}{H:Hp}{J:It}{ds:List D}(h:o_ K J H [] ds):Wk K J H ds:=λH' s=>by obtain⟨f,j⟩:=h H' [] (by rw[jj,jj];exact s) (λa m=>by cases m);refine⟨λi d q=>?_,j⟩;obtain⟨g,y⟩:=f i d q;refine⟨g,λx c t=>?_⟩;obtain⟨S,r⟩:=y x c t;have e:=S.same;rw[jj,jj]at e;rw[jj]at r;exact⟨e,r⟩
end
section
noncomputable instance(i j:Int):Decidable (HB i j):=by unfold HB;infer_instance
end
section
variable {X:Cx}{e:Expr}{pos:Pos}{fo:Zaj}{f:Zaf}{x:Str}
noncomputable def yN(i:Nat)(c:aj):Option D:=match c[i]? with|some (Z (.bY d))=>Z d|_=>am
def Yq(h:yN i c=Z d):c[i]?=Z (Z (.bY d)):=by
 unfold yN at h;split at h;·rename_i q;exists h;exact q
 ·injection h
def yO(i:Nat)(f:Zaj):Zal:=λc=>(yN i c).bind λa=>(f c).bind λb=>match a,b with|.int u,.int v=>Z (.aF (c.set i (Z (.bY (.int (u+v))))))|_,_=>am
def Yr(i:Nat)(d:X.N.Nodup)(h:cT X e fo)(g:X.N[i]?=Z x)(j:Loc X.env.scope x)(m:X.fn x=be\/X.env.scope.names.lookup x=Z .local):KS X (.AugAssign (.Name x pos') .Add e pos) (yO i fo):=⟨cM (SW d g j h.h SY m) λI J H z=>aS z λp O o R c q=>by refine bS c λa r c=>bS c λb t c=>?_;obtain⟨v,A,B⟩:=R.bY i a (Yq r);cases a with
  |int u=>cases b with
   |int w=>
    exists c;induction B using lJ;refine⟨.int u,A,p,O,.int w,R,t,λy C S E=>?_⟩;induction E using lJ;exact⟨u,w,W,W,q _ C O S.same ((R.mono S).set i (.int _))⟩|_=>injection c
  |_=>first|cases c|(cases b<;>cases c)⟩
end
section
variable {X:Cx}{c:Expr}{body:List Stmt}{pos:Pos}{t:Zae}{g:Zal}
def ig(t:Zae)(g:Zal):Nat->Zal|0,_=>am|n+1,e=>(t (fz e)).bind λb=>if b=be then(g e).bind λo=>match o with|.aF ρ'=>ig t g n ρ'|.cnt ρ'=>ig t g n ρ'|.brk ρ'=>Z (.aF ρ')|.ret d=>Z (.ret d) else Z (.aF e)
def Ys(N:Nat)(L:JT X c t)(M:KB X body g)(Q:PassesOwn 'd' X.A X.env X.xe:=by exact Zxj):KS X (.While c body [] pos) (ig t g N):=⟨cM (S5 Q L.h M.h) λT σ H z=>aS z λU O o R Y q=>by refine⟨λm i H'=>∃ρ' j,RO X.K H' i ρ' j/\av 'r' (aq H' j)/\ig t g m ρ'=Z o,⟨N,U,O,R,av.refl _,Y⟩,?_⟩;rintro m i H' ⟨ρ',j,C,s',e⟩;cases m with|zero=>injection e|succ m=>refine bS e λb h1 e=>⟨fz ρ',b,C.fz,h1,λE s1=>?_⟩;have S:=SO.of C.ls s1;have I:qw X.K T E j o:=q.mono (s'.trans S.same);cases b with
   |true=>
    rw[if_pos W]at e;dsimp only;rw[if_pos W];refine bS e λJ h2 e=>⟨λx H2=>∃f O2,RO X.K H2 x f O2/\av (aq E j) (aq H2 O2)/\ig t g m f=Z o,λx H2 z=>ay z λf O2 R2 S2 e2=>⟨m,uz m,f,O2,R2,s'.trans (S.same.trans S2),e2⟩,ρ',j,J,C.mono S,h2,?_⟩;cases J with
    |aF f=>exactλp y B r u=>⟨f,B,u,r,e⟩|cnt f=>exactλp y B r u=>⟨f,B,u,r,e⟩|brk f=>exists e;exactλp y B r u=>I p y B r u|ret d=>exists e;exactλv y r u=>I v y r u
   |false=>
    rw[if_neg dg]at e;dsimp only;rw[if_neg dg]
    exists e;exact I i E j (av.refl _) (C.mono S)⟩
end
abbrev K7:=Out ⊕ (Str×ai)
abbrev DX:=D ⊕ Str
end DL
namespace DL
open PySem PySem.Spec PySem.Calls PyProof.Rows L2 PySem.W PySem.Builtin PySem.Builtin.ObjectAttr PySem.Builtin.Getset_descriptor
end DL
namespace DL
open PySem PySem.Spec PyProof.Rows L2
def Yt(K:au)(i:Nat)(a:Λ)(f:Zae):TT:=λc H Q=>∃d b,cD K H c d/\c[i]?=Z (Z (.ref a))/\f d=Z b/\∀H',av H H'->Q b H'
abbrev HT(X:Cx)(i:Nat)(a:Λ)(e:Expr)(f:Zae):Prop:=PT X e (Yt X.K i a f)
end DL
namespace DL
open PySem PySem.Spec PyProof.Rows L2 PySem.W
end DL
namespace DL
open PySem PySem.Spec PyProof.Rows L2
abbrev sZ:=aK ⊕ Str
def Yu(K:au)(ad:Str->St->Hp->Prop)(e:Ends)(H:Hp)(O:List Λ):sZ->Prop|.inl o=>qw K e H O o|.inr c=>∀d H',av 'r' H'->ad c d H'
def Yv(K:au)(ad:Str->St->Hp->Prop)(g:aj->Option sZ):TS:=λd e H=>∃c O o,RO K H e c O/\g c=Z o/\Yu K ad d H O o
structure KX(X:Cx)(ad:Str->St->Hp->Prop)(st:Stmt)(g:aj->Option sZ):Prop where h:PS X st (Yv X.K ad g)
section
theorem qC{ks:List Key}{vs:List V}(c:ks.length=vs.length):(ks.zip vs:List (Key×V)).length=ks.length:=by rw[rE];grind
noncomputable def atK:List Key->List D->Key->Option D|k::ks,v::vs,j=>if k=j then Z v else atK ks vs j|_,_,_=>am
theorem s_{K:au}{H:Hp}:∀{ks:List Key}{vs:List V}{ds:List D},az K H vs ds->∀(j:Key),ks.length=vs.length->(∀d,atK ks ds j=Z d->∃v,gQ (ks.zip vs:List (Key×V)) j=Z v/\Rep K H v d)/\(atK ks ds j=am->gQ (ks.zip vs:List (Key×V)) j=am)
 |[],vs,ds,_,j,_=>⟨λd h=>(by injection h),λ_=>rfl⟩|k::ks,[],_,_,j,f=>by simp at f|k::ks,v::vs,_,.cons (d:=d0) (ds:=c) r t,j,f=>by
  have i:=s_ (ks:=ks) t j (by simpa using f);show(∀d,(if k=j then Z d0 else atK ks c j)=Z d->∃g,gQ ((k,v)::ks.zip vs:List (Key×V)) j=Z g/\Rep K H g d)/\((if k=j then Z d0 else atK ks c j)=am->gQ ((k,v)::ks.zip vs:List (Key×V)) j=am);by_cases e:k=j;·rw[if_pos e,vb (by rw[e])];exact⟨λd h=>(by exists h;exact⟨v,W,r⟩),λh=>(by injection h)⟩
  ·rw[if_neg e,vc (by intro z;exact e z)];exact i
end
section
variable {X:Cx}{a:Expr}
def K8(a:Λ)(ob:Obj)(kvs:List (Key×V)):It:=⟨λi H=>H a=Z (.dM ob (.dK kvs))/\∃c,kvs[i]?=Z c,λi H x H'=>H'=H/\∃c,kvs[i]?=Z c/\x=kV c.1,λi H=>H a=Z (.dM ob (.dK kvs))/\kvs.length=i⟩
def tf{c:Zaa}{d:St}{H:Hp}{s:ψ}(I:Inv X c d H s){a:Λ}{ob:Obj}{kvs:List (Key×V)}(h:H a=Z (.dM ob (.dK kvs))):s.heap.get? a=Z ob/\(a==iu)=bi/\∃vs ep,KV kvs vs/\Heap.DictAt (h7 X.prog X.w) s.heap a vs ep:=by refine gz (I.aV a _ h) λe m f z=>ax z λvs g i=>?_;obtain⟨ep,j⟩:=i.dictAt;exact⟨e,f,vs,ep,g,j⟩
def K9{K:au}{H:Hp}{k:Key}(h:nE k=be):Rep K H (kV k) (kD k):=by cases k with|inl i=>exact .int i|inr x=>exact .str x (of_decide_eq_true h)
def vQ{K:au}{H:Hp}{v:V}{k:Key}(h:mG d=Z k)(r:Rep K H v d):v=kV k/\nE k=be/\d=kD k:=by induction r using gp with|int i=>exists h;exact⟨W,W,W⟩|str x c=>exists h;exact⟨W,decide_eq_true c,W⟩|_=>injection h
def K_(h:(h7 P w).is k u=be):L2.RelV (kV k) u:=by
 rcases mu h with⟨i,t,rfl,rfl⟩|⟨x,t,rfl,rfl⟩;·exact⟨t,W⟩
 ·exact⟨t,W⟩
theorem Yw{P:a8}{w:World}{K:au}{tg:Expr}(a m:Λ)(ob:Obj)(kvs:List (Key×V))(ep:Nat)(B:∃es,ob.data=.dict es ep):Turn P w K tg (K8 a ob kvs) [m] m (λi h=>h.IsKeyIter m a i kvs.length ep) where
 mem:=by exact .head _
 obj:=λi h st b x=>by
  have e:b=m:=by simpa using x
  subst e;exact aJ st λo e c d=>⟨o,e,λv z=>by rw[d]at z;injection z⟩
 keep:=λi h h' st k=>by obtain⟨o,e,r⟩:=st;exact⟨o,k m (by exact .head _) o e,r⟩
 item:=by
  intro X U hw Y hc i g s σ H E I O st hg;subst U hw Y;obtain⟨y,kv,Q⟩:=hg;refine aQ (tf I y) λg1 g2 t=>cA t λvs A T C=>?_;have f:A=ep:=by
   refine bV (id C) λo es j _ q2 _=>?_;rw[g1]at j
   exists j;obtain⟨pa,J⟩:=B;rw[q2]at J;cases J;rfl
  subst f;have L:kvs.length=vs.length:=KV.length T;have ia:i<vs.length:=by rw[<-L];exact(bt.mp Q).1
  obtain⟨⟨k,u⟩,hu⟩:∃q,vs[i]?=Z q:=⟨_,cF ia⟩
  have hk:k=kv.1:=by
   have q:=KV.keys T;have j:(kvs.map (·.1))[i]?=(vs.map (·.1))[i]?:=by rw[q]
   rw[bJ,bJ,Q,hu]at j;exact(ao j).symm
  refine iy (O m (by exact .head _)) λf0 f1 f2 f3 f4 f5=>wpAny_pyNext_dict_item (by rw[<-L];exact st) C hu λkey h' M N sb=>?_;have I1:Inv X g σ H {s with heap:=h'}:=I.turned (t':=s.toks) (λb o x e=>(sb.2 b x).trans e) f0 f1 f3 f4 f5;refine aJ (id N) λo e c d=>⟨key,W,xS (s:={s with heap:=h'}) e c d (by exact W) ⟨kV kv.1,H,I1,?_,⟨W,kv,Q,W⟩,by rw[L];exact N,λb x=>(O b x).1⟩⟩
  rw[<-hk];exact K_ M
 done:=by
  intro X U hw Y hc i g s σ H E I O st hg;subst U hw Y;obtain⟨y,Q⟩:=hg;refine aQ (tf I y) λg1 g2 t=>cA t λvs A T C=>?_;have f:A=ep:=by
   refine bV (id C) λo es j _ q2 _=>?_;rw[g1]at j
   exists j;obtain⟨pa,J⟩:=B;rw[q2]at J;cases J;rfl
  subst f;have L:kvs.length=vs.length:=KV.length T;exact iy (O m (by exact .head _)) λf0 f1 f2 f3 f4 f5=>wpAny_pyNext_dict_end (I.ok.hd hc) (by rw[<-L];exact st) C (Gw.mpr 'c') λh' eb=>⟨W,I.turned (t':=s.toks) (λb o x e=>eb b o x e) f0 f1 f3 f4 f5⟩
 self:=λ_ _ _ _ _ st h=>wpAny_pyIter_keyiter st h
def Yx:D->Option (List D)|.aW ks _=>Z (ks.map kD)|_=>am
def yP(f:Zaf):Zag:=λc=>(f c).bind Yx
def La(K:au)(H:Hp)(J:It)(ds:List D):Prop:=∃(a:Λ)(ob:Obj)(ks:List Key)(vs:List V),J=K8 a ob (ks.zip vs)/\ds=ks.map kD/\H a=Z (.dM ob (.dK (ks.zip vs)))/\ks.length=vs.length/\∀k∈ks,nE k=be
theorem Yy(C:DE X e f):PI X tg e (λw H R=>∃i ds,cD X.K H w i/\yP f i=Z ds/\∀J H',av H H'->La X.K H' J ds->R J H'):=by intro c s w H R I ⟨i,ds,Rn,j,q⟩;refine bS j λd E j=>aL (C c s w H (λv g=>av H g/\Rep X.K g v d) I ⟨i,d,Rn,E,λv H' s r=>⟨s,r⟩⟩) λu m z=>bV z λv g t L M N=>?_;induction N using gp with
 |@aW a ob ks vs ds h r O hn=>
  exists j;cases L;refine aQ (tf t h) λQ T y=>cA y λws ep U A=>?_;have x:=KV.length U;refine wpAny_pyIter_dict T A<|⟨m.heap.objs.size,[m.heap.objs.size],_,_,g,W,t.kept (t':=m.toks) λb o e=>cO _ e,Yw a _ ob _ ep ?_,⟨_,eo _ W,W,by rw[<-x];rfl⟩,λb Y=>?_,q _ g M ⟨a,ob,ks,vs,W,W,h,O,hn.2⟩⟩
  ·refine bV (id A) λo es B _ q2 _=>?_;rw[Q]at B
   exists B;exact⟨es,q2⟩
  ·have e:b=m.heap.objs.size:=by simpa using Y
   subst e;exact t.qh (a9 _) (t.aV.fresh (a9 _))|_=>injection j
end
theorem vR{k:Key}:∀{ks:List Key}{vs:List V}{i:Nat},ks.length=vs.length->ks[i]?=Z k->∃v,(ks.zip vs:List (Key×V))[i]?=Z (k,v)
 |[],_,_,_,h=>by simp at h|_::_,[],_,c,_=>by simp at c|a::ks,v::vs,0,_,h=>by
  have e:a=k:=by simpa using h
  exact⟨v,by rw[e];rfl⟩|a::ks,v::vs,i+1,c,h=>by obtain⟨u,d⟩:=vR (ks:=ks) (vs:=vs) (i:=i) (by simpa using c) (by simpa using h);exact⟨u,by simpa using d⟩
def Yz{K:au}{H:Hp}{O:List Λ}{J:It}{ds:List D}(h:La K 'r' J ds):o_ K J H O ds:=by
 intro H' m S t;obtain⟨a,ob,ks,vs,rfl,rfl,h,c,hs⟩:=h;have z:H' a=Z (.dM ob (.dK (ks.zip vs))):=(S.trans (dG H' m)) _ _ h;refine⟨λi d e=>?_,⟨z,by rw[qC c,aG]⟩⟩;rw[bJ,bQ]at e;obtain⟨k,f,rfl⟩:=e;obtain⟨v,g⟩:=vR c f;refine⟨⟨z,_,g⟩,λx p z=>aM z λq y=>ax y λu j r=>?_⟩;rw[g]at j
 exists j;subst q r;exact⟨SO.refl _ _,K9 (hs _ (cu f))⟩
section
variable {X:Cx}{a b:Expr}{pos:Pos}{fa fb:Zaf}
def iP:D->D->Option D|.aW ks vs,d=>(mG d).bind (atK ks vs)|_,_=>am
def Lc(m:X.A.units+1<cLine)(t:JE X a fa)(x:JE X b fb)(hs:oZ b=be:=by rfl):JE X (.Subscript a b pos) (ab iP fa fb):=⟨cR (Vi m t.h x.h (qs hs)) λN H Q z=>ay z λg d R e q=>by refine bS e λy B e=>bS e λC E e=>⟨g,y,R,B,λv O i I=>⟨g,C,R.mono i,E,λu H2 j J=>?_⟩⟩;have c:=I.mono j;induction c using gp with|@aW p ob ks vs ds h r L hn=>refine bS e λk M e=>?_;obtain⟨rfl,_⟩:=vQ M J;obtain⟨w,hw,f⟩:=(s_ r k L).1 d e;exact⟨p,w,W,.inl ⟨_,k,.inr ⟨ob,h⟩,W,hw.symm⟩,q w H2 (i.trans j) f⟩|_=>injection e⟩
def iQ:D->D->Option D|d,.aW ks vs=>(mG d).bind λk=>Z (.bl (atK ks vs k).isSome)|_,_=>am
def mN:D->D->Option D|d,.aW ks vs=>(mG d).bind λk=>Z (.bl (!(atK ks vs k).isSome))|_,_=>am
def Ld{ks:List Key}{vs:List V}(h:H p=Z (.dM ob (.dK (ks.zip vs))))(r:az X.K H vs ds)(c:ks.length=vs.length)(k:Key):∃o,r_ H p (kV k) o/\o.isSome=(atK ks ds k).isSome:=by refine⟨gQ (ks.zip vs:List (Key×V)) k,.inl ⟨_,k,.inr ⟨ob,h⟩,W,W⟩,?_⟩;cases q:atK ks ds k with|none=>rw[(s_ r k c).2 q];rfl|some d=>obtain⟨w,hw,_⟩:=(s_ r k c).1 d q;rw[hw];rfl
end
section
variable {X:Cx}{π:Zaa}{σ:St}{H:Hp}{s:ψ}{O:List Λ}
def Dl(u:HO):Prop:=∃kvs,u=.dK kvs\/∃o,u=.dM o (.dK kvs)
def Inv.swap(I:Inv X π σ H s)(h:∀b,H2 b=H b\/∃u f,H b=Z u/\H2 b=Z f/\Dl u/\d6 X.prog X.w H s.heap b f/\∀o v,X.kB b≠Z (.dM o v)):Inv X π σ H2 s:=by
 have none_of:∀b,H b=am->H2 b=am:=λb e=>by
  rcases h b with q|⟨u,_,q,_⟩;·rw[q];exact e
  ·rw[e]at q;injection q
 have d:∀b u,H b=Z u->¬Dl u->H2 b=Z u:=λb u e n=>by
  rcases h b with q|⟨j,_,q,_,z,_⟩;·rw[q];exact e
  ·rw[e]at q;exists q;exact absurd z n
 refine⟨I.ok,I.os,I.bare,⟨I.base.keep,I.base.slot,λb o e n g=>none_of b (I.base.free b o e n g),I.base.there,λb xs e=>d b _ (I.base.nh b xs e) (by rintro⟨_,z|⟨_,z⟩⟩<;>injection z),λb o u e=>?_,λb ps e=>?_⟩,I.loc,I.cell,none_of _ I.free,λx c e=>none_of _ (I.i6 x c e),λp i=>aQ (I.pin p i) λa b c=>⟨a,none_of _ b,c⟩,λb u e=>?_,I.len⟩
 ·rcases h b with q|⟨_,_,_,_,_,_,z⟩;·rw[q];exact I.base.jH b o u e
  ·exact absurd e (z o u)
 ·obtain⟨more,q⟩:=I.base.mw b ps e;exact⟨more,d b _ q (by rintro⟨_,z|⟨_,z⟩⟩<;>injection z)⟩
 ·have ok:d6 X.prog X.w H s.heap b u:=by
   rcases h b with q|⟨_,_,_,q,_,z,_⟩
   ·rw[q]at e;exact I.aV b u e
   ·rw[q]at e;exists e;exact z
  exact ok.mv (λ_ _ _ q=>q) (λc q=>d c _ q (by rintro⟨_,z|⟨_,z⟩⟩<;>injection z)) λc xs q=>d c _ q (by rintro⟨_,z|⟨_,z⟩⟩<;>injection z)
noncomputable def qD:Option HO->Bool|some (.dK _)=>be|_=>bi
noncomputable def jo(H:Hp)(h:Heap)(O:List Λ):Hp:=λb=>if b∈O then(match H b,h.get? b with|some (.dK kvs),Z ob=>Z (.dM ob (.dK kvs))|_,_=>am)else H b
theorem vS(c:b∉O):jo H h O b=H b:=if_neg c
theorem YA(c:b∈O)(e:H b=Z (.lst vs)):jo H h O b=am:=by unfold jo;rw[if_pos c,e]
theorem YB{K:au}(c:b∈O)(e:H b=Z (cj K b ks vs)):jo H h O b=am:=by unfold jo;rw[if_pos c,e]
def Dk{h:Heap}(c:b∈O)(e:H b=Z (.dK kvs))(q:h.get? b=Z ob):jo H h O b=Z (.dM ob (.dK kvs)):=by unfold jo;rw[if_pos c,e,q]
def Le:av 'r' (jo H h O):=λb o e=>by obtain⟨c,e⟩:=eg e;rw[vS c];exact e
def pb(H:Hp)(O:List Λ):List Λ:=O.filter λa=>!qD (H a)
def tj(H:Hp)(O:List Λ):List Λ:=O.filter λa=>qD (H a)
def kQ:b∈pb H O↔b∈O/\qD (H b)=bi:=by unfold pb;rw[eR];simp
def vT:b∈tj H O↔b∈O/\qD (H b)=be:=by unfold tj;rw[eR]
def Inv.Lf(I:Inv X π σ H s)(g:iA H O):Inv X (π++jI (pb H O) s.heap) σ (jo H s.heap O) s:=by
 refine Inv.swap (Inv.hide (O:=pb H O) I λa i=>g a (kQ.mp i).1) λb=>?_;by_cases f:b∈O
 ·obtain⟨u,d,j⟩:=g b f;rcases j with⟨vs,rfl⟩|⟨kvs,rfl⟩|⟨K,ks,vs,rfl⟩;·left;rw[YA f d,c8 (kQ.mpr ⟨f,by rw[d];rfl⟩)]
  rotate_left;·left;rw[YB f d,c8 (kQ.mpr ⟨f,by rw[d];rfl⟩)]
  ·right;refine aJ (Inv.o4 I d (.inr (.inl ⟨_,W⟩))) λo q _ m=>?_;exact⟨.dK kvs,.dM o (.dK kvs),by rw[bj λz=>by have:=(kQ.mp z).2;rw[d]at this;injection this];exact d,Dk f d q,⟨kvs,.inl W⟩,⟨q,m _ _ q λc xs e=>by rw[bj λz=>by have z:=kQ.mp z;obtain⟨u,h,d⟩:=g c z.1;rw[e]at h;exists h;rcases d with⟨_,z⟩|⟨_,z⟩|⟨_,_,_,z⟩<;>injection z];exact e⟩,λo v z=>by have:=I.base.jH b o v z;rw[d]at this;(injection this with this;injection this)⟩
 ·left;rw[vS f,bj λz=>f (kQ.mp z).1]
def Inv.Lg(I:Inv X π σ H s)(i:iA H O)(S:av (jo H s.heap O) H')(J:Inv X (π++jI (pb H O) s.heap) f H' s'):Inv X π f (lay H O H') s'/\∀b∈O,∀u,H' b=Z u->Dl u:=by
 have fz:∀b∈O,∀kvs,H b=Z (.dK kvs)->∃ob,H' b=Z (.dM ob (.dK kvs)):=λb c kvs e=>by exact aJ (Inv.o4 I e (.inr (.inl ⟨_,W⟩))) λo q _ _=>⟨o,S _ _ (Dk c e q)⟩
 have t:Inv X (π++jI (pb H O) s.heap) f (lay H (tj H O) H') s':=Inv.swap J λb=>by
  by_cases c:b∈tj H O
  ·right;obtain⟨g,z⟩:=vT.mp c;obtain⟨u,d,j⟩:=i b g;rcases j with⟨vs,rfl⟩|⟨kvs,rfl⟩|⟨K,ks,vs,rfl⟩;·rw[d]at z;injection z
   rotate_left;·rw[d]at z;injection z
   ·obtain⟨ob,q⟩:=fz b g kvs d;exact⟨_,.dK kvs,q,by rw[gC c];exact d,⟨kvs,.inr ⟨ob,W⟩⟩,(J.aV b _ q).2,λo v z=>by have:=I.base.jH b o v z;rw[d]at this;(injection this with this;injection this)⟩
  ·left;exact dO c
 obtain⟨x,hn⟩:=Inv.yB (O:=pb H O) I (λa y=>i a (kQ.mp y).1) t λb o h=>by
  obtain⟨c,h⟩:=eg h;by_cases m:b∈tj H O
  ·rw[gC m];exact h
  ·rw[dO m];refine S _ _ ?_;rw[vS λz=>?_]
   ·exact h
   ·cases q:qD (H b)with|true=>exact m (vT.mpr ⟨z,q⟩)|false=>exact c (kQ.mpr ⟨z,q⟩)
 refine⟨?_,λb c A p=>?_⟩
 ·have e:lay H (pb H O) (lay H (tj H O) H')=lay H O H':=by
   funext b;by_cases c:b∈O
   ·rw[gC c];by_cases z:qD (H b)=be
    ·rw[dO (λw=>by have:=(kQ.mp w).2;rw[z]at this;injection this),gC (vT.mpr ⟨c,z⟩)]
    ·rw[gC (kQ.mpr ⟨c,by simpa using z⟩)]
   ·rw[dO c,dO λw=>c (kQ.mp w).1,dO λw=>c (vT.mp w).1]
  rw[<-e];exact x
 ·obtain⟨u,d,j⟩:=i b c;have r:qD (H b)=bi->Dl A:=λz=>by have:=hn b (kQ.mpr ⟨c,z⟩);rw[dO (λw=>by have:=(vT.mp w).2;rw[z]at this;injection this),p]at this;injection this
  rcases j with⟨vs,rfl⟩|⟨kvs,rfl⟩|⟨K,ks,vs,rfl⟩
  ·exact r (by rw[d];rfl)
  rotate_left
  ·exact r (by rw[d];rfl)
  ·obtain⟨ob,q⟩:=fz b c kvs d;rw[q]at p
   exists p;exact⟨kvs,.inr ⟨ob,W⟩⟩
end
mutual
noncomputable def gE:D->Bool|.aW _ _=>bi|.tab .. =>bi|.obj .. =>bi|.tup xs=>iD xs|.lst xs=>iD xs|_=>be
noncomputable def iD:List D->Bool|[]=>be|x::xs=>gE x&&iD xs
end
def Dm(H:Hp)(O:List Λ):Prop:=∀b∈O,∀u,H b=Z u->Dl u
def Dm.out(h:Dm H O)(e:H b=Z u)(n:¬Dl u):aq H O b=Z u:=by
 by_cases c:b∈O;·exact absurd (h b c u e) n
 ·rw[bj c];exact e
def YC(n:iD (d::ds)=be):gE d=be/\iD ds=be:=by simpa [iD]using n
def Rep.YD{K:au}{H:Hp}{O:List Λ}(c:Dm H O){v:V}(r:Rep K H v d):gE d=be->Rep K 'r' v d:=by have e:∀{a xs},Rd H a (.lst xs)->Rd 'r' a (.lst xs):=λh=>h.imp (λh=>c.out h (by rintro⟨_,z|⟨_,z⟩⟩<;>injection z)) λy=>hZ y λo h=>⟨o,c.out h (by rintro⟨_,z|⟨_,z⟩⟩<;>cases z)⟩;exact r.go (P:=λd=>gE d=be) (Q:=λds=>iD ds=be) (λ_ h=>h.imp_left λh=>c.out h (by rintro⟨_,z|⟨_,z⟩⟩<;>injection z)) (λ_=>e) (λ_ h=>h.imp_left e) (λn=>by simp[gE]at n) (λn=>by simp[gE]at n) (λn=>by simp[gE]at n) (λn=>by simpa [gE]using n) YC
noncomputable def YE:Option SD->Option D|some (.bY d)=>Z d|some (.ow (Z ks) ds)=>Z (.aW ks ds)|_=>am
def dz(c:aj):ai:=c.map YE
theorem RO.dz{X:Cx}{s:ψ}(R:RO X.K H f g O)(I:Inv X j f H s):cD X.K (jo H s.heap O) f (dz g):=by refine⟨by rw[R.len];simp[DL.dz],λi d h=>?_⟩;unfold DL.dz at h;rw[bJ]at h;cases q:g[i]? with|none=>rw[q]at h;injection h|some o=>rw[q]at h;cases o with|none=>(injection h with h;injection h)|some x=>cases x with|bY d'=>cases h;obtain⟨v,c,e⟩:=R.bY i d q;exact⟨v,c,e.mono Le⟩|xt κ ds=>(injection h with h;injection h)|ow κ ds=>cases κ with|none=>(injection h with h;injection h)|some ks=>cases h;exact cv (R.ow i _ ds q) λa vs c e m r p=>aJ (Inv.o4 I m (.inr (.inl ⟨_,W⟩))) λob t _ _=>⟨.ref a,c,.aW (Dk e m t) (r.mono Le) (p ks W).1 (p ks W).2⟩
def vD(f:Zaf):Zaj:=λc=>(f (dz c)).bind λd=>if gE d=be then Z d else am
def YF(h:JE X e f):cT X e (vD f):=⟨by
 intro r s t H Q I ⟨w,O,d,R,i,q⟩;refine bS i λd' x i=>bR i λhn i=>?_;cases i;refine aL (h.h _ s t (jo H s.heap O) (λv g=>av (jo H s.heap O) g/\Rep X.K g v d) (Inv.Lf I R.ls) ⟨DL.dz w,d,R.dz I,x,λv g j m=>⟨j,m⟩⟩) λu s' z=>bV z λv g J y j m=>?_;obtain⟨A,hz⟩:=Inv.Lg I R.ls j J;have e:aq (lay H O g) O=aq g O:=by
  funext b;by_cases c:b∈O;·rw[c8 c,c8 c]
  ·rw[bj c,bj c,dO c]
 refine⟨v,lay H O g,A,y,q v _ ⟨?_,λa B=>gC B⟩ (by rw[e];exact m.YD hz hn)⟩;rw[e];intro b o p;obtain⟨c,p⟩:=eg p;rw[bj c];exact j _ _ (by rw[vS c];exact p)⟩
noncomputable def hq{c:Type}:List Key->List c->Key->c->List c|k::ks,x::xs,j,v=>if k=j then v::xs else x::hq ks xs j v|_,_,_,v=>[v]
noncomputable def gS:List Key->Key->List Key|k::ks,j=>if k=j then k::ks else k::gS ks j|[],j=>[j]
theorem Lh{c:Type}{j:Key}{v:c}:∀{ks:List Key}{vs:List c},ks.length=vs.length->(gS ks j).length=(hq ks vs j v).length
 |[],[],_=>rfl|k::ks,x::vs,h=>by
  unfold gS hq;split;·exact h
  ·rw[bz,bz,Lh (by simpa using h)]
theorem Dp:∀{ks:List Key},i∈gS ks j↔i∈ks\/i=j
 |[]=>by simp[gS]|k::ks=>by
  unfold gS;split;·rename_i e;subst e;simp only[a6];exact⟨.inl,λh=>h.elim id .inl⟩
  ·simp only[a6,Dp (ks:=ks)];exact or_assoc.symm
theorem Li:∀{ks:List Key},ks.Nodup->(gS ks j).Nodup
 |[],_=>by simp[gS]|k::ks,h=>by
  unfold gS;split;·exact h
  ·rename_i e;rw[d8]at h⊢;exact⟨λz=>(Dp.mp z).elim h.1 e,Li h.2⟩
theorem az.hq{K:au}{H:Hp}{v:V}{d:D}{j:Key}(r:Rep K H v d):∀{ks:List Key}{vs:List V}{ds:List D},az K H vs ds->az K H (hq ks vs j v) (hq ks ds j d)
 |[],[],_,.nil=>.cons r .nil|[],_::_,_,.cons _ _=>.cons r .nil|_::_,[],_,.nil=>.cons r .nil|k::ks,x::vs,_,.cons q t=>by
  unfold DL.hq;split;·exact .cons r t
  ·exact .cons q (az.hq r t)
theorem Lj:∀{ks:List Key}{vs:List V},ks.length=vs.length->ks.Nodup->putK (ks.zip vs:List (Key×V)) j v=(gS ks j).zip (hq ks vs j v)
 |[],[],_,_=>rfl|k::ks,x::vs,d,hn=>by
  rw[d8]at hn;have f:=Lj (j:=j) (v:=v) (ks:=ks) (vs:=vs) (by simpa using d) hn.2;unfold gS DL.hq;by_cases e:k=j
  ·subst e;rw[if_pos W,if_pos W];show putK ((k,x)::ks.zip vs) k v=(k,v)::ks.zip vs;unfold putK;rw[if_pos 'o'];rw[bG,if_pos W];congr 1;refine(uM λp g=>?_).trans (List.map_id _);rw[if_neg λz=>hn.1 ?_];·rfl
   ·have h:p.1∈ks:=(rz (a:=p.1) (b:=p.2) g).1;rwa [z]at h
  ·rw[if_neg e,if_neg e];have c:=e;show putK ((k,x)::ks.zip vs) j v=(k,x)::(gS ks j).zip (DL.hq ks vs j v);rw[<-f];unfold putK;rw[jE,decide_eq_false c,QN];split;·rw[bG,if_neg c]
   ·rfl
noncomputable def tm(i:Nat)(c:aj):Option (List Key×List D):=match c[i]? with|some (Z (.ow (Z ks) ds))=>Z (ks,ds)|_=>am
def Lk(h:tm i c=Z (ks,ds)):c[i]?=Z (Z (.ow (Z ks) ds)):=by
 unfold tm at h;split at h;·cases h;assumption
 ·injection h
section
variable {X:Cx}{e ke c a b:Expr}{pos np:Pos}{x:Str}{fv fk fo:Zaj}{t:Zae}{tt:aj->Option Bool}{g u:Zal}
structure KT(X:Cx)(c:Expr)(tt:aj->Option Bool):Prop where h:PT X c (λσ H Q=>∃ρ O b,RO X.K H σ ρ O/\tt ρ=Z b/\∀H',SO H H' O->Q b H')
def yQ(t:Zae):aj->Option Bool:=λd=>t (dz d)
def YG(h:JT X c t):KT X c (yQ t):=⟨by intro r s w H Q I ⟨y,O,d,R,A,q⟩;refine aL (h.h _ s w (jo H s.heap O) (λv i=>av (jo H s.heap O) i/\v=d) (Inv.Lf I R.ls) ⟨DL.dz y,d,R.dz I,A,λi j=>⟨j,W⟩⟩) λu s' z=>aJ z λi J j B=>?_;subst B;obtain⟨C,hz⟩:=Inv.Lg I R.ls j J;refine⟨lay H O i,C,q _ ⟨λb o m=>?_,λa E=>gC E⟩⟩;obtain⟨p,m⟩:=eg m;rw[bj p,dO p];exact j _ _ (by rw[vS p];exact m)⟩
noncomputable def vU(tt:aj->Option Bool)(g u:Zal):Zal:=λd=>(tt d).bind λc=>if c=be then g d else u d
theorem YH{a b:List Stmt}(i:KT X c tt)(j:KB X a g)(m:KB X b u):KS X (.If c a b pos) (vU tt g u):=⟨cM (uY i.h j.h m.h) λr v H z=>aS z λd O o R e q=>by refine bS e λk p e=>⟨d,O,k,R,p,λw S=>?_⟩;cases k with|true=>rw[if_pos W]at e;exact⟨d,O,o,R.mono S,e,q.mono S.same⟩|false=>rw[if_neg dg]at e;exact⟨d,O,o,R.mono S,e,q.mono S.same⟩⟩
noncomputable def vV(fo:Zaj):Zal:=λh=>(fo h).bind λd=>Z (.ret d)
def YI(h:cT X e fo):KS X (.Return (Z e) pos) (vV fo):=⟨cM (rS h.h) λm p H z=>aS z λi O o R e q=>by
  refine bS e λd j e=>?_
  exists e;exact⟨i,O,d,R,j,λv H' S r=>q v H' (S.same.trans (dG _ _)) (r.mono (dG _ _))⟩⟩
def pd(i:Nat)(fk fv:Zaj):Zal:=λh=>(fv h).bind λd=>(fk h).bind λk=>(tm i h).bind λp=>(mG k).bind λj=>if p.1.length<aA then Z (.aF (h.set i (Z (.ow (Z (gS p.1 j)) (hq p.1 p.2 j d)))))else am
theorem YJ{m:aj}{ks:List Key}(R:RO X.K H h m O)(y:m[i]?=Z (Z (.ow (Z ks) ds)))(A:h[i]?=Z (Z (.ref p)))(r:Rep X.K 'r' v d)(hz:ks.length<aA)(C:nE j=be):∃H',se H p (kV j) v H'/\RO X.K H' h (m.set i (Z (.ow (Z (gS ks j)) (hq ks ds j d)))) O/\aq H' O=aq H O:=by refine cv (R.ow i _ ds y) λT vs B E I J L=>?_;rw[A]at B;cases B;obtain⟨q,w⟩:=L ks W;have:=se.k (k:=j) (v:=v) I (by rw[qC q];exact hz);rw[Lj q w.1]at this;obtain⟨R2,M⟩:=R.Kk (κ':=Z (gS ks j)) y A E (az.hq (ks:=ks) (j:=j) r J) (λN z=>by exists z;exact⟨Lh q,Li w.1,λk Q=>(Dp.mp Q).elim (w.2 k) λe=>e▸C⟩);exact⟨_,this,R2,M⟩
structure YK(X:Cx)(st:Stmt)(g:Zal):Prop where h:PS X st (λDn σ H=>∃ρ O ρ',RO X.K H σ ρ O/\g ρ=Z (.aF ρ')/\∀H' O',av 'r' (aq H' O')->RO X.K H' σ ρ' O'->Dn.nx σ H')
theorem YL(i:Nat)(M:X.A.units+1<cLine)(Q:cT X e fv)(T:cT X ke fk)(U:X.N[i]?=Z x)(w:c6 X.env.scope x)(Y:'f'=bi)(C:'i'=bi)(hs:d4 e (Z (.Subscript (.Name x np) ke pos')) pos.line X.env=pure bi):YK X (.Assign [.Subscript (.Name x np) ke pos'] e pos) (pd i fk fv):=⟨cM (Vj M (er U w Y C) T.h Q.h hs) λDn σ H z=>aS z λJ O ρ' R m q=>by refine bS m λd h1 m=>bS m λk h2 m=>?_;obtain⟨⟨ks,ds⟩,h3,m⟩:=bind_some m;have B:=Lk h3;refine bS m λj hj r=>bR r λhz r=>?_;cases r;refine⟨J,O,d,R,h1,λv H1 E r1=>?_⟩;refine cA (R.ow i _ ds B) λp vs L _=>⟨.ref p,L,J,O,k,R.mono E,h2,λy H2 I r2=>?_⟩;obtain⟨rfl,hs,_⟩:=vQ hj r2;exact aJ (YJ ((R.mono E).mono I) B L (r1.mono I.same) hz hs) λH3 g R3 hh=>⟨p,H3,W,g,q _ O (by rw[hh];exact E.same.trans I.same) R3⟩⟩
def YM(i:Nat)(y:X.A.units+1<cLine)(B:cT X e fv)(C:cT X ke fk)(E:X.N[i]?=Z x)(r:c6 X.env.scope x)(I:'f'=bi)(v:'i'=bi)(hs:d4 e (Z (.Subscript (.Name x np) ke pos')) pos.line X.env=pure bi):KS X (.Assign [.Subscript (.Name x np) ke pos'] e pos) (pd i fk fv):=⟨cM (YL i y B C E r I v hs).h λT J H z=>aS z λL O o R w q=>by
  refine bS w λd U m=>bS m λk Y m=>bS m λp h3 m=>bS m λj _ m=>?_;have:∃ρ',o=.aF ρ':=by
   refine bR m λ_ m=>?_
   exists m;exact⟨_,W⟩
  obtain⟨ρ',rfl⟩:=this;exact⟨L,O,ρ',R,w,λH' M S Q=>q J H' M S Q⟩⟩
end
section
variable {X:Cx}{e:Expr}{pos:Pos}{x y:Str}{aR:List Stmt}{g:Zal}
structure KD(X:Cx)(e:Expr)(f:aj->Option (List Key×List D)):Prop where h:PE X e (λσ H Q=>∃ρ O z,RO X.K H σ ρ O/\f ρ=Z z/\∀vs H' p,SO H H' O->H' p=am->az X.K (aq H' O) vs z.2->Q (.ref p) (upd H' p (.dK (z.1.zip vs))))
noncomputable def qE:aj->Option (List Key×List D):=λ_=>Z ([],[])
theorem YN(h:True:=jD):KD X (.Dict [] [] pos) (λc=>qE c):=⟨C8 (fl:=λ_=>Z (([],[]):List Key×List D)) (ds:=Q7) (o:=λz _ vs=>.dK (z.1.zip vs)) (cR Vm λi H Q y=>ay y λc z R d q=>by
  exists d
  exactλp f=>q [] H p 'v' f .nil)⟩
def tp(i:Nat)(f:aj->Option (List Key×List D)):Zal:=λc=>(f c).bind λz=>if z.1.Nodup/\z.1.length=z.2.length/\z.1.all nE=be then Z (.aF (c.set i (Z (.ow (Z z.1) z.2))))else am
theorem YO(i:Nat)(d:X.N.Nodup)(h:KD X e f)(j:X.N[i]?=Z x)(m:Loc X.env.scope x)(hs:d4 e (Z (.Name x pos')) pos.line X.env=pure bi)(r:X.fn x=be\/X.env.scope.names.lookup x=Z .local):KS X (.Assign [.Name x pos'] e pos) (tp i f):=⟨cM (lF d j m h.h hs r) λB C H y=>aS y λt O o R e q=>by
  refine bS e λz u e=>bR e λhz e=>?_
  exists e;refine⟨t,O,z,R,u,λvs E p S v c=>?_⟩;obtain⟨w,A⟩:=(R.mono S).Kj (κ:=Z z.1) i v c λks e=>by exists e;exact⟨by rw[hz.2.1,c.length],hz.1,hY.mp hz.2.2⟩
  exact q _ _ _ (S.same.trans A) w⟩
def yR(i:Nat)(g:Zal):Zal:=λc=>match tm i c with|some z=>g (c.set i (Z (.bY (.aW z.1 z.2))))|none=>am
theorem YP(i:Nat)(h:KB X aR g):KB X aR (yR i g):=⟨by intro c s m H t I ⟨u,O,o,R,e,q⟩;unfold yR at e;cases f:tm i u with|none=>rw[f]at e;injection e|some z=>
  rw[f]at e;obtain⟨ks,ds⟩:=z;have d:=Lk f;refine cv (R.ow i _ ds d) λa vs w A j B p=>aJ (Inv.o4 I j (.inr (.inl ⟨_,W⟩))) λob r _ C=>?_;have E:Inv X c m (upd H a (.dM ob (mJ (Z ks) vs))) s:=Inv.swap I λb=>by
   by_cases z:b=a;·subst z;exact .inr ⟨_,_,j,br,⟨_,.inl W⟩,⟨r,C _ _ r λ_ _ e=>e⟩,λo v z=>by have:=I.base.jH b o v z;rw[j]at this;(injection this with this;injection this)⟩
   ·exact .inl (bu z)
  obtain⟨R2,S⟩:=R.K5 (H2:=upd H a (.dM ob (mJ (Z ks) vs))) d w A (λb J=>bu J) λS=>Rep.aW (by rw[bj λz=>by simp at z];exact br) (B.mono S) (p ks W).1 (p ks W).2;exact h.h c s m _ t E ⟨_,_,o,R2,e,q.mono S⟩⟩
def vX(i j:Nat):Zal:=λc=>(iC i c).bind λds=>(ds[ds.length-1]?).bind λd=>Z (.aF ((c.set i (Z (.own (ds.take (ds.length-1))))).set j (Z (.bY d))))
def YQ{apos cpos:Pos}(i j:Nat)(w:X.N.Nodup)(A:X.N[i]?=Z x)(B:c6 X.env.scope x)(C:X.N[j]?=Z y)(E:Loc X.env.scope y)(I:'f'=bi)(p:'i'=bi)(c:'s'=be)(hs:d4 (.Call (.Attribute (.Name x np) "pop" apos) [] [] cpos) (Z (.Name y pos')) pos.line X.env=pure bi)(J:X.fn y=be\/X.env.scope.names.lookup y=Z .local):KS X (.Assign [.Name y pos'] (.Call (.Attribute (.Name x np) "pop" apos) [] [] cpos) pos) (vX i j):=⟨cM (lF w C E (UU m_ Zxk Zxl U1 (er A B I p) W c) hs J) λY σ H z=>aS z λρ O o R f q=>by
  refine bS f λds L f=>bS f λd M f=>?_
  exists f;have h:=qx L;refine bV (R.own i ds h) λa vs r Q t m=>?_;obtain⟨v,T,U⟩:=m.get M;refine⟨.ref a,r,.inl ⟨W,vs,bX.of t⟩,a,vs,v,W,W,t,by rw[m.length];exact T,?_⟩;obtain⟨R2,u⟩:=R.chg h r Q (m.take (ds.length-1));rw[List.dropLast_eq_take,m.length];exact q _ _ O (by rw[u];exact av.refl _) (R2.set j (by rw[u];exact U))⟩
end
section
variable {X:Cx}{e:Expr}{p:Pos}
theorem Ll{k:Nat}(hr:bA k X.A):d3 X (c5 .In) iQ:=⟨by intro c s E H x y v u Q I j m ⟨J,L,d,i,t,e,q⟩;induction t using gp with
 |@aW p ob ks vs ds h r w hn=>
  refine bS e λk z e=>?_;obtain⟨rfl,_⟩:=vQ z i
  exists e;cases m;obtain⟨o,g,B⟩:=Ld (X:=X) h r w k;refine L2.BV (x3 hr) I g j λs' C=>⟨.bl o.isSome,H,C,W,?_⟩;rw[B];exact q _ H 'v' (.bl _)|_=>first|injection e|(cases i<;>injection e)⟩
theorem Lm{k:Nat}(hr:bA k X.A):d3 X (c5 .NotIn) mN:=⟨by intro c s E H x y v u Q I j m ⟨J,L,d,i,t,e,q⟩;induction t using gp with
 |@aW p ob ks vs ds h r w hn=>
  refine bS e λk z e=>?_;obtain⟨rfl,_⟩:=vQ z i
  exists e;cases m;obtain⟨o,g,B⟩:=Ld (X:=X) h r w k;refine L2.Vd (x3 hr) I g j λs' C=>⟨.bl (!o.isSome),H,C,W,?_⟩;rw[B];exact q _ H 'v' (.bl _)|_=>first|injection e|(cases i<;>injection e)⟩
end
noncomputable def dQ:Nat->D->Bool|n+1,.tup xs=>xs.all (dQ n)|_+1,.int _=>be|_+1,.str _=>be|_,_=>bi
def YR{K:au}{H:Hp}{vs:List V}:∀{ds:List D},az K H vs ds->∀p∈vs.zip ds,Rep K H p.1 p.2:=by induction vs with|nil=>intro ds _ p h;simp at h|cons v vs c=>intro ds r p h;induction r using oQ with|cons r t=>
   rw[Q8,a6]at h;rcases h with rfl|h;·exact r
   ·exact c t p h
theorem nS{K:au}{H:Hp}:∀(n:Nat){v:V}{d:D},Rep K H v d->dQ n d=be->dv K (gZ H) n v d|0,v,d,r,h=>by cases d<;>simp[dQ]at h|n+1,v,d,r,h=>by induction r using gp with|int i=>rfl|str x _=>rfl|tup q r=>refine⟨_,q.elim (λz=>.inl (qb.mpr z)) λz=>.inr (.inr z),r.length,λp c=>nS n (YR r p c) ?_⟩;exact hY.mp (show List.all _ _=be from h) _ (rz c).2|_=>simp[dQ]at h
section
variable {X:Cx}{H:Hp}{a:Λ}{A:Around}
def YS(h:H a=Z (.ext f))(u:World->(Λ->Option (List V))->Heap->Prop)(c:Λ)(ys:List V)(e:gZ H c=Z ys):gZ (upd H a (.ext u)) c=Z ys:=by rw[qb]at e⊢;rw[bu (Hc e h (by intro z;injection z))];exact e
def vY(c:A.units+9<cLine):(kH X.prog X.w).room A.in1:=by show A.in1.units+8<cLine;rw[units_in1];omega
end
section
variable {X:Cx}
def YT(h:KV kvs vs):∀{i:Nat}{c:Key×V},kvs[i]?=Z c->∃u,vs[i]?=Z (c.1,u)/\RelV c.2 u:=by induction h with|nil=>intro i c h;simp at h|@cons x y _ _ r t d=>intro i c h;cases i with|zero=>cases(show x=c by simpa using h);obtain⟨k,u⟩:=y;cases r.1;exact⟨u,W,r.2⟩|succ i=>obtain⟨u,g,j⟩:=d (show _ from by simpa using h);exact⟨u,by simpa using g,j⟩
theorem Ln{K:au}{H:Hp}:∀(ks:List Key),(∀k∈ks,nE k=be)->az K H (ks.map kV) (ks.map kD)|[],_=>.nil|k::ks,h=>.cons (K9 (h k bZ)) (Ln ks λk c=>h k (b8 _ c))
def YU{vs:List V}:∀{us:List ω},vs.length=us.length->(∀(j:Nat)(v:V)(w:ω),vs[j]?=Z v->us[j]?=Z w->L2.RelV v w)->Vals vs us:=by induction vs with
 |nil=>intro us h _;cases us with
  |nil=>exact .nil|cons=>injection h
 |cons v vs c=>intro us h g;cases us with|nil=>injection h|cons u us=>exact .cons (g 0 v u W W) (c (by simpa using h) λj v w d i=>g (j+1) v w (by simpa using d) (by simpa using i))
def Lo{k:Nat}(hr:bA k X.A):X.A.units+9<cLine:=by have:=hr.un;lia
end
def lU(n:Nat)(c:List Key)(d:List D):List Key->List D->Option Bool
 |k::ks,v::vs=>match atK c d k with
  |none=>Z bi|some y=>(cY n v y).bind λe=>(lU n c d ks vs).map (e&& ·)
 |_,_=>Z be
def v5(n:Nat):D->D->Option D|.aW ks vs,.aW c d=>if ks.length=c.length then(lU n c d ks vs).map .bl else Z (.bl bi)|_,_=>am
section
variable {X:Cx}{π:Zaa}{σ:L2.St}{H:Hp}{s:ψ}{A:Around}
theorem Lp(I:Inv X π σ H s){n:Nat}(B:A.units+n<cLine){f:List Key}{h:List V}(r':az X.K H h j)(i:f.length=h.length)(g':KV (f.zip h) p):∀{ks:List Key}{vs:List V}{ds:List D}{ws:List (Key×ω)}{b:Bool},az X.K H vs ds->ks.length=vs.length->KV (ks.zip vs) ws->lU n f j ks ds=Z b->PySem.W.KeqHits A s p ws b
 |[],vs,ds,ws,b,r,m,g,e=>by cases vs with|nil=>cases r;cases g;exists e;exact .nil|cons _ _=>simp at m
 |k::ks,[],ds,ws,b,r,m,g,e=>by simp at m|k::ks,v::vs,_,ws,b,.cons (d:=d) (ds:=ds) r t,m,g,e=>by rw[Q8]at g;cases g with|@cons _ y _ ws C E=>obtain⟨J,u⟩:=y;obtain⟨L,M⟩:=C;cases(show k=J from L);have ev:=KV.val g' k;unfold lU at e;cases q:atK f j k with
   |none=>
    rw[(s_ r' k i).2 q]at ev;rw[q]at e
    exists e;exact .miss ev.none_of|some y=>rw[q]at e;obtain⟨w,hw,x⟩:=(s_ r' k i).1 y q;rw[hw]at ev;obtain⟨T,z,N⟩:=gA.some_of ev;refine bS e λc O e=>?_;obtain⟨U,Q,rfl⟩:=bQ.mp e;exact .hit z (VE I n B M N r x O) (Lp I B r' i g' t (by simpa using m) E Q)
theorem YV{n:Nat}(hu:X.A.units+(n+1)<cLine):oS X (c5 .Eq) (v5 n):=by intro π s σ H x y v u Q I M N ⟨dx,dy,d,O,i,e,q⟩;induction O using gp with
 |@aW a ob ks vs ds h r m hn=>induction i using gp with
  |@aW a2 T c U nT Y i f hn2=>
   cases M;cases N;refine aQ (tf I h) λ_ p t=>cA t λws ep w B=>aQ (tf I Y) λ_ C t=>cA t λg ep2 E J=>?_;have l1:=KV.length w;have l2:=KV.length E;rw[qC m]at l1;rw[qC f]at l2;have j:(if ks.length=c.length then(lU n c nT ks ds).map D.bl else Z (.bl bi))=Z d:=e;by_cases L:ks.length=c.length;·rw[if_pos L]at j;obtain⟨b,hb,rfl⟩:=bQ.mp j;refine Zxm (r:=b) p C B.dictOf J.dictOf 'c' (λ_=>Lp I (n:=n) (by rw[units_in1];lia) i f E r m w hb) ⟨.bl b,H,I,?_,q _ H 'v' (.bl b)⟩;rw[show(ws.length==g.length)=be by simp;lia,rG];rfl
   ·rw[if_neg L]at j
    exists j;refine Zxm (r:=be) p C B.dictOf J.dictOf (by omega) (λz=>by lia) ⟨.bl bi,H,I,?_,q _ H 'v' (.bl bi)⟩;rw[show(ws.length==g.length)=bi by simp;omega];rfl|_=>injection e
 |_=>first|injection e|(cases i<;>injection e)
def YW{k:Nat}(hr:bA k X.A):d3 X (c5 .Eq) (v5 64):=⟨YV (by have:=hr.un;lia)⟩
theorem YX(h:JE X e f)(hn:jN e=be):JI X g e (yP f):=⟨λπ s σ H R I y=>ay y λc ds Rn d q=>Yy h.h π s σ H R I ⟨c,ds,Rn,d,λJ H' S z=>q J H' S (Yp (Yz (by rw[jj];exact z)))⟩,hn⟩
end
noncomputable def atT{c:Type}:List D->List c->D->Option c|k::ks,v::vs,d=>if k=d then Z v else atT ks vs d|_,_,_=>am
noncomputable def lV:List D->D->List D|k::ks,d=>if k=d then k::ks else k::lV ks d|[],d=>[d]
noncomputable def nU{c:Type}:List D->List c->D->c->List c|k::ks,x::xs,d,v=>if k=d then v::xs else x::nU ks xs d v|_,_,_,v=>[v]
theorem v7:∀{xs:List (D×Λ×ω)}{vs:List V},Vals vs (xs.map (·.2.2))->gA (atT (xs.map (·.1)) vs d) ((atKey xs d).map (·.2))|[],_,r=>by cases r;exact trivial|x::xs,_,r=>by cases r with|@cons v u vs us r t=>
   have c:=v7 (d:=d) t;show gA (if x.1=d then Z v else atT (xs.map (·.1)) vs d) _;unfold atKey at c⊢;by_cases e:x.1=d;·rw[if_pos e,Q9 (by simpa using e)];exact r
   ·rw[if_neg e,Q_ (by simpa using e)];exact c
theorem yS:∀{xs:List (D×Λ×ω)},(xs.map (·.1)).Nodup->(lB xs d b u).map (·.1)=lV (xs.map (·.1)) d
 |[],_=>rfl|x::xs,hn=>by
  rw[bG,d8]at hn;have c:=yS (d:=d) (b:=b) (u:=u) hn.2;show _=if x.1=d then x.1::xs.map (·.1)else x.1::lV (xs.map (·.1)) d;by_cases e:x.1=d;·rw[if_pos e,storedH_old (p:=x.2) (by unfold atKey;rw[Q9 (by simpa using e)];rfl),keys_map_putAt];rfl
  ·rw[if_neg e];unfold lB at c⊢;have f:atKey (x::xs) d=atKey xs d:=by unfold atKey;rw[Q_ (by simpa using e)]
   rw[f];split;·rename_i h;rw[if_pos h]at c;rw[bG,bG,c,show putAt d u x=x from if_neg e]
   ·rename_i h;rw[if_neg h]at c;rw[GL,bG,c]
theorem Lq(f:RelV v u):∀{xs:List (D×Λ×ω)}{vs:List V},(xs.map (·.1)).Nodup->Vals vs (xs.map (·.2.2))->Vals (nU (xs.map (·.1)) vs d v) ((lB xs d b u).map (·.2.2))
 |[],_,_,r=>by cases r;exact .cons f .nil|x::xs,_,hn,r=>by rw[bG,d8]at hn;cases r with|@cons g j vs us r t=>
   have c:=Lq (d:=d) (b:=b) f hn.2 t;show Vals (if x.1=d then v::vs else g::nU (xs.map (·.1)) vs d v) _;by_cases e:x.1=d;·rw[if_pos e,storedH_old (p:=x.2) (by unfold atKey;rw[Q9 (by simpa using e)];rfl),bG,map_putAt_of_not_mem xs d u (by rw[<-e];exact hn.1),bG,show putAt d u x=(x.1,x.2.1,u) from if_pos e];exact .cons f t
   ·rw[if_neg e];unfold lB at c⊢;have i:atKey (x::xs) d=atKey xs d:=by unfold atKey;rw[Q_ (by simpa using e)]
    rw[i];split;·rename_i h;rw[if_pos h]at c;rw[bG,bG,show putAt d u x=x from if_neg e];exact .cons r c
    ·rename_i h;rw[if_neg h]at c;exact .cons r c
def jQ{prog:a8}{w:World}{T:Type}[DecidableEq T](N:xr prog w T)(h:Heap)(d:Λ)(xs:List (T×Λ×ω)):Prop:=∃o es,h.get? d=Z o/\o.ExactDict/\o.data=.dict es xs.length/\es.toList=xs.map (AN N)/\(∀x∈xs,N.is h x.1 x.2.1)/\(xs.map (·.1)).Nodup
section
variable {prog:a8}{w:World}{T:Type}[DecidableEq T]{N:xr prog w T}{A:Around}{E:Zab}{s:ψ}{d a:Λ}{xs:List (T × Λ × ω)}{k:T}{v:ω}
def jQ.of{h:Heap}(c:jQ N h d xs):h.DictOfH N d xs:=gO c λo es g=>⟨o,es,_,g⟩
def YY(h:k∉xs.map (·.1)):atKey xs k=am:=by unfold atKey;rw[Zxn.mpr λx c=>by simpa usingλ(e:x.1=k)=>h (e▸List.mem_map_of_mem (f:=λx=>x.1) c)];rfl
def Lr{Q:Unit->ψ->Prop}(f:atKey xs k=am)(r:N.room A)(h:N.is s.heap k a)(t:jQ N s.heap d xs)(q:∀h',jQ N h' d (lB xs k a v)->lj d s.heap h'->Q () {s with heap:=h',toks:=s.toks+N.draws k})(hsz:xs.length<=aA):wpAny 'j' A (dictSet d (.ref a) v) Q E s:=by
 refine cv t λob es g H e i u=>aM u λB m=>?_;clear t u;unfold dictSet;refine wpAny_holding (υ (N.pyHash r h ?_));unfold dictSetHashed;refine wpAny_holding (υ (Zxo (s:={s with toks:=s.toks+N.draws k}) r h g e i B m (λC=>?_) λj p I=>?_))
 ·have c:=Zxp C;have J:=Zxq C;have hz:=size_of_entries i;refine υ (xq (Zxr (hz:=by lia) (s:={s with toks:=s.toks+N.draws k}) g e (q _ ⟨_,es.push ⟨N.hash k,.ref a,v⟩,A2 _ g (Zxs (GO e _)),H.mapDictKeys _,?_,?_,λx hx=>?_,?_⟩ (oG ..))));·rw[rJ c,bH];exact GO e _
  ·simp[rJ c,i,AN]
  ·rw[rJ c]at hx;rcases bU.mp hx with hx|hx;·exact N.keeps (B x hx) g e (oG ..)
   ·rw[aZ.mp hx];exact N.keeps h g e (oG ..)
  ·rw[rJ c,cz];exact mr.mpr ⟨m,by simp,λx hx y L z=>J ((show y=k by simpa using L)▸z▸hx)⟩
 ·rw[atKey_of_get m I]at f;injection f
def YZ{Q:Unit->ψ->Prop}(e:atKey xs k=am)(g:N.room A.in1)(h:N.is s.heap k a)(f:jQ N s.heap d xs)(q:∀h',jQ N h' d (lB xs k a v)->lj d s.heap h'->Q () {s with heap:=h',toks:=s.toks+N.draws k})(hsz:xs.length<=aA):wpAny 'j' A (w6 (.ref d) (.ref a) v) Q E s:=by have c:=f.of.typeIs;refine wpAny_holding (υ (QE c (by exact W) (υ (uC c Zxt (mj Zxt c entry_dict_setitem ?_ (args_dict_setitem (cN d) (cN a) v))))));refine υ (Ra c ?_);refine υ (χ ?_);exact υ (χ (υ (Lr e g h f (λh' i hs=>χ ⟨_,W,χ (q h' i hs)⟩) hsz)))
end
section
variable {X:Cx}{π:Zaa}{σ:L2.St}{H:Hp}{s:ψ}{a b:Λ}{ks:List D}{vs:List V}{d:D}{v:V}{A:Around}{E:Zab}{e ke:Expr}{pos:Pos}{tk tv td ty:TE}{o i:Expr}{pos':Pos}{fa fb:Zaf}
theorem tq(I:Inv X π σ H s)(h:H a=Z (cj X.K a ks vs)):(a==iu)=bi/\ks.length<=aA/\∃xs:List (D×Λ×ω),xs.map (·.1)=ks/\(∀x∈xs,dv X.K (gZ H) 8 (.ref x.2.1) x.1)/\Vals vs (xs.map (·.2.2))/\jQ (kH X.prog X.w) s.heap a xs:=by obtain⟨⟨g,j,xs,c,f,m,o,es,ep,p,q,r,t,u,y⟩,_⟩:=I.aV a _ h;exact⟨g,j,xs,c,f,m,o,es,p,q,by rw[r,y,<-c,aG],t,λx z=>dv.raw I 8 (.ref _) _ _ W (f x z),by rw[c];exact u⟩
def tr(I:Inv X π σ H s)(h:H a=Z (cj X.K a ks vs)):(a==iu)=bi/\ks.length<=aA/\∃xs:List (D×Λ×ω),xs.map (·.1)=ks/\(∀x∈xs,dv X.K (gZ H) 8 (.ref x.2.1) x.1)/\Vals vs (xs.map (·.2.2))/\s.heap.DictOfH (kH X.prog X.w) a xs:=by refine aQ (tq I h) λc f z=>bh z λxs g j m p=>?_;clear z;exact⟨c,f,xs,g,j,m,p.of⟩
def Y0(f:A.units+9<cLine)(I:Inv X π σ H s)(h:H a=Z (cj X.K a ks vs))(k:dv X.K (gZ H) 8 (.ref b) d)(q:∀s',Inv X π σ H s'->Q (.bool (!(atT ks vs d).isSome)) s'):wpAny 'd' A (c5 .NotIn (.ref b) (.ref a)) Q E s:=by refine aQ (tr I h) λg p z=>bh z λxs c r j m=>?_;clear z;subst c;refine ZwG (vY f) (dv.raw I 8 (.ref _) _ _ W k) g m ?_;have:=(v7 (d:=d) j).r8;rw[Gp]at this;rw[<-this];exact q _ (I.tok _)
theorem Ls(f:A.units+9<cLine)(I:Inv X π σ H s)(h:H a=Z (cj X.K a ks vs))(k:dv X.K (gZ H) 8 (.ref b) d)(g:atT ks vs d=Z v)(q:∀u s',RelV v u->Inv X π σ H s'->Q u s'):wpAny 'd' A (mi (.ref a) (.ref b)) Q E s:=by refine aQ (tr I h) λy B z=>bh z λxs c C j m=>?_;clear z;subst c;have r:=v7 (d:=d) j;rw[g]at r;obtain⟨u,e,t⟩:=gA.some_of r;obtain⟨p,x,rfl⟩:=bQ.mp e;exact ZwF (vY f) (dv.raw I 8 (.ref _) _ _ W k) m x (q _ _ t (I.tok _))
theorem Lu:∀{ks:List D},(lV ks d).length<=ks.length+1
 |[]=>a9 _|k::ks=>by
  unfold lV;split;·exact jC _
  ·exact xm Lu
theorem Lv(I:Inv X π σ H s){xs:List (D×Λ×ω)}(h:H a=Z (cj X.K a (xs.map (·.1)) vs))(r:(a==iu)=bi)(j:∀x∈xs,dv X.K (gZ H) 8 (.ref x.2.1) x.1)(B:Vals vs (xs.map (·.2.2)))(m:s.heap.DictOfH (kH X.prog X.w) a xs)(k:dv X.K (gZ H) 8 (.ref b) d)(C:RelV v u)(J:(xs.map (·.1)).length<aA):∀h' tk,jQ (kH X.prog X.w) h' a (lB xs d b u)->lj a s.heap h'->Inv X π σ (upd H a (cj X.K a (lV (xs.map (·.1)) d) (nU (xs.map (·.1)) vs d v))) {s with heap:=h',toks:=tk}:=λh' tk f hs=>by
 have c:(xs.map (·.1)).Nodup:=by refine aS m λ_ _ _ _ _ t=>gz t λ_ _ _ z=>?_;clear m t;exact z
 refine cv f λo es p L M N t=>aM t λO Q=>?_;clear f t;refine x4 I (by rw[h];trivial) hs ⟨o,p⟩ (x6 ⟨r,c3 Lu J,_,yS c,λx g=>?_,Lq C c B,o,es,_,p,L,M,N,by simp_all[yS],by rw[<-yS (b:=b) (u:=u) c,aG]⟩);refine dv.mono (YS h _) 8 _ _ ?_;unfold lB at g;split at g
 ·obtain⟨y,q,rfl⟩:=aX.mp g;unfold putAt;split;·exact j y q
  ·exact j y q
 grind
def Lw(I:Inv X π σ H s)(h:H a=Z (cj X.K a ks vs))(k:dv X.K (gZ H) 8 (.ref b) d)(g:RelV v u)(j:ks.length<aA):∃xs:List (D×Λ×ω),(d∉ks->atKey xs d=am)/\jQ (kH X.prog X.w) s.heap a xs/\xs.length<=aA/\∀h' tk,jQ (kH X.prog X.w) h' a (lB xs d b u)->lj a s.heap h'->Inv X π σ (upd H a (cj X.K a (lV ks d) (nU ks vs d v))) {s with heap:=h',toks:=tk}:=by refine aQ (tq I h) λm p z=>bh z λxs c q r f=>?_;clear z;subst c;exact⟨xs,YY,f,by rwa [aG]at p,Lv I h m q r f.of k g j⟩
theorem Lx(B:X.A.units+8<cLine)(C:PE X ke tk)(J:PE X e tv):PE X (.Dict [Z ke] [e] pos) (λσ H Q=>∀p,H p=am->BX [(tk,tv)] σ (upd H p (cj X.K p [] [])) λps H2=>∃b v d,ps=[(.ref b,v)]/\H2 p=Z (cj X.K p [] [])/\dv X.K (gZ H2) 8 (.ref b) d/\Q (.ref p) (upd H2 p (cj X.K p [d] [v]))):=by intro π s σ H Q I h;have L:=I.laid (a:=s.heap.objs.size) (o:=cj X.K s.heap.objs.size [] []) (h':=s.heap.push {cls:=.type "dict",data:=.dict #[]}) (t':=s.toks) (λ_ _ q=>cO _ q) (a9 _) (x6 ⟨beq_eq_false_iff_ne.mpr (bW (df I.big)),dZ _,[],W,by simp,.nil,_,#[],0,eo _ W,⟨W,W,W⟩,W,W,Zxu,W⟩);refine wpAny_Dict_any W W 'o' (by exact gW ..) (aL (Vo C J Vn π _ σ _ _ L (h _ (I.aV.fresh (a9 _)))) λws s2 y=>ay y λps H2 g c u=>aS u λb v d ep M j=>aM j λm N=>?_);subst ep;cases c with|@cons _ x _ _ r t=>cases t;obtain⟨x,w2⟩:=x;obtain⟨O,T⟩:=r;cases O;refine bh (Lw g M m T (by exact mq _)) λxs U Y hz wr=>?_;unfold storeAll;rw[List.forIn_cons];refine υ (υ (Lr (hsz:=hz) (U λz=>nomatch z) (show(kH X.prog X.w).room X.A from B) (dv.raw g 8 (.ref _) _ _ W m) Y λh' f hs=>χ ?_));simp only[List.forIn_nil];exact χ ⟨.ref _,_,wr h' _ f hs,W,N⟩
theorem Y1(q:X.A.units+9<cLine)(B:PE X o td)(C:PE X i ty)(J:PE X e tv)(hs:d4 e (Z (.Subscript o i pos')) pos.line X.env=pure bi):PS X (.Assign [.Subscript o i pos'] e pos) (λD σ H=>tv σ H λv f=>td σ f λx H2=>ty σ H2 λy c=>∃a b ks vs d,x=.ref a/\y=.ref b/\c a=Z (cj X.K a ks vs)/\ks.length<aA/\dv X.K (gZ c) 8 (.ref b) d/\d∉ks/\D.nx σ (upd c a (cj X.K a (lV ks d) (nU ks vs d v)))):=by intro π s σ H D I h;refine wpAny_Assign_Subscript (aL (J π s σ H _ I h) λr L z=>ay z λv f M N O=>aL (B π L σ f _ M O) λu Q z=>ay z λx H2 T U Y=>aL (C π Q σ H2 _ T Y) λiv s3 z=>ay z λy c j ry w=>aU w λa b ks p=>cv p λvs d ex ey h1 hl t=>aQ t λm h9 q3=>?_) hs;subst ex ey;obtain rfl:u=cN a:=U;obtain rfl:iv=cN b:=ry;exact bh (Lw j h1 m N hl) λxs nk D0 hz wr=>YZ (hsz:=hz) (nk h9) (vY q) (dv.raw j 8 (.ref _) _ _ W m) D0 λh' g hs=>⟨σ,_,wr h' _ g hs,q3⟩
theorem yT{c:Type}{d:D}:∀{ks:List D}{vs:List c},ks.length=vs.length->((atT ks vs d).isSome=be↔d∈ks)|[],[],_=>by simp[atT]|k::ks,v::vs,h=>by have f:=yT (d:=d) (ks:=ks) (vs:=vs) (by simpa using h);unfold atT;grind
def tw:D->D->Option D|.tup k,.tab ks vs=>if dQ 8 (.tup k)=be/\ks.length=vs.length then Z (.bl (!decide (.tup k∈ks)))else am|_,_=>am
theorem Y2{k:Nat}(hr:bA k X.A):d3 X (c5 .NotIn) tw:=⟨by
 intro π s σ H x y v u Q I j m ⟨z,B,d,f,p,e,q⟩;unfold tw at e;split at e;case h_2=>injection e
 rename_i kk c kvs;refine bR e λg e=>?_
 exists e;have t:=nS 8 f g.1;induction f using sf with|tup _ _=>cases p with|@tab a _ vs _ h r=>cases j;cases m;refine Y0 (by have:=hr.un;lia) I h t λs' w=>⟨.bl _,H,w,W,?_⟩;have e:(atT c vs (.tup kk)).isSome=decide (.tup kk∈c):=rC.mpr ((yT (g.2.trans r.length.symm)).trans decide_eq_true_iff.symm);rw[e];exact q _ H 'v' (.bl _)⟩
def mO:D->D->Option D|.tab ks vs,.tup k=>if dQ 8 (.tup k)=be/\ks.length=vs.length then atT ks vs (.tup k)else am|_,_=>am
theorem Dq{K:au}{H:Hp}{k d:D}:∀{ks:List D}{vs:List V}{ds:List D},az K H vs ds->atT ks ds k=Z d->∃v,atT ks vs k=Z v/\Rep K H v d
 |[],_,_,_,e=>by simp[atT]at e|_::_,_,_,.nil,e=>by simp[atT]at e|j::ks,_,_,.cons r t,e=>by
  unfold atT at e⊢;split at e;·simp_all
  ·rename_i z;rw[if_neg z];exact Dq t e
theorem Y3{k:Nat}(hr:bA k X.A)(B:JE X o fa)(C:JE X i fb)(hs:oZ i=be):JE X (.Subscript o i pos) (ab mO fa fb):=⟨by
 intro π s σ H Q I ⟨m,d,R,e,q⟩;refine bS e λdx J e=>bS e λdy L e=>?_;unfold mO at e;split at e;case h_2=>injection e
 refine bR e λM e=>BW QO.lookup (qs hs) (aL (B.h π s σ H (λv c=>av H c/\Rep X.K c v _) I ⟨m,_,R,J,λv c a b=>⟨a,b⟩⟩) λu N z=>bV z λx c O T f j=>aL (C.h π N σ c (λv H2=>av c H2/\Rep X.K H2 v _) O ⟨m,_,R.mono f,L,λv c a b=>⟨a,b⟩⟩) λiv s2 z=>bV z λy H2 p U g w=>?_);have Y:=nS 8 w M.1;have j:=j.mono g;cases j with|@tab a ks vs ds h r=>induction w using sf with|tup _ _=>cases T;cases U;obtain⟨v,e1,e2⟩:=Dq r e;exact⟨(aQ (tr p h) λ_ _ t=>bh t λ_ _ _ _ D0=>D0.typeIs),Ls (by have:=hr.un;grind) p h Y e1 λu s' ru I'=>⟨v,H2,I',ru,q v H2 (f.trans g) e2⟩⟩⟩
end
section
variable {K:au}{H H':Hp}{σ:St}{ρ:aj}{O A:List Λ}{p a:Λ}{κ κ':XD}{ds es:List D}
noncomputable def lW:Option SD->Bool|some (.xt _ _)=>bi|_=>be
theorem XD.yU{κ:XD}(h:κ.fl=be):κ.root a=a:=by cases κ<;>first|rfl|injection h
theorem RO.newX(R:RO K H σ ρ O)(i:Nat)(r:av H H')(I:∀b∈p::A,H b=am)(J:∀b∈p::A,∃u,H' b=Z u/\lR b u)(t:p∉A)(L:av 'r' (aq H' (p::A++O))->OX K H' (aq H' (p::A++O)) κ p A ds)(hn:ρ.all lW=be):RO K H' (σ.set i (Z (.ref (κ.root p)))) (ρ.set i (Z (.xt κ ds))) (p::A++O)/\av 'r' (aq H' (p::A++O)):=by
 have B:∀(j:Nat)(κ:XD)(ds:List D),ρ[j]?=Z (Z (.xt κ ds))->False:=λj κ ds h=>by have:=hY.mp hn _ (cu h);cases this
 have out:∀b u,H b=Z u->b∉p::A:=λb u e z=>by rw[I b z]at e;cases e
 have S:av 'r' (aq H' (p::A++O)):=λb o e=>by obtain⟨hb,C⟩:=eg e;rw[bj λz=>(bU.mp z).elim (out b _ C) hb];exact r _ _ C
 have old:∀(j:Nat)(x:SD),(ρ.set i (Z (.xt κ ds)))[j]?=Z (Z x)->(j=i/\i<ρ.length/\x=.xt κ ds)\/(j≠i/\ρ[j]?=Z (Z x)):=by grind
 refine⟨⟨by rw[d9,d9];exact R.len,λb hb=>?_,λj e h=>?_,λj κ' es h=>?_,λj k w M es fs a c f m q=>?_,λj w es h=>?_⟩,S⟩
 ·rcases bU.mp hb with hb|hb;·exact J b hb
  ·obtain⟨u,e,N⟩:=R.ls b hb;exact⟨u,r _ _ e,N⟩
 ·rcases old j _ h with⟨_,_,d⟩|⟨g,h⟩;·cases d
  ·rw[c4 (bW g)];obtain⟨v,c,f⟩:=R.bY j e h;exact⟨v,c,f.mono S⟩
 ·rcases old j _ h with⟨_,_,d⟩|⟨g,h⟩
  ·cases d
  ·rw[c4 (bW g)];exact cv (R.ow j κ' es h) λa us c f m q Q=>⟨a,us,c,dr _ f,r _ _ m,q.mono S,Q⟩
 ·rcases old j _ c with⟨_,_,d⟩|⟨g,c⟩
  ·cases d
  ·rcases old k _ f with⟨_,_,d⟩|⟨y,f⟩
   ·cases d
   ·rw[c4 (bW g)]at m;rw[c4 (bW y)]at q;exact R.inj j k _ _ es fs a c f m q
 ·rcases old j _ h with⟨rfl,T,d⟩|⟨g,h⟩
  ·cases d;refine⟨λU κ' es h'=>?_,p,A,gq (by rw[R.len];exact T),λb hb=>gf _ hb,t,L S,λk κ' es b c f hb=>?_⟩
   ·rcases old U _ h' with⟨e,_⟩|⟨_,h'⟩
    ·exact .inl e
    ·exact(B _ _ _ h').elim
   ·rcases old k _ c with⟨_,_,d⟩|⟨y,c⟩
    ·cases d
    ·rw[c4 (bW y)]at f;refine bV (R.ow k κ' es c) λa us E _ Y _=>?_;rw[f]at E;cases E;exact out _ _ Y hb
  ·exact(B _ _ _ h).elim
def RO.qF(R:RO K H σ ρ O)(T:ρ[i]?=Z (Z (.xt κ ds)))(U:σ[i]?=Z (Z (.ref (κ'.root a))))(Y:∀b∈a::A,b∈O)(J:a∉A)(ho:Off σ ρ (a::A))(w:∀b,b∉a::A->H' b=H b)(hL:∀b∈a::A,∃u,H' b=Z u/\lR b u)(hX:OX K H' 'r' κ' a A es)(C:κ'.fl=κ.fl):RO K H' σ (ρ.set i (Z (.xt κ' es))) O/\aq H' O=aq H O:=by
 have v:aq H' O=aq H O:=by
  funext b;by_cases t:b∈O;·rw[c8 t,c8 t]
  ·rw[bj t,bj t,w b λz=>t (Y b z)]
 have ia:i<ρ.length:=(bt.mp T).1;have old:∀(j:Nat)(x:SD),(ρ.set i (Z (.xt κ' es)))[j]?=Z (Z x)->(j=i/\x=.xt κ' es)\/(j≠i/\ρ[j]?=Z (Z x)):=by grind
 have uq:=(R.xt i κ ds T).1;refine⟨⟨by rw[d9];exact R.len,λb t=>?_,λj e h=>?_,λj m fs h=>?_,λj k m q d fs b g r L M=>?_,λj m fs h=>?_⟩,v⟩
 ·by_cases z:b∈a::A;·exact hL b z
  ·rw[w b z];exact R.ls b t
 ·rw[v];rcases old j _ h with⟨_,f⟩|⟨E,h⟩;·injection f
  ·exact R.bY j e h
 ·rw[v];rcases old j _ h with⟨_,f⟩|⟨E,h⟩
  ·injection f
  ·exact bV (R.ow j m fs h) λb ws g r L M=>⟨b,ws,g,r,by rw[w b (ho j m fs b h g)];exact L,M⟩
 ·rcases old j _ g with⟨_,f⟩|⟨E,g⟩
  ·injection f
  ·rcases old k _ r with⟨_,f⟩|⟨hk,r⟩
   ·injection f
   ·exact R.inj j k _ _ d fs b g r L M
 ·rcases old j _ h with⟨rfl,f⟩|⟨E,h⟩
  ·cases f;refine⟨λI κ' d h'=>?_,a,A,U,Y,J,by rw[v];exact hX,λk κ' d b g r=>?_⟩
   ·rcases old I _ h' with⟨e,_⟩|⟨_,h'⟩
    ·exact .inl e
    ·rw[C];exact uq _ _ _ h'
   ·rcases old k _ g with⟨_,f⟩|⟨hk,g⟩
    ·injection f
    ·exact ho k κ' d b g r
  ·obtain⟨N,Q,ne⟩:=(uq _ _ _ h).resolve_left E;refine aM (R.xt j m fs h) λu y=>cv y λb B q1 q2 q3 q4 q5=>?_;obtain rfl:=q4.flat Q;obtain rfl:=hX.flat (C.trans N);have nb:b≠a:=λz=>ne (by rw[q1,U,z,XD.yU Q,XD.yU (C.trans N)]);refine⟨λI q d h'=>?_,b,[],q1,q2,q3,?_,λk q d c g r=>?_⟩
   ·rcases old I _ h' with⟨rfl,f⟩|⟨_,h'⟩
    ·cases f;exact .inr ⟨Q,C.trans N,bW ne⟩
    ·exact u I q d h'
   ·rw[v];exact q4.mono (λc hc=>by rw[aZ.mp hc];exact w b (by simpa using nb)) (av.refl _)
   ·rcases old k _ g with⟨_,f⟩|⟨_,g⟩
    ·injection f
    ·exact q5 k q d c g r
end
section
variable {X:Cx}{e ke ie:Expr}{pos pos' np:Pos}{x:Str}{fk fv f:Zaf}{fo fi:Zaj}
def yV(fk fv:Zaf):ai->Option (List D×List D):=λc=>(fk c).bind λk=>(fv c).bind λd=>if dQ 8 k=be/\b9 d=be then match k with|.tup kk=>Z ([.tup kk],[d])|_=>am else am
def Y4{k:Nat}(hr:bA k X.A)(I:JE X ke fk)(J:JE X e fv):PE X (.Dict [Z ke] [e] pos) (λu H Q=>∃i O z,RO X.K H u i O/\yV fk fv (pv i)=Z z/\∀vs H' p,SO H H' O->H' p=am->az X.K (aq H' O) vs z.2->Q (.ref p) (upd H' p (cj X.K p z.1 vs))):=C8 (fl:=yV fk fv) (ds:=Q7) (o:=λz p vs=>cj X.K p z.1 vs) (cR (Lx (by have:=hr.un;lia) I.h J.h) λu H Q y=>ay y λi z R g q=>by
  refine bS g λk L g=>?_;refine bS g λd M g=>?_;split at g;case isFalse=>injection g
  rename_i hn;split at g;case h_2=>injection g
  rename_i d0 kk N
  exists g;intro p B;have m:=dj B (cj X.K p [] []);refine⟨i,_,R.mono m,L,λv H1 r C=>⟨i,d,R.mono (m.trans r),M,λw H2 t T=>?_⟩⟩;have U:=nS 8 (C.mono t) hn.1;have j:H2 p=Z (cj X.K p [] []):=t _ _ (r _ _ br);cases C with|@tup b _ _ _ _=>
  refine⟨b,w,_,W,j,U,?_⟩;have Y:upd H2 p (cj X.K p [.tup kk] [w])=upd (aq H2 [p]) p (cj X.K p [.tup kk] [w]):=by
   funext c;by_cases z:c=p;·simp_all[br]
   ·rw[bu z,bu z,bj (by simpa using z)]
  rw[Y];refine q [w] (aq H2 [p]) p (λc o E=>?_) (c8 (by exact .head _)) (.cons (T.hide (O:=[p]) (λc hc=>?_) hn.2) .nil);·have hb:c≠p:=gY E B;rw[bj 'm'];exact t _ _ (r _ _ (m _ _ E))
  ·cases aZ.mp hc;exact⟨_,j,.inr (.inr ⟨_,_,_,W⟩)⟩)
def yW(i:Nat)(fk fv:Zaf):Zal:=λc=>(yV fk fv (pv c)).bind λz=>if c.all lW=be then Z (.aF (c.set i (Z (.xt (.t am z.1) z.2))))else am
def Y5{k:Nat}(i:Nat)(hr:bA k X.A)(u:X.N.Nodup)(v:JE X ke fk)(w:JE X e fv)(B:X.N[i]?=Z x)(C:Loc X.env.scope x)(hs:d4 (.Dict [Z ke] [e] np) (Z (.Name x pos')) pos.line X.env=pure bi)(E:X.fn x=be\/X.env.scope.names.lookup x=Z .local):KS X (.Assign [.Name x pos'] (.Dict [Z ke] [e] np) pos) (yW i fk fv):=⟨cM (lF u B C (Y4 hr v w) hs E) λQ T H y=>aS y λI O o R g q=>by
  refine bS g λz c g=>?_;split at g;case isFalse=>injection g
  rename_i hn
  exists g;have j:z.1.length=1/\z.2.length=1:=by
   refine bS c λk _ c=>?_;refine bS c λd _ c=>?_;split at c;case isFalse=>injection c
   split at c;·grind
   ·injection c
  refine⟨I,O,z,R,c,λvs U p S m r=>?_⟩;obtain⟨J,L⟩:=(R.mono S).newX (A:=[]) (κ:=.t am z.1) (ds:=z.2) i (dj m (cj X.K p z.1 vs)) (λb h=>by cases aZ.mp h;exact m) (λb h=>by cases aZ.mp h;exact⟨_,br,.inr (.inr ⟨_,_,_,W⟩)⟩) 'o' (λM=>⟨W,vs,br,r.mono M,by rw[r.length,j.1,j.2],λ_ z=>by injection z⟩) hn;exact q _ _ _ (S.same.trans L) J⟩
theorem Dr:∀{ks:List D},d∉ks->lV ks d=ks++[d]|[],_=>rfl|k::ks,h=>by simp_all[a6,not_or,lV,if_neg,bW,Dr,GL]
theorem Ds{c:Type}{d:D}{v:c}:∀{ks:List D}{vs:List c},ks.length=vs.length->d∉ks->nU ks vs d v=vs++[v]|[],[],_,_=>rfl|k::ks,w::vs,g,h=>by rw[a6,not_or]at h;unfold nU;rw[if_neg (bW h.1),Ds (by simpa using g) h.2,GL]
def v8(i:Nat)(fk fv:Zaj):Zal:=λc=>(fv c).bind λd=>(fk c).bind λk=>match c[i]?,k with|some (Z (.xt (.t o ks) ds)),.tup kk=>if dQ 8 (.tup kk)=be/\ .tup kk∉ks/\ks.length<aA then Z (.aF (c.set i (Z (.xt (.t o (ks++[.tup kk])) (ds++[d])))))else am|_,_=>am
def Y6{k:Nat}(i:Nat)(hr:bA k X.A)(L:cT X e fo)(M:cT X ke fi)(Q:X.N[i]?=Z x)(g:c6 X.env.scope x)(T:'f'=bi)(j:'i'=bi)(hs:d4 e (Z (.Subscript (.Name x np) ke pos')) pos.line X.env=pure bi):KS X (.Assign [.Subscript (.Name x np) ke pos'] e pos) (v8 i fi fo):=⟨cM (Y1 (by have:=hr.un;grind) (er Q g T j) M.h L.h hs) λDn σ H u=>aS u λC O o R c q=>by
  refine bS c λd U c=>bS c λk Y c=>?_;split at c;case h_2=>injection c
  rename_i ot ks ds kk m;refine bR c λhn c=>?_
  exists c;refine aM (R.xt i _ ds m) λ_ z=>cA z λp A r _=>?_;clear z;refine⟨C,O,d,R,U,λv H1 w r1=>⟨.ref p,r,C,O,_,R.mono w,Y,λy H2 B E=>?_⟩⟩;have R2:=(R.mono w).mono B;obtain⟨_,p',A,I,f2,f3,⟨rfl,vs,f4,f5,f6,f8⟩,f7⟩:=R2.xt i _ ds m;rw[r]at I;cases I;have kt:=nS 8 (E.mono (dG _ _)) hn.1;cases E with|@tup b _ _ _ _=>refine⟨p,b,ks,vs,_,W,W,f4,hn.2.2,kt,hn.2.1,?_⟩;rw[Dr hn.2.1,Ds f6 hn.2.1];obtain⟨R3,hh⟩:=R2.qF (A:=[]) (κ':=.t ot (ks++[.tup kk])) (es:=ds++[d]) (H':=upd H2 p (cj X.K p (ks++[.tup kk]) (vs++[v]))) m r f2 f3 f7 (λb J=>bu 'm') (λb J=>by cases aZ.mp J;exact⟨_,br,.inr (.inr ⟨_,_,_,W⟩)⟩) ⟨W,_,br,f5.append (.cons (r1.mono B.same) .nil),by grind,f8⟩ W;exact q _ _ O (by rw[hh];exact w.same.trans B.same) R3⟩
def GN(d g:Hp)(vs:List V)(c:List D):Prop:=av d g/\∃A:List Λ,vs=A.map .ref/\A.Nodup/\c=A.map (λ_=>.lst [])/\∀b∈A,d b=am/\g b=Z (.lst [])
def Ly:GE X (.List [] pos) (cC (.lst [])) (GN h):=cR (u7 eT)<|by
 rintro t H Q ⟨v,y,vs,i,R,j,⟨S,A,m,w,r,g⟩,q⟩
 exists j;refine⟨dZ _,λp c=>?_⟩;have d:=dj c (.lst []);refine q _ _ d ⟨S.trans d,A++[p],by rw[m,cz];rfl,?_,by rw[r,cz];rfl,λb hb=>?_⟩;·grind
 ·rcases bU.mp hb with hb|hb;·exact⟨(g b hb).1,d _ _ (g b hb).2⟩
  ·cases aZ.mp hb;refine⟨?_,br⟩;cases z:h p with|none=>rfl|some u=>rw[S _ _ z]at c;injection c
def tE(i:Nat)(f:Zag):Zal:=λc=>(f (fz c)).bind λds=>if c.all lW=be then Z (.aF (c.set i (Z (.xt .n ds))))else am
theorem Y7{E:Pos}{c:Scope}(i:Nat)(hN:X.N.Nodup)(hi:JI X tg iter fL)(vB:∀C g m fp,JG (cw X c cl N' C g m fp) tg gt/\JF (cw X c cl N' C g m fp) M fc)(vE:X.N[i]?=Z x)(hx:Loc X.env.scope x)(I:oF c X.env=pure cl)(J:∀y∈c.names,y.2≠ .cell)(L:c.kind=.function)(r:∀y∈c.names,y.2=.local->c.names.lookup y.1=Z .local)(jM:jd X.env.cells cl)(Q:jf cl (ky c X.env).names)(T:gv X c N' cap)(hc:X.calm=be)(vI:d4 (.ListComp (.List [] B) [⟨tg,iter,M,0⟩] c pos) (Z (.Name x pos')) E.line X.env=pure be)(hf:X.fn x=be\/X.env.scope.names.lookup x=Z .local):KS X (.Assign [.Name x pos'] (.ListComp (.List [] B) [⟨tg,iter,M,0⟩] c pos) E) (tE i (ez cap fL gt fc (cC (.lst [])))):=⟨cM (Jw (G:=GN) (λ_ _ s=>⟨s,[],W,.nil,W,by simp⟩) (λ_ _ _ _ _ s t=>aM t λs0 v=>bh v λA e1 e2 e3 U=>⟨s0.trans s,A,e1,e2,e3,λb w=>⟨(U b w).1,s _ _ (U b w).2⟩⟩) hN vE hx hc hi.h I J L r jM Q T (λC g m fp=>by obtain⟨h1,h2⟩:=vB C g m fp;exact⟨h1.h,h2.h,λ_=>Ly⟩) (qt hi.s) vI hf) λDn σ H t=>aS t λρ O o R e q=>by
  refine bS e λds h1 e=>bR e λhn e=>?_
  exists e;refine⟨fz ρ,ds,R.fz,h1,λvs H1 p s1 hp t=>aM t λ_ v=>bh v λA e1 e2 e3 U=>?_⟩;subst e1;have Y:p∉A:='m';have at':∀b∈A,upd H1 p (.lst (A.map .ref)) b=Z (.lst []):=λb w=>dD ((U b w).2) (λz:b=p=>Y (z▸w));have Y8:H p=am:=by cases z:H p with|none=>rfl|some u=>rw[s1 _ _ z]at hp;injection hp
  obtain⟨R',S'⟩:=R.newX (A:=A) (κ:=.n) (ds:=ds) i (s1.trans (dj hp (.lst (A.map .ref)))) (λb w=>(a6.mp w).elim (λz=>z▸Y8) λz=>(U b z).1) (λb w=>(a6.mp w).elim (λz=>z▸⟨_,br,.inl ⟨_,W⟩⟩) λz=>⟨_,at' b z,.inl ⟨_,W⟩⟩) Y (λhG=>⟨br,e2,by simp_all,λj b d q1 q2=>by
   rw[e3,bJ,q1]at q2
   exists q2;exact⟨[],[],W,at' b (cu q1),.nil⟩⟩) hn;exact q _ _ _ S' R'⟩
noncomputable def yX(i:Nat)(fi fv:Zaj):Zal:=λc=>(fi c).bind λk=>(fv c).bind λd=>match c[i]?,k with|some (Z (.xt .n ds)),.int j=>if 0<=j then match ds[j.toNat]? with|some (.lst es)=>if es.length<aA then Z (.aF (c.set i (Z (.xt .n (ds.set j.toNat (.lst (es++[d])))))))else am|_=>am else am|_,_=>am
def Y9{apos cpos:Pos}(i:Nat)(M:cT X ie fi)(h:cT X e fo)(hs:oZ ie=be)(hi:X.N[i]?=Z x)(hv:c6 X.env.scope x)(hn:cx e=be)(hd:'f'=bi)(Q:'i'=bi)(r:'s'=be):KS X (.Expr (.Call (.Attribute (.Subscript (.Name x np) ie ip) "append" apos) [e] [] cpos) pos) (yX i fi fo):=⟨cM (mz (kF m_ uK uL ql (xX BO (er hi hv hd Q) M.h (qs hs)) (ed h.h eT (bF hn)) W (by rw[ji (show [e].all cx=be by rw[cW,hn];rfl)];rfl) r (bF hn) (eP W)) W) λDn σ H t=>aS t λY O o R c q=>by
  refine bS c λk h1 c=>bS c λd h2 c=>?_;split at c;case h_2=>injection c
  rename_i ds j h3 hk0;refine bR c λh0 c=>?_;split at c;case h_2=>injection c
  rename_i es h4;refine bR c λhz c=>?_
  exists c;obtain⟨_,p,A,e1,w,e3,⟨e4,e5,e6,e7⟩,e8⟩:=R.xt i _ ds h3;refine⟨.ref p,e1,Y,O,_,R,h1,λy H1 C r1=>?_⟩;induction r1 using lJ;have hA:j.toNat<A.length:=by rw[e6];exact(bt.mp h4).1
  have g:=cF hA;have J:=cu g;refine ay (e7 _ _ _ g h4) λvs pa e9 T E=>?_;cases e9;have o1:H1 p=Z (.lst (A.map .ref)):=(C.own p (w p (by exact .head _))).trans e4;have o2:H1 A[j.toNat]=Z (.lst vs):=(C.own _ (w _ (b8 _ J))).trans T;refine⟨p,_,j,.ref A[j.toNat],W,W,bX.of o1,?_,.inl ⟨W,vs,bX.of o2⟩,Y,O,d,R.mono C,h2,λv H2 U r2=>?_⟩;·have:=u_ (xs:=A.map V.ref) (j:=j.toNat) (v:=.ref A[j.toNat]) (by rw[bJ,g];rfl);rwa [jY h0]at this
  ·have R2:=(R.mono C).mono U;have S:=C.trans U;have o3:H2 A[j.toNat]=Z (.lst vs):=(U.own _ (w _ (b8 _ J))).trans o2;have nd:∀b,b∉p::A->upd H2 A[j.toNat] (.lst (vs++[v])) b=H2 b:=λb g=>bu λz=>g (z▸b8 _ J);have ne:p≠A[j.toNat]:=λz=>e3 (z▸J);refine⟨_,vs,v,W,W,o3,by rw[E.length];exact hz,?_⟩;have hL:∀b∈p::A,∃u,upd H2 A[j.toNat] (.lst (vs++[v])) b=Z u/\lR b u:=λb g=>by
    by_cases z:b=A[j.toNat];·rw[z];exact⟨_,br,.inl ⟨_,W⟩⟩
    ·rw[bu z];exact R2.ls b (w b g)
   have hX:OX X.K (upd H2 A[j.toNat] (.lst (vs++[v]))) (aq H2 O) .n p A (ds.set j.toNat (.lst (es++[d]))):=by
    refine⟨dD ((S.own p (w p (by exact .head _))).trans e4) ne,e5,by rw[d9];exact e6,λm b x I L=>?_⟩;by_cases B:j.toNat=m
    ·subst B;rw[gq 'c']at L;rw[g]at I
     exists I
     exists L;exact⟨_,_,W,br,(E.mono S.same).append (.cons r2 .nil)⟩
    ·rw[c4 B]at L;refine ay (e7 m b x I L) λus fs g1 g2 g3=>⟨us,fs,g1,?_,g3.mono S.same⟩
     rw[bu]
     ·exact(S.own b (w b (b8 _ (cu I)))).trans g2
     ·intro z;exact B ((GP hA e5).mp (by rw[g,I,z]))
   obtain⟨R3,hh⟩:=R2.qF (κ':=.n) h3 e1 w e3 e8 nd hL hX W;exact q _ _ O (by rw[hh];exact S.same) R3⟩
def yY(i:Nat)(f:Zaf):Zal:=λc=>(iC i c).bind λds=>(f (fz c)).bind λd=>match d with|.lst es=>if ds.length+es.length<=aA/\cf es=be then Z (.aF (c.set i (Z (.own (ds++es)))))else am|_=>am
def Y_:V->List V->Hp->VK->Prop:=λx vs H Q=>∃l b xs c,x=.ref l/\vs=[.ref b]/\H l=Z (.lst xs)/\Rd H b (.lst c)/\xs.length+c.length<=aA/\Q .aD (upd H l (.lst (xs++c)))
theorem Za:nz X "list.extend" Y_:=by
 intro m s O H x vs v us Q I A B h;refine aU h λl b xs y=>bh y λC i j p t=>aQ t λE hz q=>?_;clear h y t;subst i;subst j;cases A;obtain⟨u,rfl,J⟩:=B.one;cases J;refine aM (I.rZ p) λz y=>ay y λd n r T e=>?_;clear y;refine bV (Inv.vu I E) λc n2 w L M _=>?_;have N:C.length=c.length:=w.length;have hsz:d.toArray.size+c.toArray.size<=aA:=by rw[dY,dY];lia
 have g:¬(!d.toArray.isEmpty&&Gn (d.toArray.size+c.toArray.size))=be:=by rw[Iu hsz,QK];exact dg
 refine A4 Zwv ⟨_,e,W⟩ Zww (Zwx _ _) (Zwy l d.toArray n b c.toArray n2 g 'c' (fo hsz)) ⟨e,M,?_⟩;refine⟨.aD,_,I.va (its':=d++c) p e 'o' (r.append w) ?_,W,q⟩;rw[bH];omega
def Zb{apos cpos:Pos}(i:Nat)(h:JE X e f)(A:X.N[i]?=Z x)(B:c6 X.env.scope x)(hn:cx e=be) (C:'f'=bi) (m:'i'=bi) (g:'s'=be):KS X (.Expr (.Call (.Attribute (.Name x np) "extend" apos) [e] [] cpos) pos) (yY i f):=⟨cM (mz (kF m_ Zxd Zxe Za (er A B C m) (ed h.h eT (bF hn)) W (by rw[ji (show [e].all cx=be by rw[cW,hn];rfl)];rfl) g (bF hn) (eP W)) W) λDn σ H z=>aS z λE O o R c q=>by
  refine bS c λds I c=>bS c λd J c=>?_;split at c;case h_2=>injection c
  rename_i es;refine bR c λhz c=>?_
  exists c;have j:=qx I;refine bV (R.own i ds j) λa vs p L M e4=>⟨.ref a,p,.inl ⟨W,vs,bX.of M⟩,fz E,.lst es,R.fz,J,λv H1 Q T=>?_⟩;have S:=SO.of R.ls Q;have r:=R.mono S;refine bV (r.own i ds j) λa' t u f2 U w=>?_;rw[p]at u;cases u;cases T with|@lst b us _ Y y=>refine⟨a,b,t,us,W,W,U,Y,by rw[w.length,y.length];exact hz.1,?_⟩;obtain⟨R2,hh⟩:=r.chg j p L (w.append (y.hide r.ls hz.2));exact q _ _ O (by rw[hh];exact S.same) R2⟩
end
end DL
namespace HT
open PySem PySem.Spec PyProof.Rows L2
section
variable {prog:a8}{w:World}{A:Around}{E:Zab}{s:ψ}
def Zc:Gi (.type "list_reverseiterator") "__len__"=pure am:=by rw[typeLookup_type,Zxv];kernel_rfl
def Zd:Gi (.type "list_reverseiterator") "__length_hint__"=pure (Z (.builtin "list_reverseiterator.__length_hint__")):=by rw[typeLookup_type,Zxv];kernel_rfl
abbrev yZ(items:Array ω):Nat->ω->Prop:=λi v=>items[items.size-1-i]?=Z v
def Ze{c:Array ω}(B:A.in1.handled=am)(t:l≠I)(f:s.heap.IsRevIter I l ((c.size:Int)-1))(y:s.heap.IsList l c)(C:∀s' g,Moved [I] (λa b=>b=a) s s'->uN (yZ c) g c.size->Q g.toList s')(hn:c.size<=aA):wpAny 'j' A (collect (.ref I)) Q E s:=by
 have ad:=(Walks.listRev (prog:=prog) (w:=w) B I l t c).toS;have u:(λi (s:ψ)=>i<=c.size/\s.heap.IsRevIter I l ((c.size:Int)-1-(i:Int))/\s.heap.IsList l c) 0 s:=⟨dZ _,by simpa using f,y⟩;obtain⟨_,H,_⟩:=id f;obtain⟨_,J,_⟩:=id y;have h:s.heap.objs.size∉[I,l]:=λq=>by
  simp only[a6,uO,or_false]at q;rcases q with z|z;·exact absurd (b6 H) (by rw[<-z];exact oD _)
  ·exact absurd (b6 J) (by rw[<-z];exact oD _)
 have v:s.heap.objs.size≠I:=λe=>h (by simp[e]);unfold collect;refine υ (wpAny_runValue (GQ F.entry_proto_collect ?_));rw[GS F.plain_proto_collect _];show wpAny _ A.in1 (newList []>>=λl=>again (.builtin "list.__iadd__" ⟨[l,.ref I],[]⟩)) _ _ s;refine υ (wpAny_newObj_type (χ ⟨Rb Zxw _,GQ F.entry_list_iadd ?_⟩));rw[GS Zxw _];have d:=ad.frame 0 s (s.heap.push {cls:=.type "list",data:=.seq ([]:List ω).toArray}) s.toks u (a9 _) λb _ o e=>cO _ e;have r:Zxx {s with heap:=s.heap.push {cls:=.type "list",data:=.seq ([]:List ω).toArray}} (.ref I) "list_reverseiterator":=d.2.1.typeIs;have L:Zxy (.ref s.heap.objs.size) (.ref I)=bi:=by simp[Zxy,v]
 show wpAny _ A.in1 (Zxz (.ref s.heap.objs.size) (.ref I) (.ref s.heap.objs.size)) _ _ _;unfold Zxz;refine υ (A0 r ?_);rw[if_neg (by rw[L];decide)];refine υ (ad.self 0 _ _ _ d (υ (wpAny_holding ?_)));unfold Zy5;refine υ (xo r Zc ?_);show wpAny _ A.in1 (specialOf (cN I) (AZ "__length_hint__")>>=_) _ _ _;refine υ (xo r Zd ?_);generalize aq:("list_reverseiterator.__length_hint__":String)=j;(fail_if_success (clear aq j));wp_delta;rw[show splitId j=Z ("list_reverseiterator","__length_hint__") from by subst aq;decide+kernel];subst aq;refine υ (wpAny_isInstance (b:=be) r (by rw[isSubtype_type];kernel_rfl) (χ ?_));rw[if_neg 'b'];refine χ ⟨Rb F.plain_extend_loop _,codeAny_extend_loopS ad hn _ h _ c.size 0 _ _ _ W (dZ _) d (eo _ W) (ItemsOf.nil _) λs' m M q x p=>?_⟩;show wpAny _ A (load s.heap.objs.size>>=_) _ _ s';exact υ (wpAny_load x (χ (C s' m (Moved.drop_new (o:={cls:=.type "list",data:=.seq ([]:List ω).toArray}) (tk:=s.toks) q (a9 _)) p)))
theorem Zf(I l:Λ)(c:Array ω)(hsz:c.size<=aA):Meets (Builtin.«tuple.__new__» ⟨[.type "tuple",.ref I],[]⟩) (λA R s=>A.handled=am/\l≠I/\s.heap.IsRevIter I l ((c.size:Int)-1)/\s.heap.IsList l c/\∀(s':ψ)(d:Array ω),Moved [I] (λa b=>b=a) s s'->uN (yZ c) d c.size-> R (.ok (.ret (.ref s'.heap.objs.size))) {s' with heap:=s'.heap.push {cls:=.type "tuple",data:=.seq d}}):=.of_wp λprog w A R s z=>jG z λp g f q h=>by
  have m:=sub_tuple_self;have i:=init_tuple_lookup;have r:=madeHere_tuple;have t:s.TypeIs (.ref I) "list_reverseiterator":=f.typeIs;have j:A.in1.in1.handled=am:=p
  wp_walk using A0 t,Ze (hn:=hsz) j g f q;intro s' d u e;show wpAny _ _ (xj d.toList.toArray>>=λv=>ret v) _ _ _;unfold xj;refine υ (wpAny_newObj_type (χ ⟨_,W,?_⟩) (show d.toList.toArray.size<=aA by simp only[ZxA];rw[e.1];exact hsz));rw[show d.toList.toArray=d by simp];exact h s' d u e
def Zg{c:Array ω}(r:A.handled=am)(g:l≠I)(i:s.heap.IsRevIter I l ((c.size:Int)-1))(t:s.heap.IsList l c)(hsz:c.size<=aA)(h:∀(h':Heap)(tk:Nat)(d:Array ω),(∀b o,b≠I->s.heap.get? b=Z o->h'.get? b=Z o)->uN (yZ c) d c.size->Q (.ref h'.objs.size) {s with heap:=h'.push {cls:=.type "tuple",data:=.seq d},toks:=tk}):wpAny 'j' A (call (.type "tuple") [.ref I]) Q E s:=by refine callType_new F.called_tuple 'b' (F.typeCall_tuple_1 _) (F.newCall_tuple_1 _) (λobj=>Zxb obj _) F.entry_tuple_new (Zf I l c hsz) ⟨r,g,i,t,λs' d u f=>⟨⟨_,eo _ W,W⟩,?_⟩⟩;obtain⟨v,m,p,q,_⟩:=u;obtain⟨h',g',d',j,x⟩:=s';simp only at m p q;subst m p q;exact h h' j d (λb o y e=>v b o (by simpa using y) e) f
end
end HT
namespace DL
open PySem PySem.Spec PyProof.Rows L2
section
variable {X:Cx}{a:Expr}{fa:Zaf}{p1 p2 p3 p4:Pos}
def Zh{ys:List V}{c:List ω}{d:Array ω}(g:Vals ys c)(h:uN (HT.yZ c.toArray) d c.toArray.size):Vals ys.reverse d.toList:=by
 have e:d.toList=c.reverse:=by
  refine Gu λj=>?_;have i:d.size=c.length:=by rw[h.1,dY]
  by_cases f:j<c.length;·have m:=h.2 j (d[j]'(by lia)) (ZxB 'c');rw[List.getElem?_reverse f,uD,ZxB (by omega),<-m];show c.toArray[_]?=_;rw[List.getElem?_toArray,dY]
  ·rw[uP (by simpa [i]using f),uP (by simpa using f)]
 rw[e];clear h e;induction g with|nil=>exact .nil|cons r t p=>rw[GU,GU];exact p.append (.cons r .nil)
noncomputable def y0(fa:Zaf):Zaf:=λc=>(fa c).bind λd=>match d with|.lst ds=>Z (.tup ds.reverse)|_=>am
def Zi:gy "reversed"=Z (.type "reversed"):=by decide+kernel
theorem Lz{K:au}{H:Hp}:∀{vs:List V}{ds:List D},az K H vs ds->az K H vs.reverse ds.reverse|_,_,.nil=>.nil|_,_,.cons r t=>by rw[GU,GU];exact(Lz t).append (.cons r .nil)
def Zj(L:X.mg "tuple"=am)(r:X.mg "reversed"=am)(M:JE X a fa)(N:Gl X "tuple")(t:Gl X "reversed")(hn:cx a=be)(O:X.calm=be):JE X (.Call (.Name "tuple" p1) [.Call (.Name "reversed" p2) [a] [] p3] [] p4) (y0 fa):=⟨by intro c s w H Q I ⟨T,d,R,p,q⟩;refine bS p λdl U p=>wpAny_Call_Name_kw (oM I N L DL.yj (xa ?_ (bF W) (eP W)) 'b' (by exact W));rw[bF W];refine Zwj (wpAny_Call_Name_kw (oM I t r Zi (xa (aL (ed M.h eT (bF hn) _ c s w H (λvs g=>∃v,vs=[v]/\av H g/\Rep X.K g v dl) I ⟨T,dl,R,U,λv g f x=>⟨v,W,f,x⟩⟩) λus f z=>ay z λvs g i Y y=>aJ y λv ev S1 x=>?_) (bF hn) (eP W)) 'b' (by exact W)));subst ev;obtain⟨u,rfl,ru⟩:=mE Y;induction x using gp with
 |@lst l ys ds h rr=>
  exists p;cases ru;obtain⟨j,A,pl⟩:=Inv.oU i h;have hz:j.toArray.size<=aA:=by refine bV (Inv.vu i h) λ_ _ _ _ _ B=>?_;rw[dY,<-A.length];exact B
  refine call_reversed_list pl ?_;have lt:∀b o,f.heap.get? b=Z o->b≠f.heap.objs.size:=λb o e=>df (b6 e);have I2:Inv X c w g {f with heap:=f.heap.push (revObj l ((j.toArray.size:Int)-1))}:=i.kept (t':=f.toks) λb o e=>cO _ e;refine Zwi<|HT.Zg (i.ok.hd O) (ax pl λ_ e _=>lt l _ e) ⟨_,eo _ W,W,W⟩ (pl.at λo e=>cO _ e) hz λh' tk C hk m=>?_;have E:Inv X c w g {f with heap:=h',toks:=tk}:=i.kept λb o e=>hk b o (lt b o e) (cO _ e);have J:=E.aV.fresh (a9 _);refine⟨.ref h'.objs.size,_,E.laid (t':=tk) (o:=.tup ys.reverse) (λb ob q=>cO _ q) (a9 _) ⟨?_,C.toList,Zh A m,?_⟩,W,q _ _ (S1.trans (dj J _)) (.tup (.of br) ((Lz rr).mono (dj J _)))⟩;·rw[List.length_reverse,A.length];simpa using hz
  ·rw[ZxA];exact Gj _ _|_=>injection p⟩
end
noncomputable def txt:ω->Str|.str x _=>x|_=>default
noncomputable def lX(ks:List Str)(x:Str):List Str:=if x∈ks then ks else ks++[x]
def Zk(w:World)(o:Obj)(ks:List Str):Prop:=∃es ep t,o.ExactSet/\o.data=.set es ep t/\(∀e∈es.toList,∃x tk,e=(hashStr w x,uk x tk))/\(es.toList.map λe=>txt e.2).Perm ks/\ks.length<scanBound/\t.fits es.size=be∧ t.led=!w.params.followText "set-order"/\(es.size≠0->t.plain=bi)
def Br(w:World)(h:Heap)(a:Λ)(ks:List Str):Prop:=∃o,h.get? a=Z o/\Zk w o ks
def lY(xs:List Str):List Str:=xs.foldl lX []
def Zl(ks:List Str)(x:Str):(lX ks x).length<=ks.length+1:=by
 unfold lX;split;·exact jC _
 ·rw[bH];exact a9 _
theorem LA:∀(xs ks:List Str),(xs.foldl lX ks).length<=ks.length+xs.length|[],ks=>a9 _|x::xs,ks=>by have:=LA xs (lX ks x);have:=Zl ks x;rw[xD,bz];lia
def Dt(xs:List Str):(lY xs).length<=xs.length:=by have:=LA xs [];simpa [lY]using this
end DL
namespace DL
open PySem PySem.Spec PyProof.Rows L2
end DL
set_option backward.match.sparseCases true
namespace DL
open PySem PySem.Spec PyProof.Rows L2
end DL
set_option backward.match.sparseCases false
namespace DL
open PySem PySem.Spec PyProof.Rows L2
end DL
namespace DL
open PySem PySem.Spec PyProof.Rows L2
section
variable {X:Cx}
def Zm{s s':ψ}(I:Inv X i r H s)(j:s'.heap=s.heap)(m:s'.gens=s.gens)(q:s'.os=s.os):Inv X i r H s':=by obtain⟨h,g,d,t,o⟩:=s;obtain⟨h',g',d',t',u⟩:=s';simp only at j m q;subst j;subst m;subst q;exact⟨I.ok,I.os,I.bare,I.base,I.loc,I.cell,I.free,I.i6,I.pin,I.aV,I.len⟩
theorem LB:∀(xs ks:List Str)(x:Str),x∈xs.foldl lX ks↔x∈ks\/x∈xs
 |[],ks,x=>by simp|y::xs,ks,x=>by
  rw[xD,LB xs (lX ks y) x];unfold lX;split
  ·rename_i h;constructor
   ·rintro(q|q);·exact .inl q
    ·exact .inr (b8 _ q)
   ·rintro(q|q);·exact .inl q
    ·rcases a6.mp q with q|q;·rw[q];exact .inl h
     ·exact .inr q
  ·simp[or_assoc]
theorem y2(xs:List Str)(x:Str):x∈lY xs↔x∈xs:=by unfold lY;rw[LB];simp
end
abbrev ET:=Option (List D)×List D
noncomputable def xd(a:Λ):Option (List D)->XD|none=>.x a|some ks=>.t (Z a) ks
def EX(K:au)(H G:Hp)(as:List Λ)(E:List ET):Prop:=as.length=E.length/\∀(j:Nat)(a:Λ)(e:ET),as[j]?=Z a->E[j]?=Z e->OX K H G (xd a e.1) a [] e.2
def v9(a:Λ)(o:Option (List D)):(xd a o).fl=be:=by cases o<;>rfl
def Zn{K:au}{H G:Hp}{a:Λ}{o:Option (List D)}{es:List D}(h:OX K H G (xd a o) a [] es):∃u,H a=Z u/\lR a u:=by cases o with|none=>exact aQ h λ_ _ z=>ax z λvs h _=>⟨_,h,.inl ⟨_,W⟩⟩|some ks=>exact aM h λ_ z=>ax z λvs h _=>⟨_,h,.inr (.inr ⟨_,_,_,W⟩)⟩
theorem EX.at{K:au}{H G:Hp}{as:List Λ}{E:List ET}(h:EX K H G as E){a:Λ}(d:a∈as):∃e:ET,OX K H G (xd a e.1) a [] e.2:=by
 obtain⟨j,c⟩:=Rc d;have f:j<E.length:=by rw[<-h.1];exact(bt.mp c).1
 exact⟨_,h.2 j a _ c (cF f)⟩
def EX.ls{K:au}{H G:Hp}{as:List Λ}{E:List ET}(h:EX K H G as E):iA H as:=λa c=>by obtain⟨_,h⟩:=EX.at h c;exact Zn h
theorem EX.mono{K:au}{H H' G c:Hp}{as:List Λ}{E:List ET}(h:EX K H G as E)(e:∀b∈as,H' b=H b)(s:av G c):EX K H' c as E:=⟨h.1,λj a x d f=>(h.2 j a x d f).mono (λb g=>by rw[aZ.mp g];exact e a (cu d)) s⟩
def tF(K:au)(F:List D->List ET->Option (D×List ET)):Sp:=λvs H Q _=>∃us as ds E d E',vs=us++as.map .ref/\as.Nodup/\EX K H (aq H as) as E/\az K (aq H as) us ds/\F ds E=Z (d,E')/\∀v H',av (aq H as) (aq H' as)->EX K H' (aq H' as) as E'->Rep K (aq H' as) v d->Q v H'
def nV(n:Nat)(ds:List D)(as:List Λ)(E:List ET):aj:=(ds.map λd=>Z (.bY d))++((ZxC (λa (e:ET)=>Z (SD.xt (xd a e.1) e.2)) as E)++lx (n-(ds.length+E.length)) am)
def tG{n:Nat}{ds:List D}(h:(nV n ds as E)[j]?=Z (Z x)):(∃d,ds[j]?=Z d/\x=.bY d)\/∃m a e,j=ds.length+m/\as[m]?=Z a/\E[m]?=Z e/\x=.xt (xd a e.1) e.2:=by
 unfold nV at h;by_cases g:j<ds.length;·rw[gL (by simpa using g),bJ]at h;cases q:ds[j]? with|none=>rw[q]at h;injection h|some d=>rw[q]at h;cases h;exact .inl ⟨d,W,W⟩
 ·rw[ku (by simp;lia),aG]at h;refine .inr ⟨j-ds.length,?_⟩;generalize i:j-ds.length=m at h;by_cases hz:m<(ZxC (λa (e:ET)=>Z (SD.xt (xd a e.1) e.2)) as E).length;·rw[gL hz,List.getElem?_zipWith]at h;cases c:as[m]? with|none=>rw[c]at h;injection h|some a=>cases f:E[m]? with|none=>rw[c,f]at h;injection h|some e=>rw[c,f]at h;cases h;exact⟨a,e,by lia,W,W,W⟩
  ·rw[ku 'c',xu]at h;split at h<;>cases h
def Zo{K:au}{H:Hp}{N:List Str}{us:List V}{ds:List D}{as:List Λ}{E:List ET}(M:ds.length+E.length<=N.length)(hn:as.Nodup)(t:EX K H (aq H as) as E)(r:az K (aq H as) us ds):RO K H (start N (us++as.map .ref)) (nV N.length ds as E) as:=by
 have hlen:=r.length;have B:=t.1;have x:∀j v,(us++as.map V.ref)[j]?=Z v->(start N (us++as.map .ref))[j]?=Z (Z v):=λj v e=>by have C:=(bt.mp e).1;unfold L2.start;rw[gL (by simpa using C),bJ,e];rfl
 have u:∀m a,as[m]?=Z a->(start N (us++as.map .ref))[ds.length+m]?=Z (Z (.ref a)):=λm a e=>x _ _ (by rw[ku 'c',show ds.length+m-us.length=m by lia,bJ,e];rfl);refine⟨by simp[L2.start,nV];lia,t.ls,λj d h=>?_,λj κ w h=>?_,λi j κ κ' O Q b h _ _ _=>?_,λj κ w h=>?_⟩
 ·rcases tG h with⟨d',f,c⟩|⟨_,_,_,_,_,_,c⟩;·cases c;exact ax (r.get f) λv p g=>⟨v,x j v (by rw[gL (bt.mp p).1];exact p),g⟩
  ·injection c
 ·rcases tG h with⟨d',f,c⟩|⟨_,_,_,_,_,_,c⟩<;>injection c
 ·rcases tG h with⟨d',f,c⟩|⟨_,_,_,_,_,_,c⟩<;>injection c
 ·rcases tG h with⟨d',f,c⟩|⟨m,a,e,rfl,f,p,c⟩;·injection c
  ·cases c;refine⟨λI κ' y h'=>?_,a,[],(by rw[XD.yU (v9 _ _)];exact u m a f),λb J=>by rw[aZ.mp J];exact cu f,by simp,t.2 m a e f p,λI κ' y b h' _=>?_⟩
   ·rcases tG h' with⟨d',_,c⟩|⟨A,L,y,rfl,g,_,c⟩;·injection c
    ·cases c;by_cases z:A=m
     ·exact .inl (by rw[z])
     ·refine .inr ⟨v9 _ _,v9 _ _,λq=>z ?_⟩;rw[u m a f,u A L g]at q;cases q;exact((GP (bt.mp g).1 hn).mp (g.trans f.symm))
   ·rcases tG h' with⟨d',_,c⟩|⟨_,_,_,_,_,_,c⟩<;>injection c
abbrev MU:=aj->Option (D×List (Λ×ET))
structure mP(X:Cx)(st:List Stmt)(u:MU):Prop where h:gr X st (λDn σ H=>∃ρ O r,RO X.K H σ ρ O/\u ρ=Z r/\∀v H' O',av 'r' (aq H' O')->(∀x∈r.2,x.1∈O'/\OX X.K H' (aq H' O') (xd x.1 x.2.1) x.1 [] x.2.2)->Rep X.K (aq H' O') v r.1->Dn.rt v H')
section
variable {X:Cx}{e:Expr}{st:Stmt}{rest:List Stmt}{pos:Pos}{fo:Zaj}{g:Zal}{u:MU}
noncomputable def qG(g:Zal)(u:MU):MU:=λc=>(g c).bind λo=>match o with|.aF ρ'=>u ρ'|_=>am
theorem Zp(c:KS X st g)(f:mP X rest u):mP X (st::rest) (qG g u):=⟨jJ (lE c.h f.h) λt w H z=>aS z λi O r R e q=>by refine bS e λo c e=>⟨i,O,o,R,c,?_⟩;cases o with|aF ρ'=>exactλj H' m s r'=>⟨ρ',m,r,r',e,λv H2 O2 p=>q v H2 O2 (s.trans p)⟩|ret d=>injection e|brk ρ'=>injection e|cnt ρ'=>injection e⟩
def LC(i:Nat)(u:MU):MU:=λc=>u (qB i c)
theorem Zq(i:Nat)(h:mP X rest u):mP X rest (LC i u):=⟨jJ h.h λm p H z=>aS z λc O r R e q=>ax (R.drop i) λd f S=>⟨qB i c,d,r,f,e,λv H2 O2 j=>q v H2 O2 (S.trans j)⟩⟩
noncomputable def y6(i:Nat)(c:aj):Option (Λ×ET):=match c[i]? with|some (Z (.xt (.x a) es))=>Z (a,am,es)|some (Z (.xt (.t (Z a) ks) es))=>Z (a,Z ks,es)|_=>am
def Zr{x:Λ×ET}(h:y6 i c=Z x):c[i]?=Z (Z (.xt (xd x.1 x.2.1) x.2.2)):=by
 unfold y6 at h;split at h;·rename_i q;exists h;exact q
 ·rename_i q;exists h;exact q
 ·injection h
def exts:List Nat->aj->Option (List (Λ×ET))|[],_=>Z []|i::is,c=>(y6 i c).bind λx=>(exts is c).map (x:: ·)
theorem LD:∀{is:List Nat}{L:List (Λ×ET)},exts is d=Z L->∀x∈L,∃i,y6 i d=Z x
 |[],L,h,x,hx=>by exists h;cases hx|i::is,L,h,x,hx=>by
  refine bS h λy f h=>ax (bQ.mp h) λm j c=>?_;subst c;rcases a6.mp hx with rfl|hx;·exact⟨i,f⟩
  ·exact LD j x hx
theorem RO.ext{K:au}{H:Hp}{d:St}{f:aj}{O:List Λ}(R:RO K H d f O){i:Nat}{x:Λ×ET}(h:f[i]?=Z (Z (.xt (xd x.1 x.2.1) x.2.2))):d[i]?=Z (Z (.ref x.1))/\x.1∈O/\OX K H 'r' (xd x.1 x.2.1) x.1 [] x.2.2/\Off d f [x.1]:=by
 refine aM (R.xt i _ _ h) λun y=>cv y λm A j p r c q=>?_;clear y;obtain rfl:=c.flat (v9 _ _);obtain⟨a,o,es⟩:=x;have e:m=a:=by cases o with|none=>exact c.1|some ks=>exact aM c λ_ y=>bh y λ_ _ _ _ z=>z a W
 subst e;rw[XD.yU (v9 _ _)]at j;exact⟨j,p _ bZ,c,q⟩
def Du(is:List Nat)(fo:Zaj):MU:=λc=>(fo c).bind λd=>(exts is c).map λx=>(d,x)
def Zs(is:List Nat)(h:cT X e fo):mP X [.Return (Z e) pos] (Du is fo):=⟨jJ (qf (rS h.h)) λA B H z=>aS z λf O r R e q=>by refine bS e λd j e=>ax (bQ.mp e) λL m c=>?_;subst c;refine⟨f,O,d,R,j,λv H' S r=>?_⟩;refine q v H' O S.same (λx p=>?_) r;obtain⟨i,t⟩:=LD m x p;exact gz ((R.mono S).ext (Zr t)) λ_ w y _=>⟨w,y⟩⟩
def v_(t:Zae)(u w:MU):MU:=λd=>(t (fz d)).bind λc=>if c=be then u d else w d
theorem Zt(i:JT X c t)(j:mP X a u)(m:mP X rest w):mP X (.If c a [] pos::rest) (v_ t u w):=⟨jJ (lE (uY i.h j.h xQ) m.h) λy A H z=>aS z λd O r R e q=>by refine bS e λk p e=>⟨fz d,k,R.fz,p,λB x=>?_⟩;have S:=SO.of R.ls x;cases k with|true=>rw[if_pos W]at e;exact⟨d,O,r,R.mono S,e,λv H2 O2 f=>q v H2 O2 (S.same.trans f)⟩|false=>rw[if_neg dg]at e;exact⟨d,O,r,R.mono S,e,λv H2 O2 f=>q v H2 O2 (S.same.trans f)⟩⟩
noncomputable def Dv(i:Nat)(f:Zaj):Zal:=λc=>match c[i]? with|some (Z (.xt (.x a) es))=>(f c).bind λd=>if es.length<aA then Z (.aF (c.set i (Z (.xt (.x a) (es++[d])))))else am|_=>am
def Zu{apos cpos:Pos}(i:Nat)(h:cT X e fo)(B:X.N[i]?=Z x)(C:c6 X.env.scope x)(hn:cx e=be)(E:'f'=bi)(p:'i'=bi)(f:'s'=be):KS X (.Expr (.Call (.Attribute (.Name x np) "append" apos) [e] [] cpos) pos) (Dv i fo):=⟨cM (mz (kF m_ uK uL ql (er B C E p) (ed h.h eT (bF hn)) W (by rw[ji (show [e].all cx=be by rw[cW,hn];rfl)];rfl) f (bF hn) (eP W)) W) λDn σ H z=>aS z λI O o R c q=>by
  unfold Dv at c;split at c;case h_2=>injection c
  rename_i a ds j;refine bS c λd J c=>bR c λhz c=>?_
  exists c;obtain⟨t,L,⟨_,_,vs,M,e4⟩,_⟩:=R.ext (x:=(a,am,ds)) j;refine⟨.ref a,t,.inl ⟨W,vs,bX.of M⟩,I,O,d,R,J,λv Q S T=>?_⟩;have w:=R.mono S;obtain⟨_,_,⟨_,_,m,U,y⟩,Y⟩:=w.ext (x:=(a,am,ds)) j;refine⟨a,m,v,W,W,U,by rw[y.length];exact hz,?_⟩;obtain⟨R2,hh⟩:=w.qF j t (A:=[]) (by simpa using L) 'o' Y (H':=upd Q a (.lst (m++[v]))) (λb r=>bu (by simpa using r)) (λb r=>⟨.lst (m++[v]),by rw[aZ.mp r];exact br,.inl ⟨_,W⟩⟩) (κ':=.x a) ⟨W,W,_,br,y.snoc T⟩ W;exact q _ _ O (by rw[hh];exact S.same) R2⟩
end
open Classical in
def runM(ns:Nat)(u:MU)(np c:Nat)(ds:List D)(E:List ET):Option (D×List ET):=if h:(ds.length=np/\E.length=c)/\∃r:D×List ET,r.2.length=E.length/\∀as,as.length=E.length->u (nV ns ds as E)=Z (r.1,as.zip r.2)then Z (choose h.2)else am
theorem Dw{ds:List D}{r:D×List ET}(h:runM ns u np c ds E=Z r):(ds.length=np/\E.length=c)/\r.2.length=E.length/\∀as,as.length=E.length->u (nV ns ds as E)=Z (r.1,as.zip r.2):=by
 unfold runM at h;split at h;·rename_i q;exists h;exact⟨q.1,Ba q.2⟩
 ·injection h
def Zv{ds:List D}{r:D×List ET}(g:ds.length=np/\E.length=c)(hr:r.2.length=E.length)(h:∀as,as.length=E.length->u (nV ns ds as E)=Z (r.1,as.zip r.2)):runM ns u np c ds E=Z r:=by unfold runM;rw[dif_pos ⟨g,r,hr,h⟩];have d:=Ba (p:=λr:D×List ET=>r.2.length=E.length/\∀as,as.length=E.length->u (nV ns ds as E)=Z (r.1,as.zip r.2)) ⟨r,hr,h⟩;have hz:(lx E.length (0:Λ)).length=E.length:=ZxD;have e:=kA (ao ((d.2 _ hz).symm.trans (h _ hz)));have f:=congrArg (Rf Q7) e.2;rw[Q3 (by rw[hz,d.1];exact a9 _),Q3 (by rw[hz,hr];exact a9 _)]at f;exact congrArg Z (Prod.ext e.1 f)
def Zw{P:a8}{w:World}{K:au}{T:Zac}{base:Heap}{x g:Str}{st:Stmt}{f:Λ}{U:dt}{N ps:List Str}{k np ns J:Nat}{u:MU}(Fn:kG K x g st f U)(S:nq N ps (cQ st))(hp:ps.length=np+J)(hn:N.length=ns)(hle:np+J<=ns) (B:∀(m:ω)(A:Around)(c:List Env)(s:ψ)(H:Hp)(E:XK),bA k (A.deeper (iH g (cQ st) s.heap.objs.size f m))->mP (i_ cL P w K T base N g (cQ st) f m A c s H E).j6 (gP st) u):cP P w K T base cL (k+1) f U ps (tF K (runM ns u np J)):=by
 subst hn;refine Fn.ok S (λvs H Q E p=>aU p λus as ds y=>aS y λY d E' e1 _ t=>gz t λC r e _=>by rw[e1,bH,aG,r.length,C.1,hp,(Dw e).1.1,(Dw e).1.2]) (λm A c s H vs Q E hr h=>?_);refine aU h λus as ds y=>aS y λY d E' L M t=>gz t λC r e q=>?_;clear h y t;subst L;refine aQ (Dw e) λhl I e=>⟨_,(B m A c s H E hr).h,nV N.length ds as Y,as,_,Zo 'c' M C r,e as C.1,λv H' O' s1 hx h3=>?_⟩;have sub:∀a∈as,a∈O':=λa ha=>by
  obtain⟨j,hj⟩:=Rc ha;have hl:j<E'.length:=by rw[I,<-C.1];exact(bt.mp hj).1
  exact(hx (a,E'[j]) (cu (i:=j) (by rw[Rh];exact⟨hj,cF hl⟩))).1
 have O:av (aq H' O') (aq H' as):=λb o e=>by obtain⟨hb,e'⟩:=eg e;rw[bj λz=>hb (sub b z)];exact e'
 exact q v H' (s1.trans O) ⟨C.1.trans I.symm,λj a e h1 h2=>(hx (a,e) (cu (i:=j) (by rw[Rh];exact⟨h1,h2⟩))).2.mono (λ_ _=>rfl) O⟩ (h3.mono O)
structure LF(P:a8)(w:World)(K:au)(mg:Zac)(base:Heap)(k:Nat)(x:Str)(F:List D->List ET->Option (D×List ET)):Prop where ex:∃(f:Λ)(fd:dt)(ps:List Str),mg x=Z (.ref f)/\ma K (.ref f)=be/\i8 K fd ps []/\cP P w K mg base cL k f fd ps (tF K F)
noncomputable def qH(i:Nat)(c:aj):Option ET:=match c[i]? with|some (Z (.ow am ds))=>Z (am,ds)|some (Z (.xt (.t am ks) ds))=>Z (Z ks,ds)|_=>am
def things:List Nat->aj->Option (List ET)|[],_=>Z []|i::is,c=>(qH i c).bind λx=>(things is c).map (x:: ·)
noncomputable def mQ:ET->SD|(am,es)=>.own es|(Z ks,es)=>.xt (.t am ks) es
def mR:List Nat->List ET->aj->aj|i::is,e::E,c=>mR is E (c.set i (Z (mQ e)))|_,_,c=>c
noncomputable def kinds(E:List ET):List Bool:=E.map λe=>e.1.isSome
def y7(h:qH i c=Z e):c[i]?=Z (Z (mQ e)):=by
 unfold qH at h;split at h;·rename_i q;exists h;exact q
 ·rename_i q;exists h;exact q
 ·injection h
def At(K:au)(H:Hp)(O:List Λ)(c:St)(i:Nat)(a:Λ)(e:ET):Prop:=c[i]?=Z (Z (.ref a))/\a∈O/\OX K H 'r' (xd a e.1) a [] e.2
section
variable {K:au}{H H':Hp}{σ:St}{ρ:aj}{O:List Λ}
theorem RO.qH(R:RO K H σ ρ O)(h:ρ[i]?=Z (Z (mQ e))):∃a,At K H O σ i a e:=by obtain⟨o,es⟩:=e;cases o with|none=>refine bV (R.own i es h) λa vs d f g j=>?_;exact⟨a,d,f,W,W,vs,g,j⟩|some ks=>refine aM (R.xt i _ _ h) λun y=>cv y λa A m p v q w=>aM q λc y=>bh y λvs r t u _=>?_;subst c;exact⟨a,m,p _ bZ,W,vs,r,t,u,λb z=>ao z⟩
theorem RO.put(R:RO K H σ ρ O){e c:ET}(h:ρ[i]?=Z (Z (mQ e)))(m:c.1.isSome=e.1.isSome)(f:σ[i]?=Z (Z (V.ref a)))(v:a∈O)(p:∀b,b≠a->H' b=H b)(q:OX K H' 'r' (xd a c.1) a [] c.2):RO K H' σ (ρ.set i (Z (mQ c))) O/\aq H' O=aq H O:=by obtain⟨o,es⟩:=e;obtain⟨r,w⟩:=c;cases o with
 |none=>cases r with
  |some ks=>injection m|none=>
   refine aQ q λ_ _ y=>ax y λus x A=>?_;have:H'=upd H a (.lst us):=by
    funext b;by_cases z:b=a;·rw[z,br];exact x
    ·rw[bu z];exact p b z
   rw[this];exact R.chg h f v A
 |some ks=>cases r with
  |none=>injection m
  |some g=>
   refine aM (R.xt i _ _ h) λun y=>cv y λb B d C E I J=>?_
   replace d:σ[i]?=Z (Z (V.ref b)):=d;rw[f]at d;cases d;obtain rfl:=I.flat W;exact aM q λ_ y=>bh y λvs u L M _=>R.qF (κ':=.t am g) h f C E J (λb j=>p b (by simpa using j)) (λb j=>by rw[aZ.mp j];exact⟨_,u,.inr (.inr ⟨_,_,_,W⟩)⟩) ⟨W,vs,u,L,M,λ_ z=>by injection z⟩ W
theorem LG(h:i≠j):(ρ.set i (Z (mQ e)))[j]?=ρ[j]?:=c4 h
theorem LH:∀{is:List Nat}{E:List ET}{ρ:aj},j∉is->(mR is E ρ)[j]?=ρ[j]?|[],_,_,_=>rfl|_::_,[],_,_=>rfl|i::is,e::E,ρ,h=>by show(mR is E _)[j]?=_;rw[LH λz=>h (.tail _ z),LG λz:i=j=>h (z▸bZ)]
theorem RO.mR{G:Hp}:∀{is:List Nat}{as:List Λ}{E E':List ET}{ρ:aj}{H:Hp},RO K H σ ρ O->aq H O=G->is.Nodup->as.Nodup->things is ρ=Z E->kinds E'=kinds E->(is.map λi=>σ[i]?)=as.map (λa=>Z (Z (V.ref a)))->(∀a∈as,a∈O)->(∀b,b∉as->H' b=H b)->EX K H' G as E'->RO K H' σ (DL.mR is E' ρ) O/\aq H' O=G
 |[],as,E,E',ρ,H,R,g,_,_,_,_,hs,_,p,_=>by cases as with|cons _ _=>injection hs|nil=>have:H'=H:=funext λb=>p b 'o';subst this;cases E'<;>exact⟨R,g⟩
 |i::is,as,E,E',ρ,H,R,g,C,hn,q,y,hs,A,p,r=>by cases as with|nil=>injection hs|cons a as=>injection hs with I J;refine bS q λe M q=>ax (bQ.mp q) λE1 t c=>?_;subst c;cases E' with|nil=>injection y|cons u E'=>
  injection y with k1 N;have d:=d8.mp C;have v:=d8.mp hn;have Q:∀b,b≠a->(λb=>if b=a then H' b else H b) b=H b:=λb z=>if_neg z;obtain⟨T,U⟩:=R.put (H':=λb=>if b=a then H' b else H b) (y7 M) k1 I (A a (.head _)) Q (by rw[g];exact(r.2 0 a u W W).mono (λb f=>by rw[aZ.mp f];exact if_pos W) (av.refl _));have tk:∀{is:List Nat}{E:List ET},i∉is->things is ρ=Z E->things is (ρ.set i (Z (mQ u)))=Z E:=λ{is}=>by induction is with|nil=>exactλ_ h=>h|cons j is Y=>intro E B h;refine bS h λx m w=>ax (bQ.mp w) λL q3 c=>?_;subst c;unfold things;rw[show DL.qH j (ρ.set i (Z (mQ u)))=Z x by unfold DL.qH at m⊢;rw[LG λz:i=j=>B (z▸bZ)];exact m,Y (λz=>B (.tail _ z)) q3];rfl
  refine RO.mR (is:=is) (as:=as) (E':=E') T (U.trans g) d.2 v.2 (tk d.1 t) N J (λb f=>A b (.tail _ f)) (λb f=>?_) ⟨rK r.1,λj b x m w=>r.2 (j+1) b x m w⟩;by_cases z:b=a;·rw[z];exact(if_pos W).symm
  ·exact(p b (by simp[z,f])).trans (if_neg z).symm
theorem RO.things(R:RO K H σ ρ O):∀{is:List Nat}{E:List ET},DL.things is ρ=Z E->∃as:List Λ,(is.map λi=>σ[i]?)=as.map (λa=>Z (Z (V.ref a)))/\(∀a∈as,a∈O)/\EX K H 'r' as E|[],E,h=>by exists h;exact⟨[],W,by simp,W,by simp⟩|i::is,E,h=>by refine bS h λe p h=>ax (bQ.mp h) λy c d=>?_;subst d;refine aJ (RO.things R c) λas q r f=>aJ (R.qH (y7 p)) λa t u v=>⟨a::as,by rw[bG,bG,t,q],λb w=>(a6.mp w).elim (λz=>z▸u) (r b),congrArg Nat.succ f.1,λj b x g m=>?_⟩;cases j with|zero=>exists g;exists m;exact v|succ j=>exact f.2 j b x g m
theorem RO.unlike(R:RO K H σ ρ O){i:Nat}{e m:ET}(h:ρ[i]?=Z (Z (mQ e)))(h':ρ[j]?=Z (Z (mQ m)))(d:σ[i]?=Z (Z (V.ref a)))(f:σ[j]?=Z (Z (V.ref a))):i=j:=by
 obtain⟨o,es⟩:=e;obtain⟨p,c⟩:=m;have off:∀{i j:Nat}{ks es c:List D},ρ[i]?=Z (Z (.xt (.t am ks) es))->ρ[j]?=Z (Z (.own c))->σ[i]?=Z (Z (.ref a))->σ[j]?=Z (Z (.ref a))->False:=λ{i j ks es c} h h' d f=>by refine aM (R.xt i _ _ h) λun y=>cv y λb B q u v w r=>?_;rw[d]at q;cases q;exact r j _ _ _ h' f bZ
 cases o with
 |none=>cases p with
  |none=>exact R.inj i j _ _ _ _ a h h' d f|some g=>exact(off h' h f d).elim
 |some ks=>cases p with|none=>exact(off h h' d f).elim|some g=>exact((R.xt j _ _ h').1 i _ _ h).elim id λz=>absurd (d.trans f.symm) z.2.2
theorem RO.LI(R:RO K H σ ρ O):∀{is:List Nat}{as:List Λ}{E:List ET},is.Nodup->DL.things is ρ=Z E->(is.map λi=>σ[i]?)=as.map (λa=>Z (Z (V.ref a)))->as.Nodup
 |[],as,_,_,_,hs=>by cases as with
  |nil=>exact .nil|cons _ _=>injection hs
 |i::is,as,E,g,h,hs=>by cases as with
  |nil=>injection hs|cons a as=>
  injection hs with m f;refine bS h λe p h=>ax (bQ.mp h) λy c _=>?_;have d:=d8.mp g;refine d8.mpr ⟨λz=>d.1 ?_,RO.LI R d.2 c f⟩;have mem:∀{is:List Nat}{E:List ET}{as:List Λ},DL.things is ρ=Z E->(is.map λi=>σ[i]?)=as.map (λa=>Z (Z (V.ref a)))->a∈as->i∈is:=λ{is}=>by induction is with
   |nil=>intro E as _ hs z;cases as with
    |nil=>cases z
    |cons _ _=>injection hs
   |cons j is q=>
    intro E as h hs z;cases as with
    |nil=>cases z
    |cons b as=>
    injection hs with r t;refine bS h λx u v=>ax (bQ.mp v) λL w _=>?_;rcases a6.mp z with rfl|z
    ·rw[R.unlike (y7 p) (y7 u) m r];exact .head _
    ·exact .tail _ (q w t z)
  exact mem c f z
end
section
variable {X:Cx}{e:Expr}{es:List Expr}{st:Stmt}{p pos np:Pos}{f:Zaj}{fs:List Zaj}{x y:Str}{is:List Nat}{F:List D->List ET->Option (D × List ET)}
noncomputable def kT:List Zaj->aj->Option (List D)|[],_=>Z []|f::fs,c=>(f c).bind λd=>(kT fs c).map (d:: ·)
structure kU(X:Cx)(es:List Expr)(fs:List Zaj)(is:List Nat):Prop where
 h:PA X es (λσ H Q=>∃ρ O ds,∃as:List Λ,RO X.K H σ ρ O/\(is.map λi=>σ[i]?)=as.map (λa=>Z (Z (V.ref a)))/\kT fs ρ=Z ds/\∀vs H',SO H H' O->az X.K (aq H' O) vs ds->Q (vs++as.map .ref) H')
 st:es.all cx=be
theorem LJ:kU X [] [] []:=⟨λpos c s g H Q I z=>aU z λi O ds y=>bh y λas R h d q=>eT pos c s g H Q I (by cases as with|cons _ _=>injection h|nil=>exists d;exact q [] H (SO.refl H O) .nil),W⟩
theorem Zx(i:Nat)(r:kU X es [] is)(m:X.N[i]?=Z x)(t:c6 X.env.scope x)(u:'f'=bi)(d:'i'=bi):kU X (.Name x p::es) [] (i::is):=⟨λpos c s v H Q I z=>aU z λw O ds y=>bh y λas R j g q=>(ed (er m t u d) r.h (bF W)) pos c s v H Q I (by cases as with|nil=>injection j|cons a as=>
  injection j with A B
  exists g;refine⟨.ref a,A,w,O,[],as,R,B,W,λvs H' S r=>?_⟩;induction r using vh;exact q [] H' S .nil),by rw[cW,r.st];rfl⟩
theorem LK(h:cT X e f)(r:kU X es fs is)(hn:cx e=be):kU X (e::es) (f::fs) is:=⟨λpos g s w H Q I z=>aU z λm O ds y=>bh y λas R A c q=>(ed h.h r.h (bF hn)) pos g s w H Q I (by refine bS c λd B c=>ax (bQ.mp c) λi C j=>?_;subst j;exact⟨m,O,d,R,B,λv L t E=>⟨m,O,i,as,R.mono t,A,C,λvs H2 u J=>q (v::vs) H2 (t.trans u) (.cons (E.mono u.same) J)⟩⟩),by rw[cW,hn,r.st];rfl⟩
def LM(K:au)(is:List Nat)(fs:List Zaj)(F:List D->List ET->Option (D×List ET)):TE:=λg H Q=>∃c O E ds d E',RO K H g c O/\is.Nodup/\things is c=Z E/\kinds E'=kinds E/\kT fs c=Z ds/\F ds E=Z (d,E')/\∀v H',av 'r' (aq H' O)->RO K H' g (mR is E' c) O->Rep K (aq H' O) v d->Q v H'
theorem Zy{k:Nat}(C:LF X.prog X.w X.K X.mg X.base k x F)(hr:bA k X.A)(hg:Gl X x)(ha:kU X (e::es) fs is)(Dx:'f'=bi):PE X 'p' (LM X.K is fs F):=by
 have B:=ha.st;rw[cW,cV]at B;refine aS C.ex λf fd ps hm hk t=>aM t λi hF=>?_;intro N s σ H Q I ⟨ρ,O,E,ds,d,E',R,T,Y,Zz,sC,Dy,q⟩;refine wpAny_Call_Name_kw (xO I hg hm ?_ Dx);refine aJ (R.things Y) λas hs M _=>?_;have U:=R.LI T Y hs;refine AW (h₀:=X.base) I.ok.mod.qc hk (aL (ha.h pos N s σ H (λus j=>∃vs,us=vs++as.map .ref/\SO H j O/\az X.K (aq j O) vs ds) I ⟨ρ,O,ds,as,R,hs,sC,λvs H' S r=>⟨vs,W,S,r⟩⟩) λus s1 y=>ay y λws j I1 rv t=>aJ t λvs ev S r1=>⟨I1.eN,?_⟩) (bF B.1) (eP B.2);subst ev;have R1:=R.mono S;refine aJ (R1.things Y) λg ZA _ hX=>?_;have ea:g=as:=(Ri λa b z=>by cases z;rfl).mp (ZA.symm.trans hs);subst ea;have sub:∀b,b∈O.filter (λb=>decide (b∉g))↔b∈O/\b∉g:=λb=>by simp[eR]
 generalize ZC:O.filter (λb=>decide (b∉g))=O2 at sub;have hL:iA j O2:=λb i=>R1.ls b ((sub b).mp i).1;have eh:aq (aq j O2) g=aq j O:=by
  funext b;by_cases i:b∈g;·rw[c8 i,c8 (M b i)]
  ·rw[bj i];by_cases m:b∈O;·rw[c8 m,c8 ((sub b).mpr ⟨m,i⟩)]
   ·rw[bj m,bj λz=>m ((sub b).mp z).1]
 have L:∀b∈g,b∉O2:=λb i z=>((sub b).mp z).2 i;refine aL (u9 (Q:=λv H2=>av (aq (aq j O2) g) (aq H2 g)/\EX X.K H2 (aq H2 g) g E'/\Rep X.K (aq H2 g) v d) hF hr i .nil r0 (Inv.hide I1 hL) rv ⟨vs,g,ds,E,d,E',by rw[eS],U,hX.mono (λb i=>bj (L b i)) (by rw[eh];exact av.refl _),by rw[eh];exact r1,Dy,λv H' a b c=>⟨a,b,c⟩⟩) λu s' y=>cv y λv H2 J rv s2 x2 r2=>?_;obtain⟨J',hn⟩:=Inv.yA I1 hL J λb xs e=>by
  have i:b∉g:=λz=>by
   refine ax (R1.ls b (M b z)) λu hu ow=>?_;rw[bj (L b z)]at e;rw[e]at hu
   exists hu;rcases ow with⟨_,z⟩|⟨_,z⟩|⟨_,_,_,z⟩<;>injection z
  exact(eg (s2 b _ (show aq (aq j O2) g b=Z (.tup xs) by rw[bj i];exact e))).2
 have el:aq (lay j O2 H2) O=aq H2 g:=by
  funext b;by_cases i:b∈g
  ·rw[c8 i,c8 (M b i)]
  ·rw[bj i];by_cases m:b∈O
   ·rw[c8 m,hn b ((sub b).mpr ⟨m,i⟩)]
   ·rw[bj m,dO λz=>m ((sub b).mp z).1]
 rw[eh,<-el]at s2;have S2:SO j (λb=>if b∈g then j b else lay j O2 H2 b) O:=⟨λb o e=>by
  obtain⟨i,e'⟩:=eg e;rw[bj i,if_neg λz=>i (M b z)];exact(eg (s2 b o e)).2,λb i=>by
  by_cases z:b∈g
  ·exact if_pos z
  ·exact(if_neg z).trans (gC ((sub b).mpr ⟨i,z⟩))⟩
 obtain⟨R3,_⟩:=RO.mR (H':=lay j O2 H2) (G:=aq H2 g) (R1.mono S2) (by
  rw[<-el];funext b;by_cases i:b∈O
  ·rw[c8 i,c8 i]
  ·rw[bj i,bj i,if_neg λz=>i (M b z)]) T U Y Zz hs M (λb i=>(if_neg i).symm) (x2.mono (λb i=>dO (L b i)) (av.refl _));exact⟨v,_,J',rv,q v _ (S.same.trans s2) R3 (by rw[el];exact r2)⟩
def LN(j:Nat)(is:List Nat)(F:List D->List ET->Option (D×List ET))(fs:List Zaj):Zal:=λc=>(iC j c).bind λd=>(things is c).bind λE=>(kT fs c).bind λds=>(F ds E).bind λx=>if(j∉is/\is.Nodup)/\kinds x.2=kinds E/\d.length<aA then Z (.aF ((mR is x.2 c).set j (Z (.own (d++[x.1])))))else am
structure KM(X:Cx)(e:Expr)(is:List Nat)(F:List D->List ET->Option (D×List ET))(fs:List Zaj):Prop where
 h:PE X e (LM X.K is fs F)
 s:cx e=be
def ZD{k:Nat}(C:LF X.prog X.w X.K X.mg X.base k x F)(hr:bA k X.A)(d:kU X (e::es) fs is)(g:Gl X x)(c:'f'=bi):KM X 'p' is F fs:=⟨Zy C hr g d c,W⟩
def ZE{apos cpos:Pos}(j:Nat)(h:KM X e is F fs)(J:X.N[j]?=Z x)(L:c6 X.env.scope x)(M:'f'=bi)(m:'i'=bi)(g:'s'=be):KS X (.Expr (.Call (.Attribute (.Name x np) "append" apos) [e] [] cpos) pos) (LN j is F fs):=⟨cM (mz (kF m_ uK uL ql (er J L M m) (ed h.h eT (bF h.s)) W (by rw[ji (show [e].all cx=be by rw[cW,h.s];rfl)];rfl) g (bF h.s) (eP W)) W) λDn σ H z=>aS z λw O o R c q=>by
  refine bS c λr Q c=>bS c λE T c=>bS c λds U c=>?_;obtain⟨⟨d,E'⟩,Y,c⟩:=bind_some c;refine bR c λhz c=>?_
  exists c;have i:=qx Q;refine bV (R.own j r i) λa vs t e2 e3 e4=>⟨.ref a,t,.inl ⟨W,vs,bX.of e3⟩,w,O,E,ds,d,E',R,hz.1.2,T,hz.2.1,U,Y,λv H1 s1 A r1=>?_⟩;have B:(mR is E' w)[j]?=Z (Z (.own r)):=(LH hz.1.1).trans i;refine bV (A.own j r B) λa' u C f2 f3 I=>?_;rw[t]at C;cases C;refine⟨a,u,v,W,W,f3,by rw[I.length];exact hz.2.2,?_⟩;obtain⟨R2,hh⟩:=A.chg B t e2 (I.snoc r1);exact q _ _ O (by rw[hh];exact s1) R2⟩
end
def tupI:D->Option 'u'|.tup xs=>lT xs|_=>am
def Dz:List D->Option (List 'u')|[]=>Z []|d::ds=>(tupI d).bind λa=>(Dz ds).map (a:: ·)
noncomputable def insI(x:Int):List Int->List Int|[]=>[x]|y::r=>if y<x then y::insI x r else x::y::r
def nX:List Int->List Int|[]=>[]|x::r=>insI x (nX r)
theorem DA(x:Int):∀l:List Int,(insI x l).Perm (x::l)
 |[]=>.refl _|y::r=>by
  unfold insI;split;·exact((DA x r).cons y).trans (.swap x y r)
  ·exact .refl _
theorem y8:∀l:List Int,(nX l).Perm l|[]=>.refl _|x::r=>(DA x (nX r)).trans ((y8 r).cons x)
theorem LO(x:Int):∀{l:List Int},l.Pairwise (· <= ·)->(insI x l).Pairwise (· <= ·)
 |[],_=>GA _ _|y::r,h=>by
  have h':=iw.mp h;unfold insI;split
  ·refine iw.mpr ⟨λz hz=>?_,LO x h'.2⟩;rcases a6.mp ((DA x r).mem_iff.mp hz)with rfl|hz;·lia
   ·exact h'.1 z hz
  ·refine iw.mpr ⟨λz hz=>?_,h⟩;rcases a6.mp hz with rfl|hz;·lia
   ·have:=h'.1 z hz;lia
theorem DB:∀l:List Int,(nX l).Pairwise (· <= ·)|[]=>QM|x::r=>LO x (DB r)
theorem DC:∀{l m:List Int},l.Pairwise (· <= ·)->m.Pairwise (· <= ·)->l.Perm m->l=m
 |[],m,_,_,p=>(List.nil_perm.mp p).symm|x::l,[],_,_,p=>absurd p.length_eq 'o'|x::l,y::m,f,g,p=>by
  have c:=iw.mp f;have d:=iw.mp g;have e:x=y:=by
   have q1:x∈y::m:=p.mem_iff.mp bZ;have q2:y∈x::l:=p.mem_iff.mpr bZ;rcases a6.mp q1 with rfl|q1;·rfl
   ·rcases a6.mp q2 with rfl|q2;·rfl
    ·have:=c.1 y q2;have:=d.1 x q1;lia
  subst e;rw[DC c.2 d.2 (List.Perm.cons_inv p)]
theorem LP{K:au}{H:Hp}:∀{ns:List Int}{us:List ω},uE us ns->Vals (ns.map V.int) us/\az K H (ns.map V.int) (ns.map D.int)|[],_,.nil=>⟨.nil,.nil⟩|n::ns,_,.cons _ t r=>by obtain⟨c,d⟩:=LP (K:=K) (H:=H) r;exact⟨.cons ⟨t,W⟩ c,.cons (.int n) d⟩
noncomputable def mS:ET->D|(am,es)=>.lst es|(Z ks,es)=>.tab ks es
noncomputable def nY:List D->Option (List ET)|[]=>Z []|.lst es::r=>(nY r).map ((am,es):: ·)|.tab ks es::r=>(nY r).map ((Z ks,es):: ·)|_=>am
theorem y9:∀E:List ET,nY (E.map mS)=Z E|[]=>rfl|(am,es)::r=>by show(nY (r.map mS)).map _=_;rw[y9 r];rfl|(Z ks,es)::r=>by show(nY (r.map mS)).map _=_;rw[y9 r];rfl
def encM(F:List D->List ET->Option (D×List ET)):Zad:=λds=>match ds.reverse with|.tup xs::r=>(nY xs).bind λE=>(F r.reverse E).map λx=>.tup [x.1,.tup (x.2.map mS)]|_=>am
def mT(G:Zad):List D->List ET->Option (D×List ET):=λds E=>match G (ds++[.tup (E.map mS)])with|some (.tup [d,.tup xs])=>(nY xs).map λE'=>(d,E')|_=>am
theorem ZF(F:List D->List ET->Option (D×List ET))(ds:List D)(E:List ET):encM F (ds++[.tup (E.map mS)])=(F ds E).map λx=>.tup [x.1,.tup (x.2.map mS)]:=by unfold encM;rw[List.reverse_append];show(nY (E.map mS)).bind (λE=>(F ds.reverse.reverse E).map λx:D×List ET=>D.tup [x.1,.tup (x.2.map mS)])=_;rw[y9,List.reverse_reverse];rfl
theorem LQ(F:List D->List ET->Option (D×List ET)):mT (encM F)=F:=by funext ds E;unfold mT;rw[ZF];cases F ds E with|none=>rfl|some x=>show(nY (x.2.map mS)).map _=_;rw[y9];rfl
end DL
set_option backward.match.sparseCases true
namespace DL
open PySem PySem.Spec PyProof.Rows L2
section
variable {prog:a8}{w:World}{A:Around}{E:Zab}{s:ψ}
def ZG{n:Nat}{P:Nat->ω->Prop}{OK:Heap->Prop}(K:ZxE prog w T r d n P OK)(B:A.handled=am)(i:OK s.heap)(hn:n<=aA){R:List ω->ψ->Prop} (h:∀(h':Heap)(tk:Nat)(g:Array ω),s.heap.objs.size<=h'.objs.size->(∀b o,s.heap.get? b=Z o->h'.get? b=Z o)->uN P g n->R g.toList {s with heap:=h',toks:=tk}):wpAny 'j' A (collect (.ref r)) R E s:=by
 obtain⟨C,ld⟩:=K.there _ i;have p:=PySem.W.kdl_extend (A:=A) (s:={s with heap:=s.heap.push (du "list" #[] 0)}) (R:=λq s'=>q=.ok (.ret (.ref s.heap.objs.size))/\∃h' tk g c,s'={s with heap:=h',toks:=tk}/\(∀b o,s.heap.get? b=Z o->h'.get? b=Z o)/\h'.get? s.heap.objs.size=Z (du "list" g c)/\uN P g n) K B (K.keep _ _ i λb _ o e=>cO _ e) s.heap.objs.size (w8 C) (w8 ld) (.ref s.heap.objs.size) 0 (eo _ W) (λh' tk g c t m v=>⟨W,h',tk,g,c,W,λb o e=>t b o (df (b6 e)) (cO _ e),m,v⟩) hn;have j:∀s',(∃h' tk g c,s'={s with heap:=h',toks:=tk}/\(∀b o,s.heap.get? b=Z o->h'.get? b=Z o)/\h'.get? s.heap.objs.size=Z (du "list" g c)/\uN P g n)->wpAny 'j' A (load s.heap.objs.size>>=λo=>match o.data with|.seq xs _=>pure xs.toList|_=>unsupported "internal:collect") R E s':=λs' z=>aU z λh' tk g u=>bh u λc e t m v=>by subst e;exact υ (wpAny_load m (χ (h h' tk g (gK (b6 m)) t v)))
 unfold collect;refine υ (wpAny_runValue (GQ entry_proto_collect' ?_));rw[GS PySem.F.plain_proto_collect _];refine υ (wpAny_newObj_type ?_);refine χ ⟨Rb ZxF _,GQ entry_list_iadd' ?_⟩;rw[GS ZxF _];refine lq p (λf s' x=>?_) λe s' x=>?_;·cases f with|done f=>injection x.1 with x1;subst x1;exact j s' x.2|again c=>exact⟨x.1,AV x.2 λq H y=>by obtain⟨rfl,y⟩:=y;exact j H y⟩
 ·injection x.1
def ZH{n:Nat}{P:Nat->ω->Prop}{OK:Heap->Prop}(K:ZxE prog w T r d n P OK)(y:A.handled=am)(p:OK s.heap)(g:n<64) (h:∀(vs:List ω)(i:ψ)(L:Λ),vs.length=n->(∀j v,vs[j]?=Z v->P j v)->i.heap.get? L=Z (du "list" vs.toArray 0)->i.os=s.os->i.gens=s.gens->s.heap.objs.size<=L->(∀b o,s.heap.get? b=Z o->b≠L/\i.heap.get? b=Z o)-> wpAny 'j' A.in1 (call (.builtin "list.sort") [.ref L]) (λ_ s'=>Q (.ref L) s') E i):wpAny 'j' A (call (.builtin "sorted") [.ref r]) Q E s:=by
 refine Zxg kind_sorted plain_sorted entry_sorted (args_sorted1 _) ?_;unfold Builtin.«sorted»;refine υ (m:=checkCount "sorted" 1 1 _) (χ ?_);refine υ (ZG (A:=A.in1) K y p (gK (uI g 'b')) λh' tk f hz t c=>?_);have u:f.toList.length=n:=by rw[oE];exact c.1
 refine υ (Q1 ?_ (by rw[u];exact gK (uI g 'b')));refine υ (wpAny_holding (lq (h f.toList {s with heap:=h'.push (du "list" f.toList.toArray 0),toks:=tk} h'.objs.size u (λj v e=>c.2 j v (by rw[<-uD];exact e)) (eo _ W) W W hz λb o q=>⟨df (b6 (t b o q)),cO _ (t b o q)⟩) (λ_ s' x=>?_) λ_ _ e=>e));exact χ ⟨_,W,x⟩
end
def ZI{X:Cx}(r:X.calm=be){f:Zaa}{t:St}{H:Hp}{s:ψ}(I:Inv X f t H s){a:Λ}{ob:Obj}{ks:List Key}{vs:List V}(h:H a=Z (.dM ob (.dK (ks.zip vs))))(i:ks.length=vs.length)(g:ks.length<64){Q:Zab}{E:Zab} (k:∀(c:List ω)(e:ψ)(L:Λ),c.length<64->Vals (ks.map kV) c->e.heap.get? L=Z (du "list" c.toArray 0)->e.os=s.os->e.gens=s.gens->s.heap.objs.size<=L->(∀b o,s.heap.get? b=Z o->b≠L/\e.heap.get? b=Z o)->wpAny 'd' X.A.in1 (call (.builtin "list.sort") [.ref L]) (λ_ s'=>Q (.ref L) s') E e):wpAny 'd' X.A (call (.builtin "sorted") [.ref a]) Q E s:=by refine aQ (tf I h) λN y z=>cA z λws ep m B=>?_;have d:=KV.length m;rw[qC i]at d;refine ZH (PySem.W.kdl_dict (knd:=h7 X.prog X.w) (kvs:=ws) (ep:=ep) y) (I.ok.hd r) B (by rw[<-d];exact g) λc e L i1 i2=>k c e L (by rw[i1,<-d];exact g)<|YU (by rw[aG,i1,d]) λj v w p hw=>?_;rw[bJ,bQ]at p;obtain⟨k,C,rfl⟩:=p;refine cA (i2 j w hw) λk' x J M=>?_;obtain⟨O,hz⟩:=vR i C;obtain⟨u,q,_⟩:=YT m hz;rw[J]at q;cases q;exact K_ M
def LR{X:Cx}{c:Zaa}{f:St}{H:Hp}{s d:ψ}(I:Inv X c f H s){L:Λ}{e:List ω}{out:Array ω}{us:List V}{ds:List D}{Q:V->Hp->Prop}(h:d.heap.get? L=Z (du "list" e.toArray 0))(i:d.os=s.os)(j:d.gens=s.gens)(hz:s.heap.objs.size<=L)(m:∀b o,s.heap.get? b=Z o->b≠L/\d.heap.get? b=Z o)(p:us.length<=aA)(r:Vals us out.toList)(t:az X.K H us ds)(q:∀v H',av H H'->Rep X.K H' v (.lst ds)->Q v H'):EP X c f Q (.ref L) {d with heap:=QY d.heap L e out}:=by obtain⟨u,w⟩:=sortedHeap_at (out:=out) h;have x:Inv X c f (upd H L (.lst us)) {s with heap:=QY d.heap L e out,toks:=d.toks}:=I.laid (λb ob q=>by obtain⟨n1,n2⟩:=m b ob q;rw[sortedHeap_old n1 (b6 n2)];exact n2) hz ⟨p,out.toList,u,r,by simpa [du]using w⟩;have g:=dj (I.aV.fresh hz) (.lst us);exact⟨.ref L,_,Zm x W j i,W,q _ _ g (.lst (.inl br) (t.mono g))⟩
def nZ:Zad:=k1 λd=>match d with|.aW ks _=>if ks.length<64 then(match lT (ks.map kD),strsOf (ks.map kD)with|some ns,_=>Z (.lst ((nX ns).map .int))|none,Z c=>Z (.lst ((gR c).map .str))|_,_=>am)else am|_=>am
def ZJ{X:Cx}(hc:X.calm=be):JC X (.builtin "sorted") nZ:=⟨sv λ{J}{s}{σ}{H}{x}{u}{Q}{dx}{d} I r1 r e q=>by induction r using gp with
 |@aW a ob ks vs ds h rr i hn=>
  have j:=Ln (K:=X.K) (H:=H) ks hn.2;simp only[nZ]at e;refine bR e λm e=>?_;cases r1;refine ZI hc I h i m λVD s1 L i1 M g N O hz T=>?_;have len:∀{w:Type}{f:w->D}{l:List w},ks.map kD=l.map f->l.length<=aA:=λ{w f l} e=>by have:=congrArg uB e;rw[aG,aG]at this;exact this▸gK (uI m 'b')
  cases t:lT (ks.map kD)with
  |some ns=>rw[t]at e;exists e;have i:=len (K6 t);rw[K6 t]at j;refine mj Q4 ⟨_,g,W⟩ Q5 (list_sort_tree g (DL.xZ ns j M) i1 λout y z A a3=>⟨_,W,?_⟩) (Q6 _);have eq:y=nX ns:=DC a3 (DB ns) (A.trans (y8 ns).symm);subst eq;obtain⟨B,C⟩:=LP (K:=X.K) (H:=H) z;exact LR I g N O hz T (by rw[aG,(y8 ns).length_eq];exact i) B C q|none=>rw[t]at e;cases v:strsOf (ks.map kD)with
   |none=>rw[v]at e;injection e|some p=>rw[v]at e;exists e;have i:=len (sI v);rw[sI v]at j;have c:=yk j M;refine mj Q4 ⟨_,g,W⟩ Q5 (list_sort_treeK strKind_oneLt g c.keysOf (λU Y rest e=>keyKind_strs (by rw[<-e];exact c)) i1 λCj z A=>⟨_,W,?_⟩) (Q6 _);refine aJ (sorted_out_str c z A) λE b1 b2 b3=>?_;have eq:E=gR p:=CC (JH b3) (ym p) (b2.trans (kN p).symm);subst eq;obtain⟨B,C⟩:=Cz (K:=X.K) (H:=H) b1 λx hx=>Cy j x ((kN p).mem_iff.mp hx);exact LR I g N O hz T (by rw[aG,(kN p).length_eq];exact i) B C q
 |_=>injection e⟩
end DL
set_option backward.match.sparseCases false
namespace DL
open PySem PySem.Spec PyProof.Rows L2
section
variable {X:Cx}
def ZK:V->List V->Hp->VK->Prop:=λx vs H Q=>∃a kvs k y,x=.ref a/\vs=[kV k,y]/\H a=Z (.dK kvs)/\kvs.length<aA/\(∀v,gQ kvs k=Z v->Q v H)/\(gQ kvs k=am->Q y (upd H a (.dK (putK kvs k y))))
def ZL:nz X "dict.setdefault" ZK:=by intro i s O H x vs v us Q I A f ⟨a,kvs,k,y,B,C,j,hz,E,J⟩;subst B C;cases A;cases f with|@cons _ T _ _ L f=>cases f with|@cons _ M _ _ m f=>
 induction f using gM;refine aQ (IA I.aV j) λz p u=>ax u λws c r=>?_;clear u;have d:=c.val k;refine Rj GV r.typeIs ZxG (ZxH _ _ _) (kt_meets_setdefault (h7 X.prog X.w) a (r9 L) p M) ⟨ws,r,by rw[<-c.length];exact z,λw e=>?_,λe h' g hs=>?_⟩;·cases q:gQ kvs k with|none=>rw[q,e]at d;exact d.elim|some h=>rw[q,e]at d;exact⟨h,H,I.tok _,d,E h q⟩
 ·cases q:gQ kvs k with|some h=>rw[q,e]at d;exact d.elim|none=>
   have N:(putK kvs k y).length<=aA:=by have:=BS kvs k y;lia
   exact⟨y,_,x4 I (by rw[j];exact jD) hs (eM g λq _ _ t _=>⟨q,t⟩) (IB N p (c.put k m) g),m,J q⟩
end
noncomputable def ij:List Key->Key->Nat|[],_=>0|k::ks,j=>if k=j then 0 else ij ks j+1
theorem y_:∀{ks:List Key}{vs:List V},ks.length=vs.length->gQ (ks.zip vs:List (Key×V)) j=vs[ij ks j]?
 |[],[],_=>rfl|k::ks,v::vs,h=>by
  unfold ij;by_cases e:k=j;·rw[if_pos e];exact vb e
  ·rw[if_neg e];exact(vc e).trans (y_ (rK h))
theorem LS:∀{ks:List Key},j∈ks->ij ks j<ks.length
 |k::ks,h=>by
  unfold ij;split;·exact mq _
  ·rename_i e;exact ZxI (LS ((a6.mp h).resolve_left λz=>e z.symm))
def wb(ks:List Key)(ds:List D)(j:Key)(k n:D):Option (List Key×List D):=if ks.length<aA then if ij ks j<ks.length then(match ds[ij ks j]? with|some (.tup [k',.lst es])=>if es.length<aA then Z (ks,ds.set (ij ks j) (.tup [k',.lst (es++[n])]))else am|_=>am)else Z (ks++[j],ds++[.tup [k,.lst [n]]])else am
section
variable {K:au}{H H':Hp}{σ:St}{ρ:aj}{O O':List Λ}
def RO.grow(R:RO K H σ ρ O)(S:av 'r' (aq H' O'))(h:∀a∈O,a∈O'/\H' a=H a)(g:iA H' O'):RO K H' σ ρ O':=⟨R.len,g,λi d e=>ax (R.bY i d e) λv f c=>⟨v,f,c.mono S⟩,λi κ ds e=>cv (R.ow i κ ds e) λa vs f c j m p=>⟨a,vs,f,(h a c).1,(h a c).2.trans j,m.mono S,p⟩,R.inj,R.xt.of (λ_ _ _ h=>⟨h,W⟩) S λA q o=>⟨λb r=>h b (q b r),o⟩⟩
def RO.gone(R:RO K H σ ρ O)(i:Nat)(v:V):RO K H (σ.set i (Z v)) (ρ.set i am) O:=by
 have old:∀(j:Nat)(x:SD),(ρ.set i am)[j]?=Z (Z x)->j≠i/\ρ[j]?=Z (Z x):=λj x h=>by
  by_cases f:i=j
  ·subst f;by_cases p:i<ρ.length;·rw[gq p]at h;injection h with h;injection h
   ·rw[Gw.mpr (by rw[d9];lia)]at h;injection h
  ·rw[c4 f]at h;exact⟨bW f,h⟩
 have sg:∀{j:Nat},j≠i->(σ.set i (Z v))[j]?=σ[j]?:=λh=>c4 (bW h);refine⟨by rw[d9,d9];exact R.len,R.ls,λj e h=>?_,λj κ ds h=>?_,λj k κ κ' ds es a c d g m=>?_,R.xt.of (λj κ ds h=>⟨(old j _ h).2,sg (old j _ h).1⟩) (av.refl _) λA q o=>⟨λb r=>⟨q b r,W⟩,λj κ es b c d=>?_⟩⟩;·rw[sg (old j _ h).1];exact R.bY j e (old j _ h).2
 ·rw[sg (old j _ h).1];exact R.ow j κ ds (old j _ h).2
 ·rw[sg (old j _ c).1]at g;rw[sg (old k _ d).1]at m;exact R.inj j k κ κ' ds es a (old j _ c).2 (old k _ d).2 g m
 ·rw[sg (old j _ c).1]at d;exact o j κ es b (old j _ c).2 d
def OX.more{ks:List Key}{A T:List Λ}{ds:List D}{k:D}{n:D} (M:H a=Z (.dK (ks.zip (T.map .ref)))) (N:qv (Z ks) (T.map .ref)) (B:A.Nodup) (Q:T.length=ds.length) (U:A.length=ds.length) (C:∀(j:Nat)(b c:Λ)(d:D),A[j]?=Z b->T[j]?=Z c->ds[j]?=Z d->∃v k vs es,G c=Z (.tup [v,.ref b])/\Rep K G v k/\d=.tup [k,.lst es]/\H b=Z (.lst vs)/\az K G vs es) (f:A[m]?=Z b) (E:ds[m]?=Z (.tup [k,.lst es])) (hw:H b=Z (.lst ws)) (i:az K G ws es) (p:a≠b) (Y:Rep K G v n):OX K (upd H b (.lst (ws++[v]))) G (.s ks) a A (ds.set m (.tup [k,.lst (es++[n])])):=by
 refine⟨T,dD M p,N,B,by rw[d9];exact Q,by rw[d9];exact U,λj b' c d g I h=>?_⟩;by_cases q:m=j
 ·subst q;rw[f]at g
  exists g;rw[gq (bt.mp E).1]at h
  exists h;refine aU (C m b c _ f I E) λr k' vs y=>bh y λe t w x u=>aM u λJ L=>?_;clear y u;cases x;exact⟨r,k,_,_,t,w,W,br,i.snoc Y⟩
 ·rw[c4 q]at h;refine aU (C j b' c d g I h) λr k' vs y=>bh y λe t w x u=>aM u λJ L=>?_;clear y u;refine⟨r,k',vs,e,t,w,x,?_,L⟩;rw[bu λz=>q ((GP (bt.mp f).1 B).mp (by rw[f,g,z]))];exact J
def OX.fresh{A T:List Λ}{ds:List D}{k n:D} (B:H' a=Z (.dK ((ks++[j]).zip ((T++[c]).map .ref)))) (C:qv (Z ks) (T.map .ref)) (E:j∉ks) (hs:nE j=be) (I:A.Nodup) (r:T.length=ds.length) (t:A.length=ds.length) (J:∀(j:Nat)(b c:Λ)(d:D),A[j]?=Z b->T[j]?=Z c->ds[j]?=Z d->∃v k vs es,G c=Z (.tup [v,.ref b])/\Rep K G v k/\d=.tup [k,.lst es]/\H' b=Z (.lst vs)/\az K G vs es) (L:p∉A) (M:G c=Z (.tup [v,.ref p])) (N:Rep K G v k) (hw:H' p=Z (.lst [w])) (Q:Rep K G w n):OX K H' G (.s (ks++[j])) a (A++[p]) (ds++[.tup [k,.lst [n]]]):=by
 refine⟨T++[c],B,λU e=>?_,?_,by simp[r],by simp[t],λi Y c' d f g h=>?_⟩;·exists e;obtain⟨u,g2,g3⟩:=C ks W;rw[aG]at u;refine⟨by simp[u],mr.mpr ⟨g2,by simp,λx m y q z=>E (by rw[<-aZ.mp q,<-z];exact m)⟩,λx m=>(bU.mp m).elim (g3 x) λz=>by rw[aZ.mp z];exact hs⟩
 ·exact mr.mpr ⟨I,by simp,λx m y q z=>L (by rw[<-aZ.mp q,<-z];exact m)⟩
 ·by_cases hi:i<ds.length;·rw[gL 'c']at f g h;exact J i Y c' d f g h
  ·rw[ku 'c']at f g h;rw[t]at f;rw[r]at g;cases z:i-ds.length with|succ _=>rw[z]at f;simp at f|zero=>
    rw[z]at f g h
    exists f;exists g;exists h;exact⟨v,k,_,_,M,N,W,hw,.cons Q .nil⟩
end
section
variable {X:Cx}{xi xl xw xk xn:Str}{p1 p2 p3 p4 p5 p6 p7 p8 p9 LU LV LW ap cp tH tI:Pos}
def wc(i l w k n:Nat):Zal:=λc=>match c[i]?,aa w (pv c),aa k (pv c),aa n (pv c)with|some (Z (.xt (.s ks) ds)),Z dw,Z dk,Z dn=>(mG dw).bind λj=>(wb ks ds j dk dn).bind λz=>if l≠n/\l<c.length then Z (.aF ((c.set i (Z (.xt (.s z.1) z.2))).set l am))else am|_,_,_,_=>am
def ZM(i l w k n:Nat)(hN:X.N.Nodup)(hi:X.N[i]?=Z xi)(hl:X.N[l]?=Z xl)(hw:X.N[w]?=Z xw)(hk:X.N[k]?=Z xk)(hn:X.N[n]?=Z xn)(vi:c6 X.env.scope xi)(vl:c6 X.env.scope xl)(vw:c6 X.env.scope xw)(vk:c6 X.env.scope xk)(vn:c6 X.env.scope xn)(hx:Loc X.env.scope xl) (hd:∀x∈[xi,xl,xw,xk,xn],'f'=bi/\'i'=bi) (ha:(ap.endLine==cp.line)=be) (ZN:(tH.endLine==tI.line)=be) (hs:d4 (.Call (.Attribute (.Name xi p2) "setdefault" ap) [.Name xw p3,.Tuple [.Name xk p4,.List [] p5] t1 p6] [] cp) (Z (.Name xl p1)) p7.line X.env=pure bi) (hf:X.fn xl=be\/X.env.scope.names.lookup xl=Z .local):KB X [.Assign [.Name xl p1] (.Call (.Attribute (.Name xi p2) "setdefault" ap) [.Name xw p3,.Tuple [.Name xk p4,.List [] p5] t1 p6] [] cp) p7,.Expr (.Call (.Attribute (.Subscript (.Name xl p8) (.Constant (.int 1) t2 p9) LU) "append" tH) [.Name xn LV] [] tI) LW] (wc i l w k n):=by
 have B:∀{j:Nat}{x:Str}{p:Pos},X.N[j]?=Z x->c6 X.env.scope x->x∈[xi,xl,xw,xk,xn]->PE X (.Name x p) (xN j):=λh1 h2 h3=>er h1 h2 (hd _ h3).1 (hd _ h3).2;have e1:=lF (pos:=p7) (pos':=p1) hN hl hx (kF (cpos:=cp) (apos:=ap) Rk GV ZxJ ZL (B (p:=p2) hi vi (by exact .head _)) (ed (B (p:=p3) hw vw (by exact .tail _ (.tail _ (.head _)))) (ed (HQ (x1:=t1) (pos:=p6) (ed (B (p:=p4) hk vk 'o') (ed (u7 (pos:=p5) eT) eT (bF W)) (bF W))) eT (bF W)) (bF W)) W (by rw[ji (by rfl)];rfl) ha (bF W) (eP W)) hs hf;have e2:=mz (pos:=LW) (kF (cpos:=tI) (apos:=tH) m_ uK uL ql (xX (pos:=LU) Im (B (p:=p8) hl vl (by exact .tail _ (.head _))) (Bp (i:=1) (j:=t2) (pos:=p9)) (qs W)) (ed (B (p:=LV) hn vn 'o') eT (bF W)) W (by rw[ji (by rfl)];rfl) ZN (bF W) (eP W)) W;refine⟨jJ (lE e1 (qf e2)) λDn σ H g=>aS g λρ O o R I q=>?_⟩;unfold wc at I;split at I;case h_2=>injection I
 rename_i ks ds dw dk dn h1 ZO ZP ZQ;refine bS I λj hj I=>bS I λz hz I=>bR I λyo I=>?_
 exists I;obtain⟨vw',g1,r1⟩:=R.pv.get w dw (vo ZO);obtain⟨J,g2,r2⟩:=R.pv.get k dk (vo ZP);obtain⟨f,g3,r3⟩:=R.pv.get n dn (vo ZQ);obtain⟨rfl,ZR,_⟩:=vQ hj r1;refine aM (R.xt i _ ds h1) λuq y=>cv y λa A q1 q2 q3 q4 q5=>?_;clear y;refine bh q4 λT t1 t2 t3 y=>aQ y λt4 t5 t6=>?_;clear q4 y;have lk:ks.length=(T.map V.ref).length:=(t2 ks W).1;have ZS:ks.length=ds.length:=by rw[lk,aG,t4]
 refine⟨.ref a,q1,.inr (.inr (.inl ⟨W,.inl ⟨_,t1⟩⟩)),_,g1,_,g2,dZ _,λp hp=>⟨show 2<=aA by exact gW ..,λp2 L=>?_⟩⟩;have DD:p2≠p:=λz=>by rw[z,br]at L;injection L
 have np:∀{b u},H b=Z u->b≠p:=λe=>gY e hp;have C:∀{b u},H b=Z u->b≠p2:=λ{b u} e z=>by rw[z]at e;rw[bu DD,e]at L;injection L
 generalize DF:upd (upd H p (.lst [])) p2 (.tup [J,.ref p])=E;have M:av H E:=λb u e=>by rw[<-DF,bu (C e),bu (np e)];exact e
 have LX:E p=Z (.lst []):=by rw[<-DF,bu (bW DD),br]
 have Q:E p2=Z (.tup [J,.ref p]):=by rw[<-DF,br]
 have LY:∀b∈O,∃u,H b=Z u:=λb hb=>ax (R.ls b hb) λu e _=>⟨u,e⟩;have pO:p∉O:=λz=>by obtain⟨_,e⟩:=LY p z;exact np e W
 have ZT:p2∉O:=λz=>by obtain⟨_,e⟩:=LY p2 z;exact C e W
 have LZ:=M _ _ t1;have fin:∀{H2:Hp}{O2:List Λ}{κ:List Key}{es:List D}{v:V},av 'r' (aq H2 O2)->RO X.K H2 σ (ρ.set i (Z (.xt (.s κ) es))) O2->z=(κ,es)->Dn.nx (σ.set l (Z v)) H2:=λ{H2 O2 κ es v} S R' e=>by subst e;exact q _ _ _ S (R'.gone l v)
 have gn:∀{v:V},(σ.set l (Z v))[n]?=Z (Z f):=(c4 yo.1).trans g3;have gl:∀{v:V},(σ.set l (Z v))[l]?=Z (Z v):=gq (by rw[R.len];exact yo.2);have nA:∀{b:Λ},b∈A->b∈O:=λh=>q2 _ (.tail _ h);have aO:a∈O:=q2 _ (.head _);unfold wb at hz;refine bR hz λZU hz=>?_;have L0:∀{H2:Hp}{O2:List Λ},av 'r' (aq H2 O2)->(∀b∈A,H2 b=H b)->∀(j:Nat)(b c:Λ)(d:D),A[j]?=Z b->T[j]?=Z c->ds[j]?=Z d->∃v k vs es,aq H2 O2 c=Z (.tup [v,.ref b])/\Rep X.K (aq H2 O2) v k/\d=.tup [k,.lst es]/\H2 b=Z (.lst vs)/\az X.K (aq H2 O2) vs es:=λS hA j b c d q1 q2 q3=>aU (t6 j b c d q1 q2 q3) λv k vs y=>bh y λes f1 f2 f3 t=>aM t λf4 f5=>⟨v,k,vs,es,S _ _ f1,f2.mono S,f3,(hA b (cu q1)).trans f4,f5.mono S⟩
 refine⟨a,_,j,.ref p2,W,W,LZ,by rw[rE,<-lk,Nat.min_self];exact ZU,λv e=>?_,λe=>?_⟩
 ·rw[y_ lk,bJ]at e;obtain⟨c,U,rfl⟩:=bQ.mp e;have hm:ij ks j<ks.length:=by rw[lk,aG];exact(bt.mp U).1
  rw[if_pos hm]at hz;split at hz;case h_2=>injection hz
  rename_i k0 es pe;refine bR hz λDH hz=>?_;have hA:ij ks j<A.length:=by rw[t5,<-ZS];exact hm
  have hb:=cF hA;generalize A[ij ks j]=b at hb;refine aU (t6 _ b c _ hb U pe) λv' k' vs y=>bh y λpa f1 f2 f3 t=>aM t λf4 f5=>?_;clear y t;cases f3;have bO:=nA (cu hb);have m:=SO.of R.ls M;have R1:=R.mono m;have tJ:=M _ _ f4;refine⟨_,gl,c,_,1,.ref b,W,W,.of (M _ _ (eg f1).2),W,.inl ⟨W,vs,bX.of tJ⟩,_,gn,b,vs,f,W,W,tJ,by rw[f5.length];exact DH,?_⟩;have nb:a≠b:=λz=>q3 (z▸cu hb);have ox:=OX.more (K:=X.K) (G:=aq E O) (v:=f) (n:=dn) LZ t2 t3 t4 t5 (L0 m.same λb hb=>m.own b (nA hb)) hb pe tJ (f5.mono m.same) nb (r3.mono m.same);obtain⟨R2,hh⟩:=R1.qF (κ':=.s ks) (A:=A) h1 q1 q2 q3 q5 (λc U=>bu λz=>U (z▸ .tail _ (cu hb))) (λc U=>by
   by_cases z:c=b
   ·rw[z];exact⟨_,br,.inl ⟨_,W⟩⟩
   ·rw[bu z];exact R1.ls c (q2 c U)) ox W;exact fin (by rw[hh];exact m.same) R2 (ao hz).symm
 ·rw[y_ lk]at e;have hm:¬ij ks j<ks.length:=λz=>by rw[cF (by rw[<-lk];exact z)]at e;injection e
  rw[if_neg hm]at hz;have na:a≠p:=np t1;have ZV:a≠p2:=C t1;have ZW:putK (ks.zip (T.map V.ref)) j (.ref p2)=(ks++[j]).zip ((T++[p2]).map .ref):=by unfold putK;rw[BR,y_ lk,e,cz,List.zip_append lk];rfl
  rw[ZW];generalize r:upd E a (.dK ((ks++[j]).zip ((T++[p2]).map .ref)))=H2;have L3:H2 p=Z (.lst []):=by rw[<-r,bu (bW na)];exact LX
  have ZX:H2 p2=Z (.tup [J,.ref p]):=by rw[<-r,bu (bW ZV)];exact Q
  refine⟨_,gl,p2,_,1,.ref p,W,W,.of ZX,W,.inl ⟨W,[],bX.of L3⟩,_,gn,p,[],f,W,W,L3,mq _,?_⟩;have S3:av 'r' (aq E (p::O)):=λb u e=>by obtain⟨hb,e'⟩:=eg e;rw[bj λz=>(a6.mp z).elim (np e') hb];exact M _ _ e'
  have L1:iA E (p::O):=λb hb=>(a6.mp hb).elim (λz=>z▸⟨_,LX,.inl ⟨_,W⟩⟩) λz=>ax (R.ls b z) λu e hu=>⟨u,M _ _ e,hu⟩
  have R1:=R.grow S3 (λb hb=>⟨.tail _ hb,(SO.of R.ls M).own b hb⟩) L1;have pA:p∉A:=λz=>pO (nA z);have wd:∀b,b∉a::(A++[p])->upd H2 p (.lst [f]) b=E b:=λb hb=>by rw[bu λz=>hb (by simp[z]),<-r,bu λz=>hb (by simp[z])]
  have keep:∀b∈A,upd H2 p (.lst [f]) b=H b:=λb hb=>by rw[bu λz:b=p=>pA (z▸hb),<-r,bu λz:b=a=>q3 (z▸hb)];exact(SO.of R.ls M).own b (nA hb)
  have L4:upd H2 p (.lst [f]) a=Z (.dK ((ks++[j]).zip ((T++[p2]).map .ref))):=by rw[bu na,<-r,br]
  have sub:∀b∈a::(A++[p]),b∈p::O:=λb hb=>by
   rcases a6.mp hb with rfl|hb
   ·exact .tail _ aO
   ·rcases bU.mp hb with hb|hb
    ·exact .tail _ (nA hb)
    ·rw[aZ.mp hb];exact .head _
  have Y:aq (upd H2 p (.lst [f])) (p::O)=aq E (p::O):=by
   funext b;by_cases hb:b∈p::O
   ·rw[c8 hb,c8 hb]
   ·rw[bj hb,bj hb,wd b λz=>hb (sub b z)]
  have S4:av 'r' (aq (upd H2 p (.lst [f])) (p::O)):=by rw[Y];exact S3
  have ZY:aq E (p::O) p2=Z (.tup [J,.ref p]):=by rw[bj λz=>(a6.mp z).elim DD ZT];exact Q
  have ox:=OX.fresh (K:=X.K) (H':=upd H2 p (.lst [f])) (G:=aq E (p::O)) (k:=dk) (n:=dn) L4 t2 (λz=>hm (LS z)) ZR t3 t4 t5 (by rw[<-Y];exact L0 S4 keep) pA ZY (r2.mono S3) br (r3.mono S3);have off:Off σ ρ (a::(A++[p])):=λj' κ' es b o1 o2 hb=>by
   refine bV (R.ow j' κ' es o1) λb' us w1 w2 w3 _=>?_;rw[o2]at w1;cases w1;rcases a6.mp hb with rfl|hb
   ·exact q5 j' κ' es _ o1 o2 (.head _)
   ·rcases bU.mp hb with hb|hb
    ·exact q5 j' κ' es _ o1 o2 (.tail _ hb)
    ·exact np w3 (aZ.mp hb)
  obtain⟨R2,hh⟩:=R1.qF (κ':=.s (ks++[j])) (A:=A++[p]) h1 q1 sub (λz=>(bU.mp z).elim q3 λz=>na (aZ.mp z)) off wd (λc U=>by
   by_cases z:c=p
   ·rw[z];exact⟨_,br,.inl ⟨_,W⟩⟩
   ·by_cases z2:c=a
    ·rw[z2];exact⟨_,L4,.inr (.inl ⟨_,W⟩)⟩
    ·rw[bu z,<-r,bu z2];exact L1 c (sub c U)) ox W;exact fin S4 R2 (ao hz).symm
def DJ(i:Nat):Zal:=λc=>if c.all lW=be then Z (.aF (c.set i (Z (.xt (.s []) []))))else am
def ZZ{pos:Pos}(i:Nat)(g:X.N.Nodup)(h:KD X e (λc=>qE c))(j:X.N[i]?=Z x)(m:Loc X.env.scope x)(hs:d4 e (Z (.Name x pos')) pos.line X.env=pure bi)(r:X.fn x=be\/X.env.scope.names.lookup x=Z .local):KS X (.Assign [.Name x pos'] e pos) (DJ i):=⟨cM (lF g j m h.h hs r) λv w H z=>aS z λc O o R e q=>by
  unfold DJ at e;refine bR e λhn e=>?_
  exists e;refine⟨c,O,([],[]),R,W,λvs y p S f B=>?_⟩;obtain⟨t,u⟩:=(R.mono S).newX (A:=[]) (κ:=.s []) (ds:=[]) i (dj f (.dK (([]:List Key).zip vs))) (λb d=>by rw[aZ.mp d];exact f) (λb d=>by rw[aZ.mp d];exact⟨_,br,.inr (.inl ⟨_,W⟩)⟩) 'o' (λC=>⟨[],br,λks e=>by exists e;exact⟨W,.nil,by decide⟩,.nil,W,W,by simp⟩) hn;exact q _ _ _ (S.same.trans u) t⟩
noncomputable def DK(i:Nat):Zal:=λc=>match c[i]? with|some (Z (.xt (.s ks) ds))=>Z (.ret (.aW ks ds))|_=>am
def Z0{x:Str}{p:Pos}{i:Nat}(Y:X.N[i]?=Z x)(hv:c6 X.env.scope x)(hd:'f'=bi)(r:'i'=bi):PE X (.Name x p) (λm H Q=>∃w O ks ds,RO X.K H m w O/\w[i]?=Z (Z (.xt (.s ks) ds))/\∀v H',av 'r' H'->Rep X.K H' v (.aW ks ds)->Q v H'):=by
 rintro f s m H Q I ⟨w,O,ks,ds,R,h,q⟩;refine aM (R.xt i _ ds h) λuq y=>cv y λa A q1 q2 q3 E q5=>?_;clear y;refine bh E λT t1 t2 t3 y=>aQ y λt4 t5 t6=>?_;clear E y;refine aL (er Y hv hd r f s m H (λv g=>v=.ref a/\g=H) I ⟨_,q1,W,W⟩) ?_;rintro u s1 ⟨v,g,B,rv,rfl,rfl⟩;refine aJ (Inv.o4 B t1 (.inr (.inl ⟨_,W⟩))) λob J _ hk=>?_;have aO:a∈O:=q2 _ (.head _);have I2:Inv X f m (upd g a (.dM ob (.dK (ks.zip (T.map .ref))))) s1:=Inv.swap B λb=>by
  by_cases z:b=a;·subst z;exact .inr ⟨_,_,t1,br,⟨_,.inl W⟩,⟨J,hk _ _ J λ_ _ e=>e⟩,λo v z=>by have:=B.base.jH b o v z;rw[t1]at this;(injection this with this;injection this)⟩
  ·exact .inl (bu z)
 have S:av (aq g O) (upd g a (.dM ob (.dK (ks.zip (T.map .ref))))):=λb u e=>by obtain⟨hb,e'⟩:=eg e;rw[bu λz:b=a=>hb (z▸aO)];exact e'
 refine⟨.ref a,_,I2,rv,q _ _ S (.aW br (yC (by rw[aG];exact t4) λj v d L M=>?_) (t2 ks W).1 (t2 ks W).2)⟩;rw[bJ]at L;obtain⟨c,e3,rfl⟩:=bQ.mp L;have U:j<A.length:=by rw[t5];exact(bt.mp M).1
 refine aU (t6 j _ c d (cF U) e3 M) λv k vs y=>bh y λes f1 f2 C t=>aM t λf4 f5=>?_;clear y t;subst C;exact .tup (.of (S _ _ f1)) (.cons (f2.mono S) (.cons (.lst (.inl (dD f4 (λz:A[j]=a=>q3 (z▸Rl U)))) (f5.mono S)) .nil))
def Z1(i:Nat)(d:X.N[i]?=Z x)(f:c6 X.env.scope x)(g:'f'=bi)(c:'i'=bi):KS X (.Return (Z (.Name x p)) pos) (DK i):=⟨cM (rS (Z0 d f g c)) λm r H z=>aS z λj O o R e q=>by
  unfold DK at e;split at e;case h_2=>injection e
  rename_i ks ds h
  exists e;exact⟨j,O,ks,ds,R,h,q⟩⟩
end
section
variable {X:Cx}{ke:Expr}{pos pos' np p0:Pos}{x:Str}{fk:Zaj}
def SO.all(S:SO H H' O):av H H':=λb o e=>by
 by_cases c:b∈O;·exact(S.own b c).trans e
 ·exact(eg (S.same b o (by rw[bj c];exact e))).2
def za(i:Nat)(fk:Zaj)(z:Int):Zal:=λc=>(fk c).bind λk=>match k with|.tup kk=>if dQ 8 (.tup kk)=be/\c.all lW=be then Z (.aF (c.set i (Z (.xt (.t am [.tup kk]) [.int z]))))else am|_=>am
def Z2{k:Nat}(i:Nat)(hr:bA k X.A)(C:X.N.Nodup)(E:cT X ke fk)(I:X.N[i]?=Z x)(J:Loc X.env.scope x)(hs:d4 (.Dict [Z ke] [.Constant (.int z) m p0] np) (Z (.Name x pos')) pos.line X.env=pure bi)(L:X.fn x=be\/X.env.scope.names.lookup x=Z .local):KS X (.Assign [.Name x pos'] (.Dict [Z ke] [.Constant (.int z) m p0] np) pos) (za i fk z):=⟨cM (lF C I J (Lx (by have:=hr.un;lia) E.h Bp) hs L) λDn σ H y=>aS y λM O o R c q=>by
  refine bS c λd Q c=>?_;split at c;case h_2=>injection c
  rename_i kk;refine bR c λhn c=>?_
  exists c;intro p f;have r:=SO.of R.ls (dj f (cj X.K p [] []));refine⟨M,O,_,R.mono r,Q,λv u w B=>?_⟩;have T:=nS 8 (B.mono (dG _ _)) hn.1;have S:=r.trans w;have g:u p=Z (cj X.K p [] []):=w.all _ _ br;cases B with|@tup b _ _ _ _=>
  refine⟨b,.int z,_,W,g,T,?_⟩;have U:av H (upd u p (cj X.K p [.tup kk] [.int z])):=λb o e=>by rw[bu (gY e f)];exact S.all _ _ e
  obtain⟨Y,S'⟩:=R.newX (A:=[]) (κ:=.t am [.tup kk]) (ds:=[.int z]) i U (λb j=>by rw[aZ.mp j];exact f) (λb j=>by rw[aZ.mp j];exact⟨_,br,.inr (.inr ⟨_,_,_,W⟩)⟩) 'o' (λhG=>⟨W,[.int z],br,.cons (.int z) .nil,W,λ_ z=>by injection z⟩) hn.2;exact q _ _ _ S' Y⟩
end
section
def vals2(r:Vals [v,w] us):∃a b,us=[a,b]/\RelV v a/\RelV w b:=by induction r using eL with|cons r t=>induction t using eL with|cons c t=>induction t using gM;exact⟨_,_,W,r,c⟩
end
noncomputable def Z3(C:Λ)(f:Str):D->Option D|.obj c ks ds=>if c=C then(ks.zip ds).lookup f else am|_=>am
def hD(C:Λ)(f:Str)(g:Zaf):Zaf:=λc=>(g c).bind (Z3 C f)
def az.look{K:au}{H:Hp}{vs:List V}:∀{ds:List D}{ks:List Str}{f:Str}{d:D},az K H vs ds->(ks.zip ds).lookup f=Z d->∃v,(ks.zip vs).lookup f=Z v/\Rep K H v d:=by induction vs with|nil=>intro ds ks f d r h;induction r using sh;rw[List.zip_nil_right]at h;injection h|cons v vs c=>intro ds ks f d r h;induction r using oQ with|@cons b m r t=>cases ks with|nil=>injection h|cons k ks=>rw[Q8,QT]at h⊢;cases q:f==k with|true=>rw[q]at h;exists h;exact⟨v,W,r⟩|false=>rw[q]at h;exact c t h
def az.L5{K:au}{H:Hp}{vs:List V}{ds:List D}{ks:List Str}(r:az K H vs ds)(h:ks.contains m=bi):(ks.zip vs).lookup m=am:=by rw[ZxK];intro p c;have:=(rz c).1;cases q:m==p.1 with|false=>exact bne_iff_ne.mpr λz=>by rw[z,beq_self_eq_true]at q;injection q|true=>rw[eq_of_beq q,ZxL.mpr this]at h;injection h
section
variable {X:Cx}{C:Λ}{e o:Expr}{es:List Expr}{pos apos:Pos}{f m:Str}{g:Zaf}{fs:Zag}
structure DM(P:a8)(w:World)(K:au)(mg:Zac)(base:Heap)(k:Nat)(C:Λ)(m:Str)(F:Zad):Prop where ex:∃(f:Λ)(fd:dt)(ps:List Str),Meth K C m f/\i8 K fd ps []/\cP P w K mg base cL k f fd ps (kJ K F)
noncomputable def L6(C:Λ)(m:Str)(F:Zad)(d:D)(ds:List D):Option D:=match d with|.obj c ks _=>if c=C/\ks.contains m=bi then F (d::ds)else am|_=>am
def dR(C:Λ)(m:Str)(F:Zad)(g:Zaf)(fs:Zag):Zaf:=λc=>(g c).bind λd=>(fs c).bind λds=>L6 C m F d ds
def Z4{k:Nat}(T:DM X.prog X.w X.K X.mg X.base k C m F)(c:eO X.K C)(hr:bA k X.A)(M:DE X o g)(N:oR X (e::es) fs)(t:bq (e::es) X.env=(bi,eval e X.env)::bq es X.env)(u:(dW pos (bq es X.env)).any (·.1)=bi)(O:eval 'A' X.env=(do
   let E<-eval o X.env
   standAt apos.atName;let (f,first)<-holding [E] (m7 E m pl)
   pV pos f first (dW pos (bq (e::es) X.env)) (me pos (mf [] X.env)))):DE X 'A' (dR C m F g fs):=by
 refine aS T.ex λf fd ps U Y hF=>cR (Ui M c U hF hr Y .nil r0 N t u O) λσ H Q z=>ay z λI d R ee q=>bS ee λdx h1 h2=>bS h2 λds h3 J=>⟨I,dx,R,h1,λv H1 L r1=>?_⟩;induction r1 using gp with
 |@obj a x p ks vs j h r=>
  have i:(if p=C/\ks.contains m=bi then F (.obj p ks j::ds)else am)=Z d:=J;by_cases y:p=C/\ks.contains m=bi;·rw[if_pos y]at i;obtain⟨rfl,hk⟩:=y;refine⟨a,x,_,W,h,r.L5 hk,I,ds,R.mono L,h3,λus H2 B r2=>?_⟩;refine⟨.obj p ks j::ds,d,.cons (.obj (B _ _ h) (r.mono B)) (by rw[eS];exact r2),i,λv H' s3 r3=>q v H' (L.trans (B.trans s3)) r3⟩
  ·rw[if_neg y]at i;injection i|_=>injection J
end
structure bC where
 r:Λ
 C:Λ
 g:D
 p:D
 aR:List D
 bP:List D
 ks:List D
 cE:List D
noncomputable def bC.sd(h:bC):SD:=.xt (.h h.r h.C) [h.g,h.p,.lst h.aR,.lst h.bP,.tab h.ks h.cE]
noncomputable def gx(i:Nat)(e:aj):Option bC:=match e[i]? with|some (Z (.xt (.h r C) [g,p,.lst aR,.lst c,.tab ks d]))=>Z ⟨r,C,g,p,aR,c,ks,d⟩|_=>am
noncomputable def bC.put(s:bC)(ks cE:List D):bC:={s with ks:=ks,cE:=cE}
def qI{s:bC}(h:gx i c=Z s):c[i]?=Z (Z s.sd):=by
 unfold gx at h;split at h;case h_2=>injection h
 rename_i e
 exists h;exact e
theorem LL.set{K:au}{H G:Hp}{B:List Λ}{c:List D}{j:Nat}{b:Λ}{ws:List V}{es:List D}(h:LL K H G B c)(nd:B.Nodup)(g:B[j]?=Z b)(r:az K G ws es):LL K (upd H b (.lst ws)) G B (c.set j (.lst es)):=by
 refine⟨by rw[d9];exact h.1,λm w d e f=>?_⟩;by_cases i:j=m
 ·subst i;rw[g]at e
  exists e;rw[gq (by rw[<-h.1];exact(bt.mp g).1)]at f
  exists f;exact⟨ws,es,W,br,r⟩
 ·rw[c4 i]at f;refine ay (h.2 m w d e f) λvs p x y A=>?_;refine⟨vs,p,x,?_,A⟩;rw[bu λz=>?_];·exact y
  ·subst z;obtain⟨l1,t⟩:=bt.mp g;obtain⟨l2,u⟩:=bt.mp e;have v:=Zxh.mp (A_.mp nd);rcases Zxi i with q|q;·exact v j m l1 l2 q (t.trans u.symm)
   ·exact v m j l2 l1 q (u.trans t.symm)
theorem nP.mono{K:au}{H H' G j:Hp}{r C a q t u:Λ}{A B L:List Λ}{ds aR c ks d:List D}{v w:V}{g p:D}{f:List V}(h:nP K H G r C a A ds q t u B L v w g p aR c ks d f)(e:∀b∈a::A,H' b=H b)(s:av G j):nP K H' j r C a A ds q t u B L v w g p aR c ks d f:=have m:∀b∈A,H' b=H b:=λb i=>e b (b8 _ i)
 ⟨h.eA,h.nd,h.eD,s _ _ h.ins,h.rg.mono s,h.rp.mono s,(e a (by exact .head _)).trans h.hs,h.rs.mono s,(m _ (h.eA▸bZ)).trans h.hd,h.ld.mono (λb i=>m b (h.eA▸b8 _ (b8 _ (gf _ i)))) s,(m _ (h.eA▸b8 _ bZ)).trans h.hl,h.lk,h.ll.mono (λb i=>m b (h.eA▸b8 _ (b8 _ (dr _ i)))) s⟩
abbrev HX(K:au)(H G:Hp)(s:bC)(a:Λ)(A:List Λ)(dx dA lA:Λ)(B L:List Λ)(vg vp:V)(dP:List V):Prop:=nP K H G s.r s.C a A [s.g,s.p,.lst s.aR,.lst s.bP,.tab s.ks s.cE] dx dA lA B L vg vp s.g s.p s.aR s.bP s.ks s.cE dP
def we(K:au)(H G:Hp)(s:bC)(a:Λ)(A:List Λ):Prop:=∃d e f B L g h c,HX K H G s a A d e f B L g h c
section
variable {K:au}{H G:Hp}{σ:St}{ρ:aj}{O:List Λ}{i j:Nat}{s:bC}{R:Prop}{a dx dA lA b:Λ}{A B L:List Λ}{vg vp:V}{dP ws:List V}{es:List D}
theorem we.el(h:we K H G s a A)(k:∀dx dA lA B L vg vp dP,HX K H G s a A dx dA lA B L vg vp dP->R):R:=aU h λx y z h=>aU h λu v w h=>gO h λp q h=>k x y z u v w p q h
theorem RO.h8(r:RO K H σ ρ O)(h:ρ[i]?=Z (Z s.sd))(k:∀a A,σ[i]?=Z (Z (.ref s.r))->(∀b∈a::A,b∈O)->a∉A->Off σ ρ (a::A)->we K H 'r' s a A->R):R:=by refine aM (r.xt i _ _ h) λ_ z=>cv z λa A q v w x C=>?_;refine aU x λdx dA lA z=>aU z λB L vg u=>aU u λvp g p y=>aU y λaR E ks t=>gO t λI dP m=>?_;have e:=m.eD;injection e with J e;injection e with M e;injection e with c e;injection e with d e;injection e with f e;injection c with c;injection d with d;injection f with f N;subst J M c d f N;exact k a A q v w C ⟨dx,dA,lA,B,L,vg,vp,dP,m⟩
def RO.tK{t:bC}(r:RO K H σ ρ O)(f:HX K (upd H b u) 'r' t a A dx dA lA B L vg vp dP)(h:ρ[i]?=Z (Z s.sd))(g:σ[i]?=Z (Z (.ref t.r)))(e:∀b∈a::A,b∈O)(m:a∉A)(p:Off σ ρ (a::A))(q:b∈a::A)(v:lR b u):RO K (upd H b u) σ (ρ.set i (Z t.sd)) O/\aq (upd H b u) O=aq H O:=r.qF (κ':=.h t.r t.C) h g e m p (λc d=>bu λz=>d (z▸q)) (λc d=>by
  by_cases z:c=b;·rw[z];exact⟨_,br,v⟩
  ·rw[bu z];exact r.ls c (e c d)) ⟨dx,dA,lA,B,L,vg,vp,_,_,_,_,_,_,dP,f⟩ W
def nP.mL(h:HX K H G s a A dx dA lA B L vg vp dP)(c:b∈L):b∈A:=h.eA▸ .tail _ (.tail _ (dr _ c))
def nP.mB(h:HX K H G s a A dx dA lA B L vg vp dP)(c:b∈B):b∈A:=h.eA▸ .tail _ (.tail _ (gf _ c))
def nP.all(h:HX K H G s a A dx dA lA B L vg vp dP):(dA∉lA::(B++L)/\lA∉B++L)/\B.Nodup/\L.Nodup/\∀b∈B,∀c∈L,b≠c:=by have n:=h.nd;rw[h.eA]at n;obtain⟨n1,n⟩:=d8.mp n;obtain⟨n2,n⟩:=d8.mp n;exact⟨⟨n1,n2⟩,mr.mp n⟩
def nP.DN(h:HX K H G s a A dx dA lA B L vg vp dP)(n:a∉A)(e:L[j]?=Z b)(r:az K G ws es):HX K (upd H b (.lst ws)) G (s.put s.ks (s.cE.set j (.lst es))) a A dx dA lA B L vg vp dP:=by have d:=cu e;have mL:=dr B d;obtain⟨⟨n1,n2⟩,_,f,g⟩:=h.all;exact⟨h.eA,h.nd,W,h.ins,h.rg,h.rp,dD h.hs λz=>n (z▸h.mL d),h.rs,dD h.hd λz=>n1 (z▸ .tail _ mL),h.ld.mono (λc m=>bu (g c m b d)) (av.refl _),dD h.hl λz=>n2 (z▸mL),h.lk,h.ll.set f e r⟩
def Z5{vg vp a b c:V}:(iB.zip [vg,vp,a,b,c]).lookup ("states":Str)=Z a:=rfl
def Z6{vg vp a b c:V}:(iB.zip [vg,vp,a,b,c]).lookup ("doings":Str)=Z b:=rfl
def L7{vg vp a b c:V}:(iB.zip [vg,vp,a,b,c]).lookup ("letters":Str)=Z c:=rfl
end
section
variable {X:Cx}{e ie:Expr}{pos np fp j7:Pos}{fo fi fv:Zaj}{x:Str}{C:Λ}
def qJ(i:Nat)(C:Λ)(fi fv:Zaj):Zal:=λc=>(fv c).bind λd=>(fi c).bind λk=>(gx i c).bind λs=>if s.C=C then match k with|.int j=>(g9 s.aR.length j).bind λm=>Z (.aF (c.set i (Z {s with aR:=s.aR.set m d}.sd)))|_=>am else am
def L8(i:Nat)(c:eO X.K C)(n:gh X.K C "states")(hv:cT X e fv)(DP:cT X ie fi)(hi:X.N[i]?=Z x)(E:c6 X.env.scope x)(hd:'f'=bi)(qK:'i'=bi)(g:md (.Name x np) "states" X.env (eval (.Name x np) X.env)=eval (.Name x np) X.env)(ha:∀v,lr (.Subscript (.Attribute (.Name x np) "states" fp) ie j7) X.env v=(do
   let Y<-holding [v] (eval (.Attribute (.Name x np) "states" fp) X.env);let iv<-holding [v,Y] (eval ie X.env)
   standAt j7
   holding [v,Y,iv] (w6 Y iv v)
   release [v,Y,iv] []):=by intro _;rfl) (hs:F8 [.Subscript (.Attribute (.Name x np) "states" fp) ie j7] e pos.line X.env=pure bi) (hw:F9 [.Subscript (.Attribute (.Name x np) "states" fp) ie j7] e X.env=pure am) (h1:(i0 [.Subscript (.Attribute (.Name x np) "states" fp) ie j7] X.env).map (·.2)=[lr (.Subscript (.Attribute (.Name x np) "states" fp) ie j7) X.env]):KS X (.Assign [.Subscript (.Attribute (.Name x np) "states" fp) ie j7] e pos) (qJ i C fi fv):=⟨cM (Bv hv.h (Hs (u0 (er hi E hd qK) g) DP.h Io ha) hs hw h1) λDn σ H y=>aS y λρ O o R p q=>by refine bS p λd q1 p=>bS p λk q2 p=>bS p λs q3 p=>bR p λhC e0=>?_;clear p;subst hC;cases k with|int j=>
   refine bS e0 λm q4 e0=>?_
   exists e0;have I:=qI q3;refine R.h8 I λa A e1 e2 e3 e4 y=>y.el λdx dA lA B L vg vp J M=>?_;refine⟨ρ,O,d,R,q1,λv H1 Q r1=>?_⟩;have T:=M.mono (λb g=>Q.own b (e2 b g)) Q.same;refine⟨.ref s.r,e1,s.r,s.C,dx,_,.ref a,W,dG H1 O _ _ T.ins,c,n,Z5,ρ,O,.int j,R.mono Q,q2,λw H2 U r2=>?_⟩;induction r2 using lJ;have f:=T.mono (λb g=>U.own b (e2 b g)) U.same;have R2:=(R.mono Q).mono U;refine⟨a,J,j,m,W,W,f.hs,by rw[f.rs.length];exact q4,?_⟩;have ne:∀b∈A,b≠a:=λb g z=>e3 (z▸g);obtain⟨R3,hh⟩:=R2.tK (t:={s with aR:=s.aR.set m d}) (b:=a) (u:=.lst (J.set m v)) ⟨f.eA,f.nd,W,f.ins,f.rg,f.rp,br,az.set (r1.mono U.same) m f.rs,dD f.hd (ne _ (M.eA▸ .head _)),f.ld.mono (λb g=>bu (ne _ (M.mB g))) (av.refl _),dD f.hl (ne _ (M.eA▸ .tail _ (.head _))),f.lk,f.ll.mono (λb g=>bu (ne _ (M.mL g))) (av.refl _)⟩ I e1 e2 e3 e4 (.head _) (.inl ⟨_,W⟩);exact q _ _ O (by rw[hh];exact Q.same.trans U.same) R3|_=>injection e0⟩
def qL(i:Nat)(C:Λ)(fi fv:Zaj):Zal:=λc=>(fi c).bind λk=>(fv c).bind λd=>(gx i c).bind λs=>if s.C=C then match k with|.int j=>if 0<=j then match s.bP[j.toNat]? with|some (.lst es)=>if es.length<aA then Z (.aF (c.set i (Z {s with bP:=s.bP.set j.toNat (.lst (es++[d]))}.sd)))else am|_=>am else am|_=>am else am
def L9{apos cpos:Pos}(i:Nat)(c:eO X.K C)(n:gh X.K C "doings")(DP:cT X ie fi)(h:cT X e fo)(hs:oZ ie=be)(hi:X.N[i]?=Z x)(hv:c6 X.env.scope x)(hn:cx e=be)(hd:'f'=bi)(qK:'i'=bi)(g:md (.Name x np) "doings" X.env (eval (.Name x np) X.env)=eval (.Name x np) X.env)(I:'s'=be):KS X (.Expr (.Call (.Attribute (.Subscript (.Attribute (.Name x np) "doings" fp) ie ip) "append" apos) [e] [] cpos) pos) (qL i C fi fo):=⟨cM (mz (kF m_ uK uL ql (xX BO (u0 (er hi hv hd qK) g) DP.h (qs hs)) (ed h.h eT (bF hn)) W (by rw[ji (show [e].all cx=be by rw[cW,hn];rfl)];rfl) I (bF hn) (eP W)) W) λDn σ H w=>aS w λρ O o R E q=>by
  refine bS E λk h1 E=>bS E λd h2 E=>bS E λs h3 E=>bR E λhC T=>?_;clear E;subst hC;cases k with|int j=>
   refine bR (p:=0<=j) T λh0 J=>?_;clear T;split at J;case h_2=>injection J
   rename_i es h4;refine bR J λhz T=>?_
   exists T;have U:=qI h3;refine R.h8 U λa A e1 Y e3 e4 w=>w.el λdx dA lA B L vg vp dP M=>?_;have hB:j.toNat<B.length:=by rw[M.ld.1];exact(bt.mp h4).1
   have g:=cF hB;have hm:=cu g;have m:=M.mB hm;refine ay (M.ld.2 _ _ _ g h4) λvs pa e9 tL qM=>?_;injection e9 with e9;subst e9;refine⟨.ref s.r,e1,s.r,s.C,dx,_,.ref dA,W,dG H O _ _ M.ins,c,n,Z6,ρ,O,_,R,h1,λy H1 Q r1=>?_⟩;induction r1 using lJ;have zb:=M.mono (λb g=>Q.own b (Y b g)) Q.same;have o2:H1 B[j.toNat]=Z (.lst vs):=(Q.own _ (Y _ (.tail _ m))).trans tL;refine⟨dA,_,j,.ref B[j.toNat],W,W,bX.of zb.hd,?_,.inl ⟨W,vs,bX.of o2⟩,ρ,O,d,R.mono Q,h2,λv H2 S2 r2=>?_⟩;·have:=u_ (xs:=B.map V.ref) (j:=j.toNat) (v:=.ref B[j.toNat]) (by rw[bJ,g];rfl);rwa [jY h0]at this
   ·have R2:=(R.mono Q).mono S2;have f:=zb.mono (λb g=>S2.own b (Y b g)) S2.same;have S:=Q.trans S2;have o3:H2 B[j.toNat]=Z (.lst vs):=(S2.own _ (Y _ (.tail _ m))).trans o2;refine⟨_,vs,v,W,W,o3,by rw[qM.length];exact hz,?_⟩;have mB:=gf L hm;obtain⟨⟨n1,n2⟩,nB,_,nn⟩:=M.all;obtain⟨R3,hh⟩:=R2.tK (t:={s with bP:=s.bP.set j.toNat (.lst (es++[d]))}) (b:=B[j.toNat]) (u:=.lst (vs++[v])) ⟨f.eA,f.nd,W,f.ins,f.rg,f.rp,dD f.hs λz=>e3 (z▸m),f.rs,dD f.hd λz=>n1 (z▸ .tail _ mB),f.ld.set nB g ((qM.mono S.same).append (.cons r2 .nil)),dD f.hl λz=>n2 (z▸mB),f.lk,f.ll.mono (λb g=>bu (bW (nn _ hm b g))) (av.refl _)⟩ U e1 Y e3 e4 (.tail _ m) (.inl ⟨_,W⟩);exact q _ _ O (by rw[hh];exact S.same) R3|_=>injection T⟩
end
section
variable {X:Cx}{e ie o i:Expr}{pos np fp:Pos}{fo fi:Zaj}{x y:Str}{C:Λ}{ta tb:TE}
def Z7(K:au)(ta tb:TE):TE:=λc H Q=>ta c H λx d=>tb c d λy H2=>∃a ks vs k v,x=.ref a/\H2 a=Z (cj K a ks vs)/\dQ 8 (.tup k)=be/\Rep K H2 y (.tup k)/\atT ks vs (.tup k)=Z v/\Q v H2
theorem Z8{k:Nat}(hr:bA k X.A)(m:PE X o ta)(r:PE X i tb)(hs:oZ i=be):PE X (.Subscript o i pos) (Z7 X.K ta tb):=by intro c s d H Q I h;refine BW QO.lookup (qs hs) (aL (m c s d H _ I h) λu B z=>ay z λx E J L M=>aL (r c B d E _ J M) λu2 s2 z=>ay z λy H2 f N t=>aU t λa ks vs p=>cv p λk v e g O j w=>aM w λT q=>?_);subst e;have U:=nS 8 j O;induction j using sf with|tup _ _=>cases L;cases N;exact⟨(aQ (tr f g) λ_ _ t=>bh t λ_ _ _ _ Y=>Y.typeIs),Ls (by have:=hr.un;grind) f g U T λu s' ru I'=>⟨v,H2,I',ru,q⟩⟩
noncomputable def eZ:List D->D->Nat|[],_=>0|j::ks,k=>if j=k then 0 else eZ ks k+1
theorem zc{c:Type}{k:D}{v:c}:∀{ks:List D}{vs:List c},atT ks vs k=Z v->vs[eZ ks k]?=Z v
 |[],_,h=>by unfold atT at h;injection h|_::_,[],h=>by unfold atT at h;injection h|j::ks,w::vs,h=>by
  unfold atT at h;unfold eZ;by_cases e:j=k;·rw[if_pos e]at h⊢;exact h
  ·rw[if_neg e]at h⊢;rw[Bb];exact zc h
theorem DQ{c d:Type}{k:D}{v:c}(f:c->d):∀{ks:List D}{vs:List c},ks.length=vs.length->vs[eZ ks k]?=Z v->atT ks (vs.map f) k=Z (f v)
 |[],[],_,h=>by injection h|j::ks,w::vs,l,h=>by
  rw[bG];unfold atT;unfold eZ at h;by_cases e:j=k;·rw[if_pos e]at h⊢;rw[List.getElem?_cons_zero]at h;rw[ao h]
  ·rw[if_neg e]at h⊢;rw[Bb]at h;exact DQ f (rK l) h
def wg(i j:Nat)(C:Λ)(fi fo:Zaj):Zal:=λc=>(gx i c).bind λs=>(fi c).bind λk=>(fo c).bind λz=>match k,z,atT s.ks s.cE k with|.tup k,.int n,Z (.lst (d::es))=>if s.C=C/\dQ 8 (.tup k)=be/\n=0 then Z (.aF ((c.set i (Z {s with cE:=s.cE.set (eZ s.ks (.tup k)) (.lst es)}.sd)).set j (Z (.bY d))))else am|_,_,_=>am
theorem Z9{k:Nat}{apos cpos:Pos}(hr:bA k X.A)(i j:Nat)(c:eO X.K C)(n:gh X.K C "letters")(U:cT X ie fi)(h:cT X e fo)(hs:oZ ie=be)(hN:X.N.Nodup)(hi:X.N[i]?=Z x)(hv:c6 X.env.scope x)(hj:X.N[j]?=Z y)(hy:Loc X.env.scope y)(hn:cx e=be)(hd:'f'=bi)(Y:'i'=bi)(w:md (.Name x np) "letters" X.env (eval (.Name x np) X.env)=eval (.Name x np) X.env)(g:'s'=be)(vI:d4 (.Call (.Attribute (.Subscript (.Attribute (.Name x np) "letters" fp) ie ip) "pop" apos) [e] [] cpos) (Z (.Name y pos')) pos.line X.env=pure bi)(hf:X.fn y=be\/X.env.scope.names.lookup y=Z .local):KS X (.Assign [.Name y pos'] (.Call (.Attribute (.Subscript (.Attribute (.Name x np) "letters" fp) ie ip) "pop" apos) [e] [] cpos) pos) (wg i j C fi fo):=⟨cM (lF hN hj hy (kF m_ Zxk Zxl U3 (Z8 hr (u0 (er hi hv hd Y) w) U.h hs) (ed h.h eT (bF hn)) W (by rw[ji (show [e].all cx=be by rw[cW,hn];rfl)];rfl) g (bF hn) (eP W)) vI hf) λDn σ H u=>aS u λρ O o R E q=>by
  refine bS E λs h3 E=>bS E λk h1 E=>bS E λz h2 e7=>?_;split at e7;case h_2=>injection e7
  rename_i kk nn d es h4;refine bR e7 λhC e0=>aQ hC λhC ht hz=>?_;subst hC hz
  exists e0;have I:=qI h3;refine R.h8 I λa A e1 J e3 e4 u=>u.el λdx dA lA B L vg vp dP p=>?_;have h5:=zc h4;have hL:eZ s.ks (.tup kk)<L.length:=by rw[p.ll.1];exact(bt.mp h5).1
  have f:=cF hL;have m:=p.mL (cu f);refine ay (p.ll.2 _ _ _ f h5) λvs pa e9 tL qM=>?_;injection e9 with e9;subst e9;refine⟨.ref s.r,e1,s.r,s.C,dx,_,.ref lA,W,dG H O _ _ p.ins,c,n,L7,ρ,O,_,R,h1,λy H1 t r1=>?_⟩;have M:=p.mono (λb w=>t.own b (J b w)) t.same;have o2:H1 L[eZ s.ks (.tup kk)]=Z (.lst vs):=(t.own _ (J _ (.tail _ m))).trans tL;refine⟨lA,s.ks,_,kk,.ref L[eZ s.ks (.tup kk)],W,M.hl,ht,r1.mono (dG H1 O),DQ _ p.lk f,.inl ⟨W,vs,bX.of o2⟩,ρ,O,.int 0,R.mono t,h2,λv H2 Q r2=>?_⟩;induction r2 using lJ;have R2:=(R.mono t).mono Q;have zd:=M.mono (λb w=>Q.own b (J b w)) Q.same;have S:=t.trans Q;have o3:H2 L[eZ s.ks (.tup kk)]=Z (.lst vs):=(Q.own _ (J _ (.tail _ m))).trans o2;have Z_:=qM.mono S.same;induction Z_ using si with|@cons v0 T rv rt=>refine⟨_,v0::T,0,0,v0,W,W,o3,by decide,by decide,by unfold Gm;simp,W,?_⟩;obtain⟨R3,hh⟩:=R2.tK (zd.DN e3 f rt) I e1 J e3 e4 (.tail _ m) (.inl ⟨_,W⟩);exact q _ _ O (show av _ (aq (upd H2 L[eZ s.ks (.tup kk)] (.lst T)) O) from by rw[hh];exact S.same) (R3.set j (by rw[hh];exact rv))⟩
end
section
variable {prog:a8}{w:World}{T:Type}[DecidableEq T]{N:xr prog w T}{A:Around}{E:Zab}{s:ψ}
def ZpJ{ps:List (T×Λ×ω)}{k:T}(m:N.room A)(h:N.is s.heap k c)(q:jQ N s.heap t ps)(O:ps.length<=aA) (H:∀p,atKey ps k=Z p->Q p.2 {s with toks:=s.toks+N.draws k}) (I:atKey ps k=am->∀h',jQ N h' t (lB ps k c v)->lj t s.heap h'->Q v {s with heap:=h',toks:=s.toks+N.draws k}):wpAny 'j' A (Rm t (.ref c) v) Q E s:=by
 refine cv q λob es f J e g u=>aM u λr i=>?_;clear q u;unfold Rm;refine wpAny_holding (υ (N.pyHash m h (υ (Zxo (s:={s with toks:=s.toks+N.draws k}) m h f e g r i (λB=>?_) λj p C=>?_))))
 ·have d:=Zxp B;have L:=Zxq B;have hz:=size_of_entries g;refine υ (xq (υ (Zxr (hz:=by lia) (s:={s with toks:=s.toks+N.draws k}) f e (χ (I d _ ⟨_,es.push ⟨N.hash k,.ref c,v⟩,A2 _ f (Zxs (GO e _)),J.mapDictKeys _,by rw[rJ d,bH];exact GO e _,?_,λx hx=>?_,?_⟩ (oG ..))))));·simp[rJ d,g,AN]
  ·rw[rJ d]at hx;rcases bU.mp hx with hx|hx;·exact N.keeps (r x hx) f e (oG ..)
   ·rw[aZ.mp hx];exact N.keeps h f e (oG ..)
  ·rw[rJ d,cz];exact mr.mpr ⟨i,by simp,λx hx y M z=>L ((show y=k by simpa using M)▸z▸hx)⟩
 ·refine υ (GX (s:={s with toks:=s.toks+N.draws k}) f e ?_);rw[entry_at g j,C];exact υ (xq (χ (H p (atKey_of_get i C))))
def Zmf{k:T}(nd:(t==iu)=bi):MeetsIn prog w (Builtin.«dict.setdefault» ⟨[.ref t,.ref c,v],[]⟩) (λA R s=>N.room A.in1/\N.is s.heap k c/\∃ps,jQ N s.heap t ps/\ps.length<=aA/\(∀p,atKey ps k=Z p->R (.ok (.ret p.2)) {s with toks:=s.toks+N.draws k})/\(atKey ps k=am->∀h',jQ N h' t (lB ps k c v)->lj t s.heap h'->R (.ok (.ret v)) {s with heap:=h',toks:=s.toks+N.draws k})):=.of_wp λA R s z=>aQ z λf g y=>bh y λps e i j m=>by unfold Builtin.«dict.setdefault» Zy6;refine υ (υ (Ra e.of.typeIs (χ (a:=(t,cN c,Z v)) ?_)));show wpAny _ _ (if(t==iu)=be then _ else(Rm t (.ref c) v>>=_)) _ _ s;rw[nd,if_neg dg];exact υ (ZpJ f g e i (λp q=>χ ⟨p.2,W,j p q⟩) λr h' d h=>χ ⟨v,W,m r h' d h⟩)
end
section
variable {X:Cx}
def ZuJ(K:au):V->List V->Hp->VK->Prop:=λx vs H Q=>∃a ks us b k y,x=.ref a/\vs=[.ref b,y]/\H a=Z (cj K a ks us)/\ks.length<aA/\dv K (gZ H) 8 (.ref b) k/\(∀v,atT ks us k=Z v->Q v H)/\(atT ks us k=am->Q y (upd H a (cj K a (lV ks k) (nU ks us k y))))
def ZpK(C:X.A.units+9<cLine):nz X "dict.setdefault" (ZuJ X.K):=by intro h s σ H x vs v us Q I E c ⟨a,ks,ws,b,k,y,J,L,i,hz,j,M,O⟩;subst J L;cases E;induction c using eL with|@cons u1 _ T c=>induction c using eL with|@cons u2 _ m c=>
 induction c using gM;cases T;refine aQ (tq I i) λt u z=>bh z λxs U Y B e=>?_;clear z;subst U;have wr:=Lv I i t Y B e.of j m hz;have r:=v7 (d:=k) B;refine Rj GV e.of.typeIs ZxG (ZxH _ _ _) (Zmf (N:=kH X.prog X.w) (k:=k) t) ⟨vY C,dv.raw I 8 (.ref _) _ _ W j,xs,e,by rw[aG]at u;exact u,λp hp=>?_,λno h' f hs=>?_⟩;·rw[hp]at r;cases q:atT (xs.map (·.1)) ws k with|none=>rw[q]at r;exact r.elim|some g=>rw[q]at r;exact⟨g,H,I.tok _,r,M g q⟩
 ·rw[no]at r;cases q:atT (xs.map (·.1)) ws k with|some g=>rw[q]at r;exact r.elim|none=>exact⟨y,_,wr h' _ f hs,m,O q⟩
end
section
variable {X:Cx}{o e:Expr}{es:List Expr}{to:TE}{t:TA}{name:Str}{apos cpos:Pos}{id:String}{r:V->List V->Hp->VK->Prop}
def tBT(K:au)(r:V->List V->Hp->VK->Prop)(to:TE)(t:TA):TE:=λc H Q=>to c H λx d=>(∃a ks vs,x=.ref a/\d a=Z (cj K a ks vs))/\t c d λxs H2=>r x xs H2 Q
def L_(i:Slot "dict" name id)(m:typeOf (.builtin id)=pure (.type "method_descriptor"))(A:nz X id r)(B:PE X o to)(C:PA X (e::es) t) (f:md o name X.env (eval o X.env)=eval o X.env) (j:((dW cpos (bq (e::es) X.env)).all (λx=>!x.1)&&(me cpos (mf [] X.env)).all (λx=>x.1.isSome) &&decide ((e::es).length+([]:List uA).length+(if([]:List uA).isEmpty then 0 else 1)<30))=be) (g:'s'=be) (hs:bq (e::es) X.env=(bi,eval e X.env)::bq es X.env) (d:(dW cpos (bq es X.env)).any (·.1)=bi):PE X (.Call (.Attribute o name apos) (e::es) [] cpos) (tBT X.K r to t):=by
 intro c s p H Q I h;refine wpAny_Call_method_late f j g W (aL (B c s p H _ I h) λv E J=>?_);obtain⟨x,L,u,M,⟨a,ks,vs,N,O⟩,T⟩:=J;subst N;cases M;refine aQ (tr u O) λ_ _ z=>bh z λxs _ _ _ q=>?_;clear z;refine⟨"dict",id,Rk,i,m,q.typeIs,λb U=>?_,?_⟩;·cases U;refine aS q λob _ _ Y g2 _=>?_;clear q;exact⟨ob,Y,g2.2.1⟩
 have w:=C cpos c E p L _ u T;rw[hs]at w⊢;refine QJ (by show(bi||(dW cpos (bq es X.env)).any (·.1))=bi;rw[d]<;>rfl) (Zwu ?_);exact aL w λus s2 y=>ay y λvs H2 I2 r2 q2=>A c s2 p H2 (V.ref a) vs (cN a) us Q I2 W r2 q2
end
section
variable {X:Cx}{e ke:Expr}{pos np fp:Pos}{fo fk:Zaj}{x:Str}{C:Λ}
def qN(i:Nat)(C:Λ)(fk fo:Zaj):Zal:=λc=>(gx i c).bind λs=>(fk c).bind λk=>match k with|.tup kk=>if s.C=C/\dQ 8 (.tup kk)=be/\s.ks.length<aA then match atT s.ks s.cE (.tup kk)with|some (.lst es)=>(fo c).bind λd=>if es.length<aA then Z (.aF (c.set i (Z (s.put s.ks (s.cE.set (eZ s.ks (.tup kk)) (.lst (es++[d])))).sd)))else am|some _=>am|none=>(fo (c.set i (Z (s.put (s.ks++[.tup kk]) (s.cE++[.lst []])).sd))).bind λd=>Z (.aF ((c.set i (Z (s.put (s.ks++[.tup kk]) (s.cE++[.lst []])).sd)).set i (Z (s.put (s.ks++[.tup kk]) (s.cE++[.lst [d]])).sd))) else am|_=>am
theorem LL.snoc{K:au}{H G:Hp}{L:List Λ}{c:List D}{vs:List V}{es:List D}(h:LL K H G L c)(q:H p=Z (.lst vs))(r:az K G vs es):LL K H G (L++[p]) (c++[.lst es]):=by
 refine⟨by rw[bH,bH,h.1];rfl,λj b d f g=>?_⟩;by_cases i:j<L.length;·rw[gL i]at f;rw[gL (h.1▸i)]at g;exact h.2 j b d f g
 ·have m:=(bt.mp f).1;rw[bH,xy]at m;have e:j=L.length:=Gz (Nat.le_of_lt_succ m) (A5 i);subst e;rw[ku (a9 _),Bc]at f;rw[h.1,ku (a9 _),Bc]at g
  exists f
  exists g;exact⟨vs,es,W,q,r⟩
theorem Ma{c d:Type}{k:D}{ks:List D}{us:List c}{vs:List d}(f:ks.length=us.length)(g:ks.length=vs.length)(h:atT ks us k=am):atT ks vs k=am/\k∉ks:=by
 have n:k∉ks:=λz=>by have:=(yT f).mpr z;rw[h]at this;injection this
 refine⟨?_,n⟩;cases q:atT ks vs k with|none=>rfl|some v=>exact absurd ((yT g).mp (by rw[q];rfl)) n
def Za_{apos cpos tH tI:Pos}(hu:X.A.units+9<cLine)(i:Nat)(c:eO X.K C)(n:gh X.K C "letters")(hk:cT X ke fk)(h:cT X e fo)(hi:X.N[i]?=Z x)(hv:c6 X.env.scope x)(hn:cx e=be)(M:cx ke=be)(hd:'f'=bi)(qK:'i'=bi)(f:md (.Name x np) "letters" X.env (eval (.Name x np) X.env)=eval (.Name x np) X.env)(Zb_:'s'=be)(Y:(tH.endLine==tI.line)=be):KS X (.Expr (.Call (.Attribute (.Call (.Attribute (.Attribute (.Name x np) "letters" fp) "setdefault" tH) [ke,.List [] lp] [] tI) "append" apos) [e] [] cpos) pos) (qN i C fk fo):=⟨cM (mz (kF m_ uK uL ql (L_ GV ZxJ (ZpK hu) (u0 (er hi hv hd qK) f) (ed hk.h (ed (u7 eT) eT (bF W)) (bF M)) W (by rw[ji (show [ke,Expr.List [] lp].all cx=be by rw[cW,M];rfl)];rfl) Y (bF M) (eP W)) (ed h.h eT (bF hn)) W (by rw[ji (show [e].all cx=be by rw[cW,hn];rfl)];rfl) Zb_ (bF hn) (eP W)) W) λDn σ H t=>aS t λρ O o R ee q=>by
  refine bS ee λs h3 ee=>bS ee λk h1 e0=>?_;cases k with|tup kk=>refine bR (p:=s.C=C/\dQ 8 (.tup kk)=be/\s.ks.length<aA) e0 λhC g=>aQ hC λhC ht hz=>?_;clear e0;subst hC;have ze:=qI h3;refine R.h8 ze λa A e1 e2 e3 e4 t=>t.el λdx dA I B L vg vp dP m=>?_;have lL:s.ks.length=s.cE.length:=m.lk.trans m.ll.1;refine⟨.ref s.r,e1,s.r,s.C,dx,_,.ref I,W,dG H O _ _ m.ins,c,n,L7,⟨I,s.ks,_,W,m.hl⟩,ρ,O,_,R,h1,λy T S1 r1=>⟨dZ _,λp hp=>?_⟩⟩;have Q:=m.mono (λb f=>S1.own b (e2 b f)) S1.same;have R1:=R.mono S1;have S2:av T (upd T p (.lst [])):=dj hp _;have hlP:upd T p (.lst []) I=Z (cj X.K I s.ks (L.map .ref)):=S2 _ _ Q.hl;have kt:=nS 8 ((r1.mono (dG T O)).mono S2) ht;induction r1 using sf with|@tup b _ _ _=>
   refine⟨I,s.ks,_,b,.tup kk,.ref p,W,W,hlP,hz,kt,λv hv=>?_,λno=>?_⟩;·cases h4:atT s.ks s.cE (.tup kk)with|none=>rw[(Ma lL (by rw[aG];exact m.lk) h4).1]at hv;injection hv|some dl=>rw[h4]at g;cases dl with|lst es=>
      refine bS g λd h2 g=>?_;refine bR g λDH e0=>?_
      exists e0;have h5:=zc h4;have hL:eZ s.ks (.tup kk)<L.length:=by rw[m.ll.1];exact(bt.mp h5).1
      have zf:=cF hL;have Mb:=m.mL (cu zf);rw[DQ V.ref m.lk zf]at hv
      exists hv;have SP:=SO.of R1.ls S2;have R2:=R1.mono SP;have zd:=Q.mono (λb f=>SP.own b (e2 b f)) SP.same;refine ay (zd.ll.2 _ _ _ zf h5) λvs pa e9 tL qM=>?_;injection e9 with e9;subst e9;refine⟨.inl ⟨W,vs,bX.of tL⟩,ρ,O,d,R2,h2,λw H3 S3 r3=>?_⟩;have R3:=R2.mono S3;have zg:=zd.mono (λb f=>S3.own b (e2 b f)) S3.same;have o3:H3 L[eZ s.ks (.tup kk)]=Z (.lst vs):=(S3.own _ (e2 _ (.tail _ Mb))).trans tL;refine⟨_,vs,w,W,W,o3,by rw[qM.length];exact DH,?_⟩;obtain⟨R4,hh⟩:=R3.tK (zg.DN e3 zf ((qM.mono S3.same).append (.cons r3 .nil))) ze e1 e2 e3 e4 (.tail _ Mb) (.inl ⟨_,W⟩);exact q _ _ O (by rw[hh];exact S1.same.trans (SP.same.trans S3.same)) R4|_=>injection g
   ·obtain⟨h4,M⟩:=Ma (vs:=s.cE) (by rw[aG];exact m.lk) lL no;rw[h4]at g;refine bS g λd h2 g=>?_
    exists g;rw[Dr M,Ds (by rw[aG];exact m.lk) M,show L.map V.ref++[V.ref p]=(L++[p]).map V.ref by rw[cz];rfl];have np:∀{b u},T b=Z u->b≠p:=λe z=>by rw[z,hp]at e;injection e
    have pO:p∉O:=λz=>ax (R1.ls p z) λ_ e _=>np e W;have DR:p≠I:=bW (np Q.hl);have SG:av (aq T O) (aq (upd T p (.lst [])) (p::O)):=λb u e=>by obtain⟨f,e'⟩:=eg e;rw[bj λz=>(a6.mp z).elim (np e') f];exact S2 _ _ e'
    have Rg:=R1.grow SG (λb f=>⟨.tail _ f,(SO.of R1.ls S2).own b f⟩) λb f=>(a6.mp f).elim (λz=>z▸⟨_,br,.inl ⟨_,W⟩⟩) λz=>ax (R1.ls b z) λu e hu=>⟨u,S2 _ _ e,hu⟩
    have E:=Q.mono (H':=upd T p (.lst [])) (λb f=>(SO.of R1.ls S2).own b (e2 b f)) SG;generalize DU:dA::I::(B++(L++[p]))=A';have J:∀b,b∈a::A'↔b∈a::A\/b=p:=λb=>by rw[<-DU,m.eA];simp[or_assoc]
    have sub:∀b∈a::A',b∈p::O:=λb f=>((J b).mp f).elim (λz=>.tail _ (e2 _ z)) λz=>z▸ .head _;have zh:(a::A).Nodup:=d8.mpr ⟨e3,m.nd⟩;have nd':(a::A').Nodup:=by rw[<-DU,<-jX];show(a::(dA::I::(B++L))++[p]).Nodup;rw[<-m.eA];exact mr.mpr ⟨zh,by simp,λx Q y hy z=>pO (e2 _ (aZ.mp hy▸z▸Q))⟩
    obtain⟨DV,Zc_⟩:=d8.mp nd';have off:Off σ ρ (a::A'):=λj κ es b U o2 f=>((J b).mp f).elim (e4 j κ es _ U o2) λz=>by refine bV (R1.ow j κ es U) λb' us w1 w2 w3 _=>?_;rw[o2]at w1;cases w1;exact np w3 z
    obtain⟨⟨n1,n2⟩,_⟩:=m.all;have wh:∀b∈B++L,b≠I:=λb f z=>n2 (z▸f);have mlA:I∈a::A:=m.eA▸ .tail _ (.tail _ (.head _));have zg:HX X.K (upd (upd T p (.lst [])) I (cj X.K I (s.ks++[.tup kk]) ((L++[p]).map .ref))) (aq (upd T p (.lst [])) (p::O)) (s.put (s.ks++[.tup kk]) (s.cE++[.lst []])) a A' dx dA I B (L++[p]) vg vp dP:=⟨DU.symm,Zc_,W,E.ins,E.rg,E.rp,dD E.hs λz=>e3 (z▸m.eA▸ .tail _ (.head _)),E.rs,dD E.hd λz=>n1 (z▸ .head _),E.ld.mono (λb f=>bu (wh b (gf _ f))) (av.refl _),br,by simp[bC.put,m.lk],(E.ll.mono (λb f=>bu (wh b (dr _ f))) (av.refl _)).snoc (dD br DR) .nil⟩
    obtain⟨R3,wd⟩:=Rg.tK zg ze e1 sub DV off ((J I).mpr (.inl mlA)) (.inr (.inr ⟨_,_,_,W⟩));refine⟨.inl ⟨W,[],bX.of (dD br DR)⟩,_,p::O,d,R3,h2,λw H4 S4 r4=>⟨p,[],w,W,W,(S4.own p (.head _)).trans (dD br DR),mq _,?_⟩⟩;have ia:i<ρ.length:=(bt.mp ze).1;have Mc:=(zg.mono (λb f=>S4.own b (sub b f)) (wd▸S4.same)).DN DV (j:=L.length) (b:=p) 'o' (.cons r4 .nil);rw[show(s.put (s.ks++[.tup kk]) (s.cE++[.lst []])).cE.set L.length (.lst [d])=s.cE++[.lst [d]] by rw[m.ll.1];simp[bC.put]]at Mc;obtain⟨R5,hh5⟩:=(R3.mono S4).tK Mc (gq ia) e1 sub DV (λj κ es b U o2 f=>off j κ es b (by
       by_cases z:i=j
       ·subst z;rw[gq ia]at U;injection U with U;injection U with U;injection U
       ·rwa [c4 z]at U) o2 f) ((J p).mpr (.inr W)) (.inl ⟨_,W⟩);exact q _ _ _ (show av _ (aq (upd H4 p (.lst [w])) (p::O)) from by rw[hh5];exact S1.same.trans (SG.trans (wd▸S4.same))) R5|_=>injection e0⟩
end
noncomputable def DY:Expr->Bool|.Call .. =>bi|_=>be
def Md{o:Expr}(h:DY o=be):md o f c w=w:=by cases o<;>first|rfl|injection h
section
variable {X:Cx}{C:Λ}{e o:Expr}{es:List Expr}{pos apos:Pos}{f m:Str}{g:Zaf}{fs:List Zaf}{F:Zad}
def pf(c:eO X.K C)(n:gh X.K C f)(w:JE X e g)(x:DY e=be):JE X (.Attribute e f pos) (hD C f g):=⟨cR (u0 w.h (Md x)) λN H Q z=>ay z λy d R A q=>by
  refine bS A λB E u=>⟨y,B,R,E,λv I J L=>?_⟩;induction L using gp with
  |@obj a j p ks vs ds h r=>
   have i:(if p=C then(ks.zip ds).lookup f else am)=Z d:=u;by_cases t:p=C;·rw[if_pos t]at i;subst t;obtain⟨v,l,M⟩:=r.look i;exact⟨a,p,j,_,v,W,h,c,n,l,q v I J M⟩
   ·rw[if_neg t]at i;injection i|_=>injection u⟩
def Zsr{k:Nat}(T:DM X.prog X.w X.K X.mg X.base k C m F)(c:eO X.K C)(hr:bA k X.A)(p:JE X o g)(i:JA X (e::es) fs (ag fs))(q:eval 'A' X.env=(do
   let j<-eval o X.env
   standAt apos.atName;let (f,first)<-holding [j] (m7 j m pl)
   pV pos f first (dW pos (bq (e::es) X.env)) (me pos (mf [] X.env)))):JE X 'A' (dR C m F g (ag fs)):=by have d:=i.st;rw[cW,cV]at d;exact⟨Z4 T c hr p.h i.h (bF d.1) (eP d.2) q⟩
def ZpL{k:Nat}(T:DM X.prog X.w X.K X.mg X.base k C m F)(c:eO X.K C)(hr:bA k X.A)(E:JE X o g)(I:eval (.Call (.Attribute o m apos) ([]) [] pos) X.env=(do
   let x<-eval o X.env
   standAt apos.atName;let (f,first)<-holding [x] (m7 x m pl)
   pV pos f first (dW pos (bq ([]) X.env)) (me pos (mf [] X.env)))):JE X (.Call (.Attribute o m apos) [] [] pos) (dR C m F g nF):=⟨by refine aS T.ex λf fd ps J L M=>cR (Uj E.h c J M hr L .nil r0 I) λσ H Q z=>ay z λN d R O q=>bS O λy U Y=>?_;have B:L6 C m F y []=Z d:=Y;refine⟨N,y,R,U,λv H1 s1 r1=>?_⟩;induction r1 using gp with
 |@obj a t p ks vs j h r=>
  have i:(if p=C/\ks.contains m=bi then F (.obj p ks j::[])else am)=Z d:=B;by_cases u:p=C/\ks.contains m=bi;·rw[if_pos u]at i;obtain⟨rfl,hk⟩:=u;exact⟨a,t,_,W,h,r.L5 hk,⟨.obj p ks j::[],d,.cons (.obj h r) .nil,i,λv H' s3 r3=>q v H' (s1.trans s3) r3⟩⟩
  ·rw[if_neg u]at i;injection i|_=>injection B⟩
end
def n0(K:au)(H:Hp)(s:bC)(a:Λ)(A:List Λ):Prop:=a∉A/\we K H (aq H (a::A)) s a A
theorem LL.own{K:au}{H G:Hp}{B:List Λ}{c:List D}(h:LL K H G B c):∀b∈B,∃u,H b=Z u/\lR b u:=λb f=>by obtain⟨j,d⟩:=Rc f;have g:j<c.length:=h.1▸(bt.mp d).1;refine ay (h.2 j b _ d (cF g)) λvs es _ e _=>?_;exact⟨_,e,.inl ⟨_,W⟩⟩
def n0.lists{K:au}{H:Hp}{s:bC}{a:Λ}{A:List Λ}(h:n0 K H s a A):iA H (a::A):=λb hb=>by
 refine h.2.el λe f g B L i j d c=>?_;rcases a6.mp hb with rfl|hb;·exact⟨_,c.hs,.inl ⟨_,W⟩⟩
 rw[c.eA]at hb;rcases a6.mp hb with rfl|hb;·exact⟨_,c.hd,.inl ⟨_,W⟩⟩
 rcases a6.mp hb with rfl|hb;·exact⟨_,c.hl,.inr (.inr ⟨_,_,_,W⟩)⟩
 rcases bU.mp hb with hb|hb;·exact c.ld.own b hb
 ·exact c.ll.own b hb
noncomputable def ph(n:Nat)(s:bC)(ds:List D):aj:=Z s.sd::((ds.map λd=>Z (.bY d))++lx (n-(ds.length+1)) am)
def tM{n:Nat}{s:bC}(h:(ph n s ds)[j]?=Z (Z x)):(j=0/\x=s.sd)\/∃d m,j=m+1/\ds[m]?=Z d/\x=.bY d:=by unfold ph at h;cases j with|zero=>exact .inl ⟨W,(ao (ao h)).symm⟩|succ m=>
  rw[Bb]at h;by_cases c:m<ds.length;·rw[gL (by rw[aG];exact c),bJ,cF c]at h;exact .inr ⟨_,m,W,cF c,(ao (ao h)).symm⟩
  ·rw[ku (by rw[aG];exact A5 c),xu]at h;split at h;·injection h with h;injection h
   ·injection h
def Zj1{K:au}{H:Hp}{s:bC}{a:Λ}{A:List Λ}{N:List Str}{us:List V}{ds:List D}(w:ds.length+1<=N.length)(h:n0 K H s a A)(r:az K (aq H (a::A)) us ds):RO K H (L2.start N (.ref s.r::us)) (ph N.length s ds) (a::A):=by
 have x:=r.length;have y:(L2.start N (.ref s.r::us))[0]?=Z (Z (.ref s.r)):=rfl;have z:∀(m:Nat)(v:V),us[m]?=Z v->(L2.start N (.ref s.r::us))[m+1]?=Z (Z v):=λm v e=>by unfold L2.start;rw[bG,GL,Bb,gL (by rw[aG];exact(bt.mp e).1),bJ,e];rfl
 refine⟨by simp[L2.start,ph,x],h.lists,λj d q=>?_,λj κ es q=>?_,λj m κ κ' es fs b q _ _ _=>?_,λj κ es q=>?_⟩
 ·rcases tM q with⟨_,e⟩|⟨d',m,rfl,f,c⟩;·injection e
  ·injection c with c;subst c;obtain⟨v,C,E⟩:=r.get f;exact⟨v,z m v C,E⟩
 ·rcases tM q with⟨_,e⟩|⟨_,_,_,_,e⟩<;>injection e
 ·rcases tM q with⟨_,e⟩|⟨_,_,_,_,e⟩<;>injection e
 ·rcases tM q with⟨rfl,e⟩|⟨_,_,_,_,e⟩
  ·injection e with f c;subst f c;refine h.2.el λI J M B L O Q i T=>?_;refine⟨λm κ' t u=>?_,a,A,y,λb U=>U,h.1,⟨I,J,M,B,L,O,Q,s.g,s.p,s.aR,s.bP,s.ks,s.cE,i,T⟩,λm κ' t b u=>?_⟩
   ·rcases tM u with⟨e,_⟩|⟨_,_,_,_,e⟩;·exact .inl e
    ·injection e
   ·rcases tM u with⟨_,e⟩|⟨_,_,_,_,e⟩<;>injection e
  ·injection e
def zi(K:au)(H:Hp)(O:List Λ)(s:bC):Prop:=∃a A,(∀b∈a::A,b∈O)/\a∉A/\we K H 'r' s a A
def RO.Me{K:au}{H:Hp}{d:St}{c:aj}{O:List Λ}{i:Nat}{s:bC}(R:RO K H d c O)(h:gx i c=Z s):zi K H O s:=R.h8 (qI h) λa A _ e f _ g=>⟨a,A,e,f,g⟩
abbrev HU:=aj->Option (D×bC)
structure tN(X:Cx)(st:List Stmt)(u:HU):Prop where h:gr X st (λDn σ H=>∃ρ O r,RO X.K H σ ρ O/\u ρ=Z r/\(∀v H' O',av 'r' (aq H' O')->zi X.K H' O' r.2->Rep X.K (aq H' O') v r.1->Dn.rt v H')/\(r.1=.aD->∀nL H' O',av 'r' (aq H' O')->zi X.K H' O' r.2->Dn.nx nL H'))
section
variable {X:Cx}{e:Expr}{st:Stmt}{rest:List Stmt}{pos:Pos}{fo:Zaj}{g:Zal}{u:HU}
noncomputable def iR(g:Zal)(u:HU):HU:=λc=>(g c).bind λo=>match o with|.aF ρ'=>u ρ'|_=>am
theorem Mf(c:KS X st g)(j:tN X rest u):tN X (st::rest) (iR g u):=⟨jJ (lE c.h j.h) λA B H y=>aS y λm O r R e t=>aM t λq p=>by refine bS e λo c e=>?_;refine⟨m,O,o,R,c,?_⟩;cases o with|aF ρ'=>exactλw H' x s r'=>⟨ρ',x,r,r',e,λv H2 O2 f=>q v H2 O2 (s.trans f),λz i H2 O2 f=>p z i H2 O2 (s.trans f)⟩|ret d=>injection e|brk ρ'=>injection e|cnt ρ'=>injection e⟩
def zj(g:Zal):HU:=λc=>(g c).bind λo=>match o with|.aF ρ'=>(gx 0 ρ').map λs=>(.aD,s)|_=>am
theorem ZpM(c:KS X st g):tN X [st] (zj g):=⟨jJ (qf c.h) λq t H z=>aS z λi O r R e y=>aM y λ_ j=>by refine bS e λo c e=>?_;refine⟨i,O,o,R,c,?_⟩;cases o with
  |aF ρ'=>
   obtain⟨s,hs,rfl⟩:=bQ.mp e
   exactλf H' m S p=>j W f H' m S (p.Me hs)|ret d=>injection e|brk ρ'=>injection e|cnt ρ'=>injection e⟩
def zk(fo:Zaj):HU:=λc=>(fo c).bind λd=>(gx 0 c).map λs=>(d,s)
def ZpN(h:cT X e fo):tN X [.Return (Z e) pos] (zk fo):=⟨jJ (qf (rS h.h)) λi j H z=>aS z λc O r R e y=>aM y λq _=>by refine bS e λd f e=>?_;obtain⟨s,hs,rfl⟩:=bQ.mp e;exact⟨c,O,d,R,f,λv H' S r=>q v H' O S.same ((R.mono S).Me hs) r⟩⟩
end
def pj(K:au)(F:List D->bC->Option (D×bC)):Sp:=λvs H Q _=>∃us ds s d s' a A,vs=.ref s.r::us/\n0 K H s a A/\az K (aq H (a::A)) us ds/\F ds s=Z (d,s')/\∀v H' c e,av (aq H (a::A)) (aq H' (c::e))->n0 K H' s' c e->Rep K (aq H' (c::e)) v d->Q v H'
def n6(np ns:Nat)(u:HU)(ds:List D)(s:bC):Option (D×bC):=if ds.length=np then u (ph ns s ds)else am
def fnH{P:a8}{w:World}{K:au}{mg:Zac}{base:Heap}{x i:Str}{st:Stmt}{f:Λ}{fd:dt}{N ps:List Str}{k np ns:Nat}{u:HU}(Fn:kG K x i st f fd)(S:nq N ps (cQ st))(hp:ps.length=np+1)(hn:N.length=ns)(T:np+1<=ns) (C:∀(m:ω)(A:Around)(g:List Env)(s:ψ)(H:Hp)(E:XK),bA k (A.deeper (iH i (cQ st) s.heap.objs.size f m))->tN (i_ cL P w K mg base N i (cQ st) f m A g s H E).j6 (gP st) u):cP P w K mg base cL (k+1) f fd ps (pj K (n6 np ns u)):=by
 subst hn;have len:∀{ds:List D}{s:bC}{r:D×bC},n6 np N.length u ds s=Z r->ds.length=np/\u (ph N.length s ds)=Z r:=λ{ds s r} h=>by
  unfold n6 at h;by_cases q:ds.length=np;·rw[if_pos q]at h;exact⟨q,h⟩
  ·rw[if_neg q]at h;injection h
 refine Fn.ok S (λvs H Q E l=>aU l λus ds s p=>aU p λd s' a j=>bh j λA e1 _ r y=>aM y λe _=>by rw[e1,bz,r.length,(len e).1,hp]) (λm A g s H vs Q E hr h=>?_);refine aU h λus ds t p=>aU p λd t' a j=>bh j λA' U ha r y=>aM y λe q=>?_;clear h p j y;subst U;obtain⟨hl,e⟩:=len e;have M:∀{v:V}{H':Hp}{I:List Λ},av (aq H (a::A')) (aq H' I)->zi K H' I t'->Rep K (aq H' I) v d->Q v H':=λ{v H' I} O J Y=>by
  refine ay J λb B h1 h2 p=>aU p λdx dA lA j=>aU j λB' L vg y=>gO y λvp dP J=>?_;clear p j y;have hS:av (aq H' I) (aq H' (b::B)):=λc o e=>by obtain⟨hc,e'⟩:=eg e;rw[bj λz=>hc (h1 c z)];exact e'
  exact q v H' b B (O.trans hS) ⟨h2,dx,dA,lA,B',L,vg,vp,dP,J.mono (λ_ _=>rfl) hS⟩ (Y.mono hS)
 exact⟨_,(C m A g s H E hr).h,ph N.length t ds,a::A',(d,t'),Zj1 (by rw[hl];exact T) ha r,e,λv H' I O J Y=>M O J Y,λz nL H' I O J=>M O J (by rw[show d=.aD from z];exact .aD)⟩
structure Zd_(P:a8)(w:World)(K:au)(mg:Zac)(base:Heap)(k:Nat)(C:Λ)(m:Str)(F:List D->bC->Option (D×bC)):Prop where ex:∃(f:Λ)(fd:dt)(ps:List Str),Meth K C m f/\i8 K fd ps []/\cP P w K mg base cL k f fd ps (pj K F)
section
variable {X:Cx}{C:Λ}{e:Expr}{es:List Expr}{pos apos np:Pos}{x m:Str}{fs:List Zaj}{F:List D->bC->Option (D × bC)}
def zl(K:au)(i:Nat)(C:Λ)(fs:List Zaj)(F:List D->bC->Option (D×bC)):TE:=λg H Q=>∃c O s ds d s',RO K H g c O/\gx i c=Z s/\s.C=C/\kT fs c=Z ds/\F ds s=Z (d,s')/\s'.r=s.r/\∀v H' f,av 'r' (aq H' f)->RO K H' g (c.set i (Z s'.sd)) f->Rep K (aq H' f) v d->Q v H'
def Zss{d f a b c:V}(h:iB.contains m=bi):(iB.zip [d,f,a,b,c]).lookup m=am:=by rw[ZxK];intro p g;have:=(rz g).1;exact bne_iff_ne.mpr λz=>by rw[z,ZxL.mpr this]at h;injection h
def Zmg{k:Nat}(T:Zd_ X.prog X.w X.K X.mg X.base k C m F)(c:eO X.K C)(hr:bA k X.A)(i:Nat)(hi:X.N[i]?=Z x)(hv:c6 X.env.scope x)(hd:'f'=bi)(qK:'i'=bi)(ha:kU X (e::es) fs [])(hmf:iB.contains m=bi)(ht:eval (.Call (.Attribute (.Name x np) m apos) (e::es) [] pos) X.env=(do
   let ov<-eval (.Name x np) X.env
   standAt apos.atName;let (f,first)<-holding [ov] (m7 ov m pl)
   pV pos f first (dW pos (bq (e::es) X.env)) (me pos (mf [] X.env)))):PE X (.Call (.Attribute (.Name x np) m apos) (e::es) [] pos) (zl X.K i C fs F):=by
 have uX:=ha.st;rw[cW,cV]at uX;refine aS T.ex λf fd ps hm hb hF=>?_;intro π s σ H Q I ⟨ρ,O,t,ds,d,t',R,h1,hC,sC,Dy,hrr,q⟩;subst hC;have DZ:=qI h1;refine R.h8 DZ λa A e1 e2 e3 e4 l=>l.el λdx dA lA B L vg vp dP hx=>?_;refine Qw (pl:=pl) (aL (er hi hv hd qK π s σ H (λv Y=>v=.ref t.r/\Y=H) I ⟨_,e1,W,W⟩) λu s0 l=>bV l λx0 H0 I0 rx ex eH=>?_) ht;subst ex eH;obtain rfl:u=cN t.r:=rx;refine BH I0 (dG H0 O _ _ hx.ins) c hm (Zss hmf) ?_;refine AW (first:=[.ref t.r]) (h₀:=X.base) I0.ok.mod.qc hm.kp (aL (ha.h pos π s0 σ H0 (λus Y=>SO H0 Y O/\az X.K (aq Y O) us ds) I0 ⟨ρ,O,ds,[],R,W,sC,λvs H' S r=>⟨S,by rw[uF,eS];exact r⟩⟩) λus s1 l=>bV l λvs Y I1 rv S r1=>⟨I1.eN,?_⟩) (bF uX.1) (eP uX.2);have R1:=R.mono S;have zb:=hx.mono (λb hb=>S.own b (e2 b hb)) S.same;have sub:∀b,b∈O.filter (λb=>decide (b∉a::A))↔b∈O/\b∉a::A:=λb=>by simp[eR]
 generalize ZC:O.filter (λb=>decide (b∉a::A))=O2 at sub;have hL:iA Y O2:=λb hb=>R1.ls b ((sub b).mp hb).1;have eh:aq (aq Y O2) (a::A)=aq Y O:=by
  funext b;by_cases hb:b∈a::A;·rw[c8 hb,c8 (e2 b hb)]
  ·rw[bj hb];by_cases hc:b∈O;·rw[c8 hc,c8 ((sub b).mpr ⟨hc,hb⟩)]
   ·rw[bj hc,bj λz=>hc ((sub b).mp z).1]
 have Mg:∀b∈a::A,b∉O2:=λb hb z=>((sub b).mp z).2 hb;refine aL (u9 (us:=.ref t.r::us) (vs:=.ref t.r::vs) (Q:=λv H2=>∃M U,av (aq (aq Y O2) (a::A)) (aq H2 (M::U))/\n0 X.K H2 t' M U/\Rep X.K (aq H2 (M::U)) v d) hF hr hb .nil r0 (Inv.hide I1 hL) (.cons W rv) ⟨vs,ds,t,d,t',a,A,by rw[eS],⟨e3,dx,dA,lA,B,L,vg,vp,dP,zb.mono (λb hb=>bj (Mg b hb)) (by rw[eh];exact av.refl _)⟩,by rw[eh];exact r1,Dy,λv H' M U x y z=>⟨M,U,x,y,z⟩⟩) λu s' l=>ay l λv H2 J rv zm=>ay zm λM U s2 x2 r2=>?_;have D1:=x2.lists;obtain⟨J',hn⟩:=Inv.yA I1 hL J λb xs e=>by
  have hb:b∉a::A:=λz=>by
   obtain⟨u,hu,ow⟩:=R1.ls b (e2 b z);rw[bj (Mg b z)]at e;rw[e]at hu
   exists hu;rcases ow with⟨_,z⟩|⟨_,z⟩|⟨_,_,_,z⟩<;>injection z
  exact(eg (s2 b _ (show aq (aq Y O2) (a::A) b=Z (.tup xs) by rw[bj hb];exact e))).2
 have D2:∀b∈M::U,b∉O2:=λb hb z=>by obtain⟨u,hu,_⟩:=D1 b hb;rw[hn b z]at hu;injection hu
 have el:aq (lay Y O2 H2) (O2++(M::U))=aq H2 (M::U):=by
  funext b;by_cases hb:b∈M::U
  ·rw[c8 hb,c8 (dr _ hb)]
  ·rw[bj hb];by_cases hc:b∈O2
   ·rw[c8 (gf _ hc),hn b hc]
   ·rw[bj λz=>(bU.mp z).elim hc hb,dO hc]
 rw[eh,<-el]at s2;have E:∀{j:Nat}{y:SD},(ρ.set i (Z t'.sd))[j]?=Z (Z y)->(j=i/\y=t'.sd)\/(j≠i/\ρ[j]?=Z (Z y)):=λ{j y} h=>by
  by_cases z:i=j
  ·subst z;rw[gq (bt.mp DZ).1]at h;exact .inl ⟨W,(ao (ao h)).symm⟩
  ·rw[c4 z]at h;exact .inr ⟨bW z,h⟩
 have Mh:∀{j:Nat}{κ:Option (List Key)}{es:List D}{b:Λ},ρ[j]?=Z (Z (.ow κ es))->σ[j]?=Z (Z (.ref b))->b∈O2:=λ{j κ es b} h g=>by refine ay (R1.ow j κ es h) λb' us w1 w2 _=>?_;rw[g]at w1;cases w1;exact(sub b).mpr ⟨w2,e4 j κ es b h g⟩
 have uq:=(R.xt i _ _ DZ).1;refine⟨v,_,J',rv,q v _ (O2++(M::U)) (S.same.trans s2) ⟨by rw[d9];exact R.len,λb hb=>?_,λj d h=>?_,λj κ es h=>?_,λj j' κ κ' es Bl b g1 g2 g3 g4=>?_,λj κ es h=>?_⟩ (by rw[el];exact r2)⟩
 ·rcases bU.mp hb with hb|hb
  ·rw[gC hb];exact R1.ls b ((sub b).mp hb).1
  ·rw[dO (D2 b hb)];exact D1 b hb
 ·rcases E h with⟨_,z⟩|⟨_,h⟩
  ·injection z
  ·obtain⟨v,g1,g2⟩:=R1.bY j d h;exact⟨v,g1,g2.mono s2⟩
 ·rcases E h with⟨_,z⟩|⟨_,h⟩
  ·injection z
  ·refine cv (R1.ow j κ es h) λb us w1 w2 w3 w4 w5=>?_;have hb:=Mh h w1;exact⟨b,us,w1,gf _ hb,by rw[gC hb];exact w3,w4.mono s2,w5⟩
 ·rcases E g1 with⟨_,z⟩|⟨_,g1⟩
  ·injection z
  ·rcases E g2 with⟨_,z⟩|⟨_,g2⟩
   ·injection z
   ·exact R1.inj j j' κ κ' es Bl b g1 g2 g3 g4
 ·rcases E h with⟨rfl,z⟩|⟨hj,h⟩
  ·injection z with z1 z2;subst z1 z2;refine aM x2 λD3 zm=>aU zm λD4 D5 D6 Mi=>aU Mi λB' L' D7 Mj=>gO Mj λD8 Ze_ pk=>?_;clear x2 zm Mi Mj;refine⟨λj' κ' pa h'=>?_,M,U,by rw[show(XD.h t'.r t'.C).root M=t'.r from W,hrr];exact e1,λb hb=>dr _ hb,D3,⟨D4,D5,D6,B',L',D7,D8,t'.g,t'.p,t'.aR,t'.bP,t'.ks,t'.cE,Ze_,pk.mono (λb hb=>dO (D2 b hb)) (by rw[el];exact av.refl _)⟩,λj' κ' pa b o1 o2 hb=>?_⟩
   ·rcases E h' with⟨e,_⟩|⟨e,h'⟩
    ·exact .inl e
    ·rcases uq _ _ _ h' with z|⟨z,_⟩
     ·exact .inl z
     ·injection z
   ·rcases E o1 with⟨_,z⟩|⟨_,o1⟩
    ·injection z
    ·exact D2 b hb (Mh o1 o2)
  ·rcases uq _ _ _ h with z|⟨z,_⟩
   ·exact absurd z hj
   ·injection z
end
section
variable {X:Cx}{C:Λ}{c1 c2 e:Expr}{body:List Stmt}{pos p1 p2 p3 bp:Pos}{zo zp:List Zaj}{F1 F2:List D->bC->Option (D × bC)}{fv:Zaj}{t:TS}
def tO(i:Nat)(C:Λ)(zo:List Zaj)(F1:List D->bC->Option (D×bC))(zp:List Zaj)(F2:List D->bC->Option (D×bC))(fv:Zaj):Zal:=λd=>(gx i d).bind λs=>(kT zo d).bind λqO=>match F1 qO s with|some (.aD,c)=>(kT zp (d.set i (Z c.sd))).bind λnT=>(F2 nT c).bind λf=>(fv ((d.set i (Z c.sd)).set i (Z f.2.sd))).bind λg=>(cY 64 f.1 g).bind λb=>if b=be/\(s.C=C/\c.C=C)/\c.r=s.r/\f.2.r=c.r then Z (.aF ((d.set i (Z c.sd)).set i (Z f.2.sd)))else am|_=>am
def D9{c:aj}{s:bC}(h:i<c.length):gx i (c.set i (Z s.sd))=Z s:=by unfold gx;rw[gq h];rfl
def ZpO{n:Nat}(i:Nat)(Q:X.A.units+64<cLine)(T:PE X c1 (zl X.K i C zo F1))(U:PE X c2 (zl X.K i C zp F2))(Y:cT X e fv)(hm:behindInMarks .NotEq e=bi)(hb:gr X body t):KS X (.If (.BoolOp .Or [.Compare c1 [.IsNot] [.Constant .none n p1] p2,.Compare c2 [.NotEq] [e] p3] bp) body [] pos) (tO i C zo F1 zp F2 fv):=⟨cM (uY (Hj (Si (Sh T)) (Hi (HG (Jc Q) U Y.h hm))).pt hb xQ) λDn σ H p=>aS p λg O o R d q=>by
  refine bS d λs L d=>bS d λqO g2 c=>?_;clear d;split at c;case h_2=>injection c
  rename_i j g3;refine bS c λnT g4 c=>bS c λr2 g5 c=>bS c λm g6 c=>bS c λb g7 c=>bR c λhc c=>?_
  exists c;obtain⟨rfl,⟨hC,r⟩,x,B⟩:=hc;have E:i<g.length:=(bt.mp (qI L)).1;obtain⟨I,s2⟩:=r2;refine⟨g,O,s,qO,.aD,j,R,L,hC,g2,g3,x,λv H1 O1 S1 R1 rv=>?_⟩;cases v with|aD=>refine⟨bi,W,?_⟩;dsimp only;rw[if_neg dg];refine⟨g.set i (Z j.sd),O1,j,nT,I,s2,R1,D9 E,r,g4,g5,B,λw H2 O2 S2 R2 J=>?_⟩;refine⟨_,O2,m,R2,g6,λy M f ry=>?_⟩;refine⟨I,m,.bl bi,(J.mono f.same).mono (dG M O2),ry.mono (dG M O2),by show(cY 64 I m).map _=_;rw[g7];rfl,λu H4 S4 ru=>?_⟩;induction ru using mH;refine⟨bi,W,?_⟩;dsimp only;rw[if_neg dg];have N:=SO.of (R2.mono f).ls S4;exact q _ _ O2 (S1.trans (S2.trans (f.same.trans N.same))) ((R2.mono f).mono N)|_=>exact absurd rv (by intro z;cases z)⟩
end
section
variable {prog:a8}{w:World}{T:Type}[DecidableEq T]{N:xr prog w T}
def Zmh{k:T}(nd:(t==iu)=bi):MeetsIn prog w (Builtin.«dict.get» ⟨[.ref t,.ref c,v],[]⟩) (λA R s=>N.room A.in1/\N.is s.heap k c/\∃ps,s.heap.DictOfH N t ps/\R (.ok (.ret (((atKey ps k).map (·.2)).getD v))) {s with toks:=s.toks+N.draws k}):=.of_wp λA R s z=>aQ z λe f y=>ax y λps g q=>by show wpAny _ _ (dictGet t (.ref c)>>=_) _ _ s;refine υ (wpAny_dictGet_heap e f g ?_);cases d:(atKey ps k).map (·.2)with|some u=>rw[d]at q;exact χ ⟨u,W,q⟩|none=>rw[d]at q;show wpAny _ _ (Zy7 t (.ref c)>>=_) _ _ _;exact υ (wpAny_missed_other nd (χ ⟨v,W,q⟩))
end
section
variable {X:Cx}
def ZuK(K:au):V->List V->Hp->VK->Prop:=λx vs H Q=>∃a ks us b k y,x=.ref a/\vs=[.ref b,y]/\H a=Z (cj K a ks us)/\dv K (gZ H) 8 (.ref b) k/\Q ((atT ks us k).getD y) H
def ZpP(i:X.A.units+9<cLine):nz X "dict.get" (ZuK X.K):=by intro f s U H x vs v us Q I j c ⟨a,ks,ws,b,k,y,m,p,t,B,q⟩;subst m p;cases j;induction c using eL with|@cons Y _ C c=>induction c using eL with|@cons u2 _ E c=>induction c using gM;cases C;refine aQ (tr I t) λJ g2 z=>bh z λxs L g4 M g=>?_;clear z;subst L;have r:=v7 (d:=k) M;refine Rj ZxM g.typeIs PySem.F.entry_dict_get (PySem.F.args_dict_get_3 _ _ _) (Zmh (N:=kH X.prog X.w) (k:=k) J) ⟨vY i,dv.raw I 8 (.ref _) _ _ W B,xs,g,?_⟩;refine⟨_,H,I.tok _,?_,q⟩;cases h:atT (xs.map (·.1)) ws k with|some v'=>rw[h]at r;obtain⟨u,e,O⟩:=gA.some_of r;rw[e];exact O|none=>rw[h]at r;cases T:(atKey xs k).map (·.2)with|some u=>rw[T]at r;exact r.elim|none=>exact E
def tP(d e f:Zaf):Zaf:=λc=>(d c).bind λt=>(e c).bind λk=>(f c).bind λy=>match t,k with|.tab ks vs,.tup kk=>if dQ 8 (.tup kk)=be then Z ((atT ks vs (.tup kk)).getD y)else am|_,_=>am
theorem Zmi{K:au}{H:Hp}{k:D}:∀{ks:List D}{vs:List V}{ds:List D},az K H vs ds->atT ks ds k=am->atT ks vs k=am:=λ{ks vs ds} r h=>by induction ks generalizing vs ds with|nil=>unfold atT;rfl|cons j ks c=>induction r using az.casesOn with|nil=>unfold atT;rfl|cons r t=>
   unfold atT at h⊢;by_cases e:j=k;·rw[if_pos e]at h;injection h
   ·rw[if_neg e]at h⊢;exact c t h
def Zst{o:Expr}{apos cpos:Pos}(N:X.A.units+9<cLine)(O:JE X o C)(T:JE X f E)(U:JE X g I)(m:cx f=be)(p:cx g=be)(c:md o "get" X.env (eval o X.env)=eval o X.env)(e:'s'=be):JE X (.Call (.Attribute o "get" apos) [f,g] [] cpos) (tP C E I):=⟨cR (L_ ZxM PySem.F.type_dict_get (ZpP N) O.h (ed T.h (ed U.h eT (bF p)) (bF m)) c (by rw[ji (show [f,g].all cx=be by rw[cW,cW,m,p];rfl)];rfl) e (bF m) (eP (by rw[cW,p];rfl))) λσ H Q u=>ay u λx d R Y q=>by
  refine bS Y λt g1 J=>bS J λk g2 z2=>bS z2 λy g3 z3=>?_;clear J z2;split at z3;case h_2=>injection z3
  rename_i ks ds kk;refine bR z3 λht z3=>?_
  exists z3;refine⟨x,_,R,g1,λv H1 B r1=>?_⟩;cases r1 with|@tab a _ vs _ h r=>refine⟨⟨a,ks,vs,W,h⟩,x,_,R.mono B,g2,λw H2 i L=>⟨x,_,R.mono (B.trans i),g3,λz H3 j r3=>?_⟩⟩;have kt:=nS 8 (L.mono j) ht;induction L using sf with|@tup b _ _ _=>refine⟨a,ks,vs,b,.tup kk,z,W,W,j _ _ (i _ _ h),kt,q _ H3 (B.trans (i.trans j)) ?_⟩;have r':=(r.mono i).mono j;cases M:atT ks ds (.tup kk)with|some d'=>obtain⟨v',e1,e2⟩:=Dq r' M;rw[e1];exact e2|none=>rw[Zmi r' M];exact r3⟩
end
def Rep.off{K:au}{H H':Hp}{r C c:Λ}{e:List (Str×V)}(f:∀b,b≠r->H' b=H b)(g:H r=Z (.ins C c e)){v:V}(q:Rep K H v d):b9 d=be->Rep K H' v d:=q.go (P:=λd=>b9 d=be) (Q:=λds=>cf ds=be) (λ{a xs ds} _ h=>h.imp_left λh=>by
  rw[f a λz=>?_];·exact h
  ·subst z;rw[g]at h;injection h with h;injection h) (λn=>by simp[b9]at n) (λn=>by simp[b9]at n) (λn=>by simp[b9]at n) (λn=>by simp[b9]at n) (λn=>by simp[b9]at n) (λn=>by simpa [b9]using n) yD
theorem az.off{K:au}{H H':Hp}{r C c:Λ}{e:List (Str×V)}(f:∀b,b≠r->H' b=H b)(g:H r=Z (.ins C c e)){vs:List V}{ds:List D}(q:az K H vs ds):cf ds=be->az K H' vs ds:=q.go (P:=λd=>b9 d=be) (Q:=λds=>cf ds=be) (λr=>r.off f g) yD
section
variable {X:Cx}{e:Expr}{pos:Pos}
def ZpQ:PE X (.Dict [] [] pos) (λd H Q=>∀p,H p=am->Q (.ref p) (upd H p (cj X.K p [] []))):=λc s d H Q I h=>by have f:=I.laid (a:=s.heap.objs.size) (o:=cj X.K s.heap.objs.size [] []) (h':=s.heap.push {cls:=.type "dict",data:=.dict #[]}) (t':=s.toks) (λ_ _ q=>cO _ q) (a9 _) (x6 ⟨beq_eq_false_iff_ne.mpr (bW (df I.big)),dZ _,[],W,by simp,.nil,_,#[],0,eo _ W,⟨W,W,W⟩,W,W,Zxu,W⟩);exact ZwH ⟨.ref s.heap.objs.size,_,f,W,h _ (I.aV.fresh (a9 _))⟩
theorem Zmj{c:Scope}(hi:JI X T iter fL)(U:∀C d f L,JG (cw X c v N' C d f L) T gt/\JF (cw X c v N' C d f L) t fc)(j:oF c X.env=pure v)(m:∀y∈c.names,y.2≠ .cell)(r:c.kind=.function)(i:∀y∈c.names,y.2=.local->c.names.lookup y.1=Z .local)(Y:jd X.env.cells v)(x:jf v (ky c X.env).names)(B:gv X c N' cap)(hc:X.calm=be):PE X (.ListComp (.List [] w) [⟨T,iter,t,0⟩] c pos) (λσ H Q=>∃ρ g,cD X.K H σ ρ/\ez cap fL gt fc (cC (.lst [])) ρ=Z g/\∀(A:List Λ) M p,av H M->M p=am->A.Nodup->g=A.map (λ_=>.lst [])->(∀b∈A,H b=am/\M b=Z (.lst []))->Q (.ref p) (upd M p (.lst (A.map .ref)))):=by intro π s σ H Q I ⟨ρ,g,R,e,q⟩;rw[eval_ListComp];refine B9 (G:=GN H) (λ_ s=>⟨s,[],W,.nil,W,by simp⟩) (λ_ _ _ _ s u=>aM u λs0 z=>bh z λA e1 e2 e3 N=>⟨s0.trans s,A,e1,e2,e3,λb O=>⟨(N b O).1,s _ _ (N b O).2⟩⟩) hc hi.h j m r i Y x B (λC d f L=>by obtain⟨a,b⟩:=U C d f L;exact⟨a.h,b.h,Ly⟩) (qt hi.s) I R e λC Dd H' vs s9 m9 fl J sm pN rr sF hC hL hz hx hp=>aM rr λ_ z=>bh z λA e1 e2 e3 N=>?_;clear rr z;subst e1;refine⟨m9,sF,λWt E=>?_⟩;exact⟨.ref Dd,_,J.turned (t':=s9.toks) (λb o O e=>(E.2 b O).trans e) hC hL (.inr hz) hx hp,W,q A H' _ sm pN e2 e3 N⟩
end
abbrev iS:=List D×List D×List D
def D_(C:Λ)(d e f:Zag)(g:D):Option iS:=(d [Z (.obj C ["grammar"] [g]),Z g]).bind λps=>(e [Z (.obj C ["grammar","parts"] [g,.lst ps]),Z g]).bind λaR=>(f [Z (.obj C ["grammar","parts","states"] [g,.lst ps,.lst aR]),Z g]).bind λc=>if cf ps=be/\cf aR=be then Z (ps,aR,c)else am
noncomputable def wj(r C:Λ)(g:D)(z:iS):bC:=⟨r,C,g,.lst z.1,z.2.1,z.2.2,[],[]⟩
def Ml(K:au)(C:Λ)(F:D->Option iS):TS:=λd c H=>∃r e v g z,c=[Z (.ref r),Z v]/\H r=Z (.ins C e [])/\Rep K (aq H [r]) v g/\F g=Z z/\∀H' a A,av (aq H [r]) (aq H' (a::A))->n0 K H' (wj r C g z) a A->(∀b∈a::A,H b=am)->d.nx c H'
theorem Ea{o:HO}:aq (upd H r o) [r]=aq H [r]:=by
 funext b;by_cases z:b=r;·subst z;rw[c8 (.head _),c8 (.head _)]
 ·rw[bj (by rwa [aZ]),bj (by rwa [aZ]),bu z]
def zq(s:av H H'):av (aq H [r]) (aq H' [r]):=λb o e=>by obtain⟨c,d⟩:=eg e;rw[bj c];exact s _ _ d
def none_of(s:av H H')(h:H' b=am):H b=am:=by cases z:H b with|none=>rfl|some u=>rw[s _ _ z]at h;injection h
def zr(s:av (aq H [r]) (aq H' [r]))(h:H' b=am)(n:b≠r):H b=am:=by cases z:H b with|none=>rfl|some u=>exact absurd (s b u (by rw[bj (by rwa [aZ])];exact z)) (by rw[bj (by rwa [aZ]),h];intro z;injection z)
def zt{K:au}{C r p d:Λ}{H e:Hp}{fs:List (Str×V)}{f:Str}{u:HO}{N:St->Hp->Prop}(c:eO K C)(n:gh K C f)(l:fs.length<1000)(i:H r=Z (.ins C d fs))(T:av H e)(j:e p=am)(k:∀g,g r=Z (.ins C d (g8 f (.ref p) fs))->av (aq e [r]) (aq g [r])->aq g [r] p=Z u->p≠r->N [Z (.ref r),Z v] g):xN 0 [Z (.ref r),Z v] (upd e p u) λx H2=>∃a C d fs,x=.ref a/\H2 a=Z (.ins C d fs)/\eO K C/\gh K C f/\fs.length<1000/\N [Z (.ref r),Z v] (upd H2 a (.ins C d (g8 f (.ref p) fs))):=have h:=gY (T _ _ i) j
 ⟨.ref r,W,r,C,d,fs,W,dD (T _ _ i) h,c,n,l,k _ br (by rw[Ea];exact zq (dj j u)) (by rw[Ea,bj (by rw[aZ];exact bW h)];exact br) (bW h)⟩
section
variable {X:Cx}{C:Λ}{e2 e3 e4:Expr}{x1 x2:Str}{q1 q2 q3 q4 q5 q6 a1 a2 a3 a4 a5 p1 p2 p3 p4 p5 d5:Pos}{f2 f3 f4:Zag}
def Zj2(c:eO X.K C)(n1:gh X.K C "grammar")(n2:gh X.K C "parts")(n3:gh X.K C "states")(n4:gh X.K C "doings")(n5:gh X.K C "letters")(m:X.N[0]?=Z x1)(t:c6 X.env.scope x1)(w:(x1==("__debug__":Str))=bi)(x:(x1==("__classdict__":Str))=bi)(hi2:X.N[1]?=Z x2)(hv2:c6 X.env.scope x2)(hd2:(x2==("__debug__":Str))=bi)(hc2:(x2==("__classdict__":Str))=bi) (h2:JL X e2 f2) (h3:JL X e3 f3) (h4:PE X e4 (λσ H Q=>∃ρ Y,cD X.K H σ ρ/\f4 ρ=Z Y/\∀(A:List Λ) f p,av H f->f p=am->A.Nodup->Y=A.map (λ_=>.lst [])->(∀b∈A,H b=am/\f b=Z (.lst []))->Q (.ref p) (upd f p (.lst (A.map .ref))))) (s1:d4 (.Name x2 q2) (Z (.Attribute (.Name x1 q1) "grammar" a1)) p1.line X.env=pure bi) (s2:d4 e2 (Z (.Attribute (.Name x1 q3) "parts" a2)) p2.line X.env=pure bi) (s3:d4 e3 (Z (.Attribute (.Name x1 q4) "states" a3)) p3.line X.env=pure bi) (s4:d4 e4 (Z (.Attribute (.Name x1 q5) "doings" a4)) p4.line X.env=pure bi) (s5:d4 (.Dict [] [] d5) (Z (.Attribute (.Name x1 q6) "letters" a5)) p5.line X.env=pure bi):gr X [.Assign [.Attribute (.Name x1 q1) "grammar" a1] (.Name x2 q2) p1,.Assign [.Attribute (.Name x1 q3) "parts" a2] e2 p2,.Assign [.Attribute (.Name x1 q4) "states" a3] e3 p3,.Assign [.Attribute (.Name x1 q5) "doings" a4] e4 p4,.Assign [.Attribute (.Name x1 q6) "letters" a5] (.Dict [] [] d5) p5] (Ml X.K C (D_ C f2 f3 f4)):=by
 refine jJ (lE (u6 (er m t w x) (er hi2 hv2 hd2 hc2) s1) (lE (u6 (er m t w x) h2.h s2) (lE (u6 (er m t w x) h3.h s3) (lE (u6 (er m t w x) h4 s4) (qf (u6 (er m t w x) ZpQ s5)))))) λDn σ H y=>aU y λr dx v u=>cv u λg z eσ hr rg I q=>?_;subst eσ;refine bS I λps w2 I=>?_;refine bS I λaR w3 I=>?_;refine bS I λbP w4 I=>?_;by_cases hn:cf ps=be/\cf aR=be;case neg=>rw[if_neg hn]at I;injection I
 rw[if_pos hn]at I
 exists I;refine⟨v,W,.ref r,W,r,C,dx,[],W,hr,c,n1,k_ W,?_⟩;have S1:av (aq H [r]) (aq (upd H r (.ins C dx (g8 "grammar" v []))) [r]):=by rw[Ea];exact av.refl _
 have i1:upd H r (.ins C dx (g8 "grammar" v [])) r=Z (.ins C dx [("grammar",v)]):=br;generalize upd H r (.ins C dx (g8 "grammar" v []))=f at*;have env:∀{f:Hp}{ks:List Str}{ds:List D}{vs:List V},f r=Z (.ins C dx (ks.zip vs))->az X.K f vs ds->Rep X.K f v g->cD X.K f [Z (.ref r),Z v] [Z (.obj C ks ds),Z g]:=λ{f ks ds vs} a b c=>by refine⟨W,λi d h=>?_⟩;cases i with|zero=>exists (ao h);exact⟨_,W,.obj a b⟩|succ i=>cases i with|zero=>exists (ao h);exact⟨_,W,c⟩|succ i=>injection h
 have g1:Rep X.K f v g:=(rg.mono S1).mono (dG _ _);refine⟨_,ps,env (ks:=["grammar"]) (vs:=[v]) i1 (.cons g1 .nil) g1,w2,λvs H2 pA T2 f2' r2=>zt c n2 (k_ W) i1 T2 f2' λH3 i3 S2 l3 _=>?_⟩;have Eb:Rep X.K (aq H3 [r]) (.ref pA) (.lst ps):=.lst (.inl l3) ((r2.off (H':=aq H2 [r]) (r:=r) (λb hb=>bj (by rwa [aZ])) (T2 _ _ i1) hn.1).mono S2);have Mm:=S1.trans ((zq T2).trans S2);have Ec:=rg.mono Mm;have T:=dG H3 [r];refine⟨_,aR,env (ks:=["grammar","parts"]) (vs:=[v,.ref pA]) i3 (.cons (Ec.mono T) (.cons (Eb.mono T) .nil)) (Ec.mono T),w3,λdP H4 M T4 tJ r4=>zt c n3 (k_ W) i3 T4 tJ λH5 i5 S4 l5 nsA=>?_⟩;have Mn:az X.K (aq H4 [r]) dP aR:=r4.off (H':=aq H4 [r]) (r:=r) (λb hb=>bj (by rwa [aZ])) (T4 _ _ i3) hn.2;have O:av (aq H3 [r]) (aq H4 [r]):=zq T4;have rp5:=Eb.mono (O.trans S4);have Mo:=Ec.mono (O.trans S4);have T5:=dG H5 [r];refine⟨_,bP,env (ks:=["grammar","parts","states"]) (vs:=[v,.ref pA,.ref M]) i5 (.cons (Mo.mono T5) (.cons (rp5.mono T5) (.cons (.lst (.inl (T5 _ _ l5)) ((Mn.mono S4).mono T5)) .nil))) (Mo.mono T5),w4,λB H6 J T6 f6 nB eB hB=>zt c n4 (k_ W) i5 T6 f6 λH7 i7 S6 l7 zh L f7=>zt c n5 (k_ W) i7 (av.refl _) f7 λH9 i9 S7 l9 wh=>?_⟩;have U:av (aq H5 [r]) (aq H6 [r]):=zq T6;have Ed:=Mm.trans O;have Mp:=U.trans (S6.trans S7);have E:∀{b o},aq H9 [r] b=Z o->H9 b=Z o:=λh=>(eg h).2;have Ee:∀b∈B,b≠r:=λb hb z=>by have:=(hB b hb).1;rw[z,i5]at this;injection this
 have hA:∀b,b=M\/b=J\/b=L\/b∈B->b≠r/\H4 b=am:=λb hb=>by
  rcases hb with rfl|rfl|rfl|hb;·exact⟨nsA,tJ⟩
  ·exact⟨zh,zr (S4.trans U) f6 zh⟩
  ·exact⟨wh,zr (S4.trans (U.trans S6)) f7 wh⟩
  ·exact⟨Ee b hb,zr S4 (hB b hb).1 (Ee b hb)⟩
 have mem:∀b,b∈M::J::L::B↔(b=M\/b=J\/b=L\/b∈B):=λb=>by simp
 have hsB:∀{b o},aq H5 [r] b=Z o->b∉B:=λ{b o} h z=>by have:=(hB b z).1;rw[(eg h).2]at this;injection this
 have Zf_:M≠J:=gY (T6 _ _ (T5 _ _ l5)) f6;have Zg_:M≠L:=gY (dG H7 [r] _ _ (S6 _ _ (U _ _ l5))) f7;have Zh_:J≠L:=gY (dG H7 [r] _ _ l7) f7;have Zi_:J∉B:=λz=>by have:=(hB _ z).2;rw[f6]at this;injection this
 have b7:∀b∈B,aq H7 [r] b=Z (.lst []):=λb hb=>S6 _ _ (by rw[bj (by rw[aZ];exact Ee b hb)];exact(hB b hb).2);have Zj_:L∉B:=λz=>by have:=dG H7 [r] _ _ (b7 _ z);rw[f7]at this;injection this
 have sG:av (aq H4 [r]) (aq H9 (M::J::L::(B++[]))):=λb o e=>by
  rw[eS,bj λz=>?_]
  ·exact E (Mp _ _ (S4 _ _ e))
  ·have:=(hA b ((mem b).mp z)).2;rw[(eg e).2]at this;injection this
 have nr:r∉M::J::L::(B++[]):=λz=>by rw[eS]at z;exact(hA r ((mem r).mp z)).1 W
 refine q H9 M (J::L::(B++[])) (Ed.trans sG) ⟨by rw[eS];intro z;rcases a6.mp z with z|z;exact Zf_ z;rcases a6.mp z with z|z;exact Zg_ z;exact hsB l5 z,dx,J,L,B,[],v,.ref pA,dP,⟨W,?_,W,(bj nr).trans i9,(rg.mono Ed).mono sG,(Eb.mono O).mono sG,E (Mp _ _ l5),Mn.mono sG,E (S7 _ _ l7),⟨?_,λj b d e1 e2=>?_⟩,E l9,W,⟨W,λj b d e1 e2=>by injection e1⟩⟩⟩ (λb hb=>?_)
 ·rw[eS];exact d8.mpr ⟨λz=>by rcases a6.mp z with z|z;exact Zh_ z;exact Zi_ z,d8.mpr ⟨Zj_,nB⟩⟩
 ·show B.length=bP.length;rw[eB,aG]
 ·have Mq:bP[j]?=Z d:=e2;rw[eB,bJ,e1]at Mq
  exists Mq;exact⟨[],[],W,E (S7 _ _ (b7 b (cu e1))),.nil⟩
 ·rw[eS]at hb;obtain⟨h1,h2⟩:=hA b ((mem b).mp hb);exact zr Ed h2 h1
end
def wm(K:au)(C:Λ)(F:D->Option iS):Sp:=λvs H Q _=>∃r c v g z,vs=[.ref r,v]/\H r=Z (.ins C c [])/\Rep K (aq H [r]) v g/\F g=Z z/\∀H' a A,av (aq H [r]) (aq H' (a::A))->n0 K H' (wj r C g z) a A->(∀b∈a::A,H b=am)->Q .aD H'
def fnI{P:a8}{w:World}{K:au}{j:Zac}{base:Heap}{x d x1:Str}{st:Stmt}{f C:Λ}{m:dt}{k:Nat}{F:D->Option iS}(Fn:kG K x d st f m)(S:nq [x1,x2] [x1,x2] (cQ st)) (i:∀(h:ω)(A:Around)(c:List Env)(s:ψ)(H:Hp)(E:XK),bA k (A.deeper (iH d (cQ st) s.heap.objs.size f h))->gr (i_ cL P w K j base [x1,x2] d (cQ st) f h A c s H E).j6 (gP st) (Ml K C F)):cP P w K j base cL (k+1) f m [x1,x2] (wm K C F):=by refine Fn.ok S (λvs H Q E y=>aU y λr p v u=>cA u λg z e _=>by rw[e];rfl) (λh A c s H vs Q E hr y=>aU y λr p v u=>cv u λg z e q t B I=>?_);subst e;exact⟨_,i h A c s H E hr,r,p,v,g,z,W,q,t,B,λH' a J L M N=>I H' a J L M N⟩
structure Mr(P:a8)(w:World)(K:au)(mg:Zac)(base:Heap)(k:Nat)(x:Str)(C:Λ)(F:D->Option iS):Prop where ex:∃(f:Λ)(fd:dt)(ps:List Str),mg x=Z (.ref C)/\Mk K C f/\i8 K fd ps []/\cP P w K mg base cL k f fd ps (wm K C F)
section
variable {X:Cx}{C:Λ}{e:Expr}{pos p:Pos}{x:Str}{fo:Zaj}{F:D->Option iS}
noncomputable def Ms(g:D)(z:iS):List D:=[g,.lst z.1,.lst z.2.1,.lst z.2.2,.tab [] []]
def tMk(K:au)(C:Λ)(F:D->Option iS)(fo:Zaj):TE:=λd H Q=>∃c O g z,RO K H d c O/\fo c=Z g/\F g=Z z/\∀r H' a A,av H H'->(∀b∈a::A,H b=am)->iA H' (a::A)->a∉A->OX K H' (aq H' (a::A++O)) (.h r C) a A (Ms g z)->Q (.ref r) H'
def Zk_{k:Nat}(T:Mr X.prog X.w X.K X.mg X.base k x C F)(hr:bA (k+1) X.A)(hg:Gl X x)(ha:cT X e fo)(hn:cx e=be)(Dx:'f'=bi):PE X (.Call (.Name x p) [e] [] pos) (tMk X.K C F fo):=by
 refine aS T.ex λf fd ps hm M y=>aM y λc hF=>?_;intro B s σ H Q I ⟨ρ,O,g,z,R,hg',hz,q⟩;refine wpAny_Call_Name_kw (xO I hg hm ?_ Dx);refine AW (h₀:=X.base) I.ok.mod.qc M.kp (aL ((ed ha.h eT (bF hn)) pos B s σ H (λus d=>∃u,us=[u]/\SO H d O/\Rep X.K (aq d O) u g) I ⟨ρ,O,g,R,hg',λv H' S r=>⟨v,W,S,r⟩⟩) λus s1 t=>ay t λvs d I1 rv y=>aJ y λu eu S r1=>⟨I1.eN,?_⟩) (bF hn) (eP W);subst eu;have R1:=R.mono S;have hL:=R1.ls;refine aL (Uk (us:=us) (vs:=[u]) (Q:=λv H2=>∃x a A,v=.ref x/\aq d O x=am/\av (aq d O) (aq H2 (a::A))/\n0 X.K H2 (wj x C g z) a A/\(∀b∈a::A,aq d O b=am)) M hF hr c .nil r0 (Inv.hide I1 hL) rv λx E hx L ne=>?_) λv s2 t=>ay t λw H2 J rw' y=>aS y λx0 a A ew hx0 j=>aQ j λN hh fr=>?_
 ·have St:av (aq d O) (aq (upd (upd (aq d O) E (.own x)) x (.ins C E [])) [x]):=λb o e=>by have i:b≠x:=gY e hx;have h2:b≠E:=gY e L;rw[bj (by rwa [aZ]),bu i,bu h2];exact e
  refine⟨x,E,u,g,z,W,br,r1.mono St,hz,λH' a A t1 t2 t3=>⟨W,x,a,A,W,hx,St.trans t1,t2,λb c=>?_⟩⟩;have:=t3 b c;by_cases i:b=x;·rw[i];exact hx
  ·rw[bu i]at this;by_cases h2:b=E;·rw[h2];exact L
   ·rw[bu h2]at this;exact this
 ·subst ew;have U:=hh.lists;obtain⟨J',hn⟩:=Inv.yA I1 hL J λb xs e=>(eg (N _ _ e)).2;have m:∀b∈a::A,b∉O:=λb c z=>by obtain⟨u,hu,_⟩:=U b c;rw[hn b z]at hu;injection hu
  have el:aq (lay d O H2) (a::A++O)=aq H2 (a::A):=by
   funext b;by_cases c:b∈a::A;·rw[c8 c,c8 (gf _ c)]
   ·rw[bj c];by_cases hc:b∈O;·rw[c8 (dr _ hc),hn b hc]
    ·rw[bj λz=>(bU.mp z).elim c hc,dO hc]
  refine aM hh λD3 y=>aU y λD4 D5 D6 j=>aU j λB' L' D7 l=>gO l λD8 Y pk=>⟨_,_,J',rw',q x0 _ a A (λb o e=>?_) (λb c=>?_) (λb c=>?_) D3 ⟨D4,D5,D6,B',L',D7,D8,g,.lst z.1,z.2.1,z.2.2,[],[],Y,pk.mono (λb c=>dO (m b c)) (by rw[el];exact av.refl _)⟩⟩
  ·by_cases c:b∈O
   ·rw[gC c,S.own b c];exact e
   ·rw[dO c];exact(eg (N _ _ (S.same _ _ (by rw[bj c];exact e)))).2
  ·have i:=fr b c;cases z:H b with|none=>rfl|some u=>rw[S.same _ _ (show aq H O b=Z u by rw[bj (m b c)];exact z)]at i;injection i
  ·rw[dO (m b c)];exact U b c
open Classical in
noncomputable def wo(h:Λ->Option aK):Option aK:=if e:∃d,∀r,h r=Z (.ret d)then Z (.ret e.choose)else am
def Zj3{h:Λ->Option aK}{o:aK}(e:wo h=Z o):∃d,o=.ret d/\∀r,h r=Z (.ret d):=by
 unfold wo at e;split at e;case isFalse=>injection e
 rename_i q
 exists e;exact⟨_,W,q.choose_spec⟩
def Zj4{h:Λ->Option aK}(e:∀r,h r=Z (.ret d)):wo h=Z (.ret d):=by unfold wo;have q:∃d,∀r,h r=Z (.ret d):=⟨d,e⟩;rw[dif_pos q];have:=q.choose_spec 0;rw[e 0]at this;exact this.symm
def qP(i:Nat)(C:Λ)(F:D->Option iS)(fo:Zaj)(u:Zal):Zal:=λc=>(fo c).bind λg=>(F g).bind λz=>if c.all lW=be then wo λr=>u (c.set i (Z (wj r C g z).sd))else am
def ZpS{k:Nat}{c:Pos}{rest:List Stmt}(i:Nat)(T:Mr X.prog X.w X.K X.mg X.base k x C F)(hr:bA (k+1) X.A)(B:cT X e fo)(f:KB X rest u)(E:X.N.Nodup)(I:X.N[i]?=Z y)(J:Loc X.env.scope y)(L:Gl X x)(hn:cx e=be)(m:'f'=bi)(hs:d4 (.Call (.Name x p) [e] [] pos) (Z (.Name y pos')) c.line X.env=pure bi)(M:X.fn y=be\/X.env.scope.names.lookup y=Z .local):KB X (.Assign [.Name y pos'] (.Call (.Name x p) [e] [] pos) c::rest) (qP i C F fo u):=⟨jJ (lE (lF E I J (Zk_ T hr L B hn m) hs M) f.h) λDn σ H t=>aS t λQ O o R j q=>by refine bS j λg U j=>bS j λz Y j=>bR j λhz j=>?_;obtain⟨d,rfl,hd⟩:=Zj3 j;refine⟨Q,O,g,z,R,U,Y,λr H' a A s1 s2 s3 s4 s5=>?_⟩;obtain⟨R',S'⟩:=R.newX (A:=A) (κ:=.h r C) (ds:=Ms g z) i s1 s2 s3 s4 (λ_=>s5) hz;exact⟨_,_,_,R',hd r,λv H2 s r'=>q v H2 (S'.trans s) r'⟩⟩
end
section
variable {prog:a8}{w:World}{A:Around}{E:Zab}{s:ψ}{it d v:Λ}{i ep:Nat}{es:Array DictEntry}{od:Obj}
def ZpT(e:s.heap.IsValuesView v d)(h:s.heap.get? d=Z od)(c:od.data=.dict es ep)(j:Q (.ref s.heap.objs.size) {s with heap:=s.heap.push {cls:=.type "dict_valueiterator",data:=.fields #[.ref d,.int 0 0,.int es.size 0,.int ep 0]}}):wpAny 'j' A (w9 (.ref v)) Q E s:=by refine aJ (id e) λp f m g=>wpAny_pyIter_slot (ZxN e) ZxO (mj ZxO (ZxN e) F.entry_dict_values_iter ?_ (F.args_dict_values_iter_1 _));refine υ (χ (υ ?_));refine υ (rA f g W (χ (υ ?_)));refine υ (GX h c (υ (Ro h c ?_)));refine wpAny_newObj_type (χ ⟨_,W,"dict_valueiterator",.builtin "dict_valueiterator.__next__",⟨_,eo _ W,W⟩,W,j⟩) (show 4<=aA+2 by exact gW ..)
def ZpU{Q:Option ω->ψ->Prop}{e:DictEntry}(c:s.heap.IsValIter it d i es.size ep)(g:s.heap.get? d=Z od)(h:od.data=.dict es ep)(r:es[i]?=Z e)(t:∀h':Heap,h'.IsValIter it d (i+1) es.size ep->lj it s.heap h'->Q (Z e.val) {s with heap:=h'}):wpAny 'j' A (pyNext (.ref it)) Q E s:=by
 refine aJ (id c) λo m u p=>υ (wpAny_attempt (uC (nc c) GY (mj GY (nc c) ZxP ?_ (ZxQ _))));refine υ (χ (υ (υ (υ (GZ (nc c) (χ (υ (wpAny_fieldsOf m p ?_))))))));have j:ZxR "dict_valueiterator"=bi:=by exact W
 simp only[j,lC,if_false];show wpAny _ _ (if(cN d==eJ)=be then _ else(ZxS (.ref d)>>=_)) _ _ s;rw[if_neg (show¬(cN d==eJ)=be from dg)];refine υ (χ (υ (GX g h ?_)));rw[if_neg 'o'];refine υ (χ (υ (Ro g h ?_)));rw[if_neg 'o'];refine χ ?_;show wpAny _ _ (match (if(i:Int)<0 then am else es[(i:Int).toNat]?)with|some e=>_|none=>_) _ _ s;rw[if_neg 'o',mn,r];refine υ (υ (GZ (nc c) (χ (υ (Rp (nc c) ?_)))));refine υ (GK m p (show 1<4 by decide) ?_);have f:(s.heap.update it (ZxT λx=>x.setIfInBounds 1 (w_ (i+1)))).IsValIter it d (i+1) es.size ep:=by obtain⟨B,y,z,os⟩:=o;have q:z=_:=p;subst q;exact⟨_,A2 _ m W,u,W⟩
 refine υ (wpAny_holding ?_);show wpAny _ _ _ _ _ {s with heap:=s.heap.update it (ZxT λx=>x.setIfInBounds 1 (w_ (i+1)))};refine υ (Rp (nc f) (υ (Rp (nc f) ?_)));exact χ (χ ⟨_,W,χ (t _ f (oG ..))⟩)
def Zsw{Q:Option ω->ψ->Prop}(p:A.handled=am)(c:s.heap.IsValIter it d i es.size ep)(f:s.heap.get? d=Z od)(g:od.data=.dict es ep)(q:es[i]?=am)(r:∀h':Heap,Zxa it s.heap h'->Q am {s with heap:=h'}):wpAny 'j' A (pyNext (.ref it)) Q E s:=by
 refine aJ (id c) λo j t m=>υ (wpAny_attempt (uC (nc c) GY (mj GY (nc c) ZxP ?_ (ZxQ _))));refine υ (χ (υ (υ (υ (GZ (nc c) (χ (υ (wpAny_fieldsOf j m ?_))))))));have h:ZxR "dict_valueiterator"=bi:=by exact W
 simp only[h,lC,if_false];show wpAny _ _ (if(cN d==eJ)=be then _ else(ZxS (.ref d)>>=_)) _ _ s;rw[if_neg (show¬(cN d==eJ)=be from dg)];refine υ (χ (υ (GX f g ?_)));rw[if_neg 'o'];refine υ (χ (υ (Ro f g ?_)));rw[if_neg 'o'];refine χ ?_;show wpAny _ _ (match (if(i:Int)<0 then am else es[(i:Int).toNat]?)with|some e=>_|none=>_) _ _ s;rw[if_neg 'c',mn,q];refine υ (υ (GZ (nc c) (χ ?_)));refine υ (GK j m (show 0<4 by exact mq _) (υ (υ (wpAny_newObj_type (υ (wpAny_of_eq W (wpAny_newObj_type ?_ (show 6<=aA+2 by exact gW ..)))) (dZ _)))));refine wpAny_raiseNew_none (show A.in1.handled=am from p)<|υ (wpAny_isInstance (show Zxx _ (.ref _) "StopIteration" from⟨_,eo _ W,W⟩) isSubtype_stop ?_);refine χ (r _ ?_);exact ZxU (ZxU (Zy8 (oG ..)) _) _
end
section
variable {prog:a8}{w:World}{T:Type}[DecidableEq T]{N:xr prog w T}
def Zmk(nd:(t==iu)=bi):MeetsIn prog w (Builtin.«dict.values» ⟨[.ref t],[]⟩) (λ_ R s=>(∃ps,s.heap.DictOfH N t ps)/\R (.ok (.ret (.ref s.heap.objs.size))) {s with heap:=s.heap.push {cls:=.type "dict_values",data:=.fields #[.ref t]}}):=.of_wp<|by rintro A R s ⟨⟨ps,c⟩,h⟩;refine υ (υ (Ra c.typeIs (χ ?_)));unfold Zy9;rw[nd,if_neg dg];exact υ (χ<|υ<|wpAny_newObj_type (χ ⟨_,W,h⟩) (show 1<=aA+2 by exact gW ..))
end
noncomputable def Itv(K:au)(a:Λ)(ks:List D)(vs:List V):It:=⟨λi H=>H a=Z (cj K a ks vs)/\∃x,vs[i]?=Z x,λi H x H'=>H'=H/\vs[i]?=Z x,λi H=>H a=Z (cj K a ks vs)/\vs.length<=i⟩
def Zj5{P:a8}{w:World}{K:au}{tg:Expr}(a g:Λ)(ks:List D)(vs:List V):Turn P w K tg (Itv K a ks vs) [g] g (λi h=>h.IsValIter g a i ks.length ks.length) where
 mem:=by exact .head _
 obj:=λi h st b f=>by obtain rfl:=aZ.mp f;refine aJ st λo e c d=>?_;clear st;exact⟨o,e,λv z=>by rw[d]at z;injection z⟩
 keep:=λi h h' st k=>st.at λo e=>k g (by exact .head _) o e
 item:=by
  intro X B hw C hc i j s σ H E I r st ⟨q,x,J⟩;subst B hw C;refine aQ (tq I q) λ_ _ t=>bh t λxs L _ M p=>cv p λo es N g2 O A _=>?_;clear t p;subst L;refine ax (M.get J) λu hu ru=>iy (r g (by exact .head _)) λQ T f2 U Y f5=>?_;have hz:es.size=xs.length:=by rw[<-oE,A,aG]
  rw[aG,<-hz]at st;rw[bJ]at hu;refine ax (bQ.mp hu) λy hy rf2=>?_;subst rf2;have he:es[i]?=Z (AN (kH X.prog X.w) y):=by rw[<-uD,A,bJ,hy];rfl
  refine ZpU st N (hz▸O) he λh' m sb=>⟨_,W,letGo_valiter (s':={s with heap:=h'}) m ⟨x,H,I.turned (t':=s.toks) (λb o f e=>(sb.2 b f).trans e) Q T U Y f5,ru,⟨W,J⟩,?_,λb f=>(r b f).1⟩⟩;rw[aG,<-hz];exact m
 done:=by
  intro X B hw C hc i j s σ H E I r st ⟨q,J⟩;subst B hw C;refine aQ (tq I q) λ_ _ t=>bh t λxs L _ M p=>cv p λo es N g2 O A _=>?_;clear t p;subst L;refine iy (r g (by exact .head _)) λQ T f2 U Y f5=>?_;have hz:es.size=xs.length:=by rw[<-oE,A,aG]
  rw[aG,<-hz]at st;have hl:=M.length;rw[aG]at hl;exact Zsw (I.ok.hd hc) st N (hz▸O) (Array.getElem?_eq_none 'c') λh' eb=>⟨W,I.turned (t':=s.toks) (λb o f e=>eb b o f e) Q T U Y f5⟩
 self:=λ_ _ _ _ _ st h=>wpAny_pyIter_valiter st h
section
variable {X:Cx}{o:Expr}{apos cpos:Pos}{f:Zaf}
noncomputable def ZuL:D->Option (List D)|.tab _ ds=>Z ds|_=>am
def Ef(f:Zaf):Zag:=λc=>(f c).bind ZuL
def Zsx(Y:JE X o f)(t:DY o=be)(c:'s'=be):JI X U (.Call (.Attribute o "values" apos) [] [] cpos) (Ef f):=⟨by intro g s σ H R I ⟨ρ,ds,Rn,p,q⟩;refine bS p λd h1 p=>wpAny_Call_method (T:="dict") (id:="dict.values") (Md t) W c Rk ZxV PySem.F.type_dict_values (aL (Y.h g s σ H (λv j=>av H j/\Rep X.K j v d) I ⟨ρ,d,Rn,h1,λv H' s r=>⟨s,r⟩⟩) λu A z=>bV z λv j M r1 S1 rr=>?_);induction rr using gp with
 |@tab a ks vs Yo h r=>
  exists p;cases r1;refine aQ (tq M h) λB _ y=>bh y λxs C _ rv E=>?_;clear y;subst C;have m:=E.of;refine⟨m.typeIs,λb eb=>?_,?_⟩;·cases eb;refine aS m λob _ _ B g2 _=>?_;clear m;exact⟨ob,B,g2.2.1⟩
  refine method_meetsIn ZxV PySem.F.entry_dict_values W (Zwt ⟨W,m.typeIs,PySem.F.args_dict_values_1 _,_,Zmk (N:=kH X.prog X.w) B,⟨xs,m⟩,?_⟩);refine cv E λob es k1 k2 k3 k4 _=>?_;clear E;have hz:es.size=xs.length:=by rw[<-oE,k4,aG]
  have J:=M.kept (t':=A.toks) (h':=A.heap.push {cls:=.type "dict_values",data:=.fields #[.ref a]}) λb o e=>cO _ e;refine ZpT (d:=a) (od:=ob) (es:=es) (ep:=xs.length) ⟨_,eo _ W,W,W⟩ (cO _ k1) k3 ?_;refine⟨_,[_],_,_,j,W,J.kept (t':=A.toks) λb o e=>cO _ e,Zj5 a _ (xs.map (·.1)) vs,⟨_,eo _ W,W,by rw[aG,hz];rfl⟩,λb t=>?_,q _ j S1 λH' s'=>⟨λi d hd=>?_,s' _ _ h,by rw[r.length];exact a9 _⟩⟩;·cases aZ.mp t;exact J.qh (a9 _) (J.aV.fresh (a9 _))
  ·refine ax (r.get hd) λv O L=>⟨⟨s' _ _ h,v,O⟩,λx H'' z=>aM z λC Q=>?_⟩;subst C;rw[O]at Q
   exists Q;exact⟨av.refl _,L.mono s'⟩|_=>injection p,W⟩
end
section
variable {X:Cx}
def Mt:Zad:=k1 λd=>match d with|.lst xs=>(nN xs).map λbs=>.bl (bs.any id)|_=>am
theorem Ze7(bs:List Bool):(gd bs.length).any (λi=>bs.getD i bi)=bs.any id:=by induction bs with|nil=>rfl|cons b r c=>rw[bz,QS,jE,List.any_map,jE,<-c];rfl
def ZuM(w:X.calm=be):JC X (.builtin "any") Mt:=⟨sv λ{g}{s}{T}{H}{x}{u}{Q}{U}{d} I B r e q=>by have C:X.A.in1.handled=am:=I.ok.hd w;induction r using gp with
 |@lst a vs ds h j=>
  cases B;have m:(nN ds).map (λbs=>D.bl (bs.any id))=Z d:=e;rw[bQ]at m;obtain⟨bs,E,rfl⟩:=m;rw[Cu E]at j;obtain⟨J,L,p⟩:=Inv.oU I h;have M:=Cv j L;subst M;obtain⟨Y,f,_⟩:=id p;refine call_any_walk (Qn p ?_);refine⟨s.heap.objs.size,_,_,_,_,_,λi=>bs.getD i bi,W,Zxc C s.heap.objs.size a (df (b6 f)) (bs.map lh).toArray,⟨⟨_,eo _ W,W,W⟩,p.at λo e=>cO _ e⟩,?_,?_⟩
  ·intro i v s' Q' E' N y;have c:(bs.map lh)[i]?=Z v:=by simpa using N
   rw[bJ]at c;cases z:bs[i]? with
   |none=>rw[z]at c;injection c|some b=>
    rw[z]at c
    exists c;refine wpAny_truthy_bool ?_;have:bs.getD i bi=b:=by rw[pY,z];rfl
    rw[<-this];exact y
  ·intro h' tk O;refine⟨.bl _,H,I.kept (t':=tk) λb o t=>O b o (by simpa using df (b6 t)) (cO _ t),W,?_⟩;have hz:(bs.map lh).toArray.size=bs.length:=by exact aG ..
   rw[hz,Ze7];exact q _ H 'v' (.bl _)
 |_=>injection e⟩
end
def bC.obj(s:bC):D:=.obj s.C iB [s.g,s.p,.lst s.aR,.lst s.bP,.tab s.ks s.cE]
noncomputable def Eg(r:Λ):D->Option bC|.obj C _ [g,p,.lst aR,.lst c,.tab ks d]=>Z ⟨r,C,g,p,aR,c,ks,d⟩|_=>am
abbrev HF:=List D->bC->Option (D×bC)
def qQ(run:HF)(ds:List D)(o:D)(d c:D):Prop:=(∃s:bC,s.obj=o)/\∀s:bC,s.obj=o->∃s',run ds s=Z (d,s')/\s'.r=s.r/\s'.obj=c
open Classical in
noncomputable def kX(run:HF):Zad|o::ds=>if h:∃x:D×D,qQ run ds o x.1 x.2 then Z (.tup [h.choose.1,h.choose.2])else am|[]=>am
theorem Mu{run:HF}{o:D}{ds:List D}(q:∃x:D×D,qQ run ds o x.1 x.2):kX run (o::ds)=Z (.tup [q.choose.1,q.choose.2]):=dif_pos q
theorem Zml{run:HF}{o:D}{ds:List D}(q:¬ ∃x:D×D,qQ run ds o x.1 x.2):kX run (o::ds)=am:=dif_neg q
def gT(F:Zad):HF:=λds s=>match F (s.obj::ds)with|some (.tup [d,o])=>(Eg s.r o).map λs'=>(d,s')|_=>am
def Zmm{run:HF}{ds:List D}{s:bC}{x:D×bC}(h:gT (kX run) ds s=Z x):run ds s=Z x/\x.2.r=s.r:=by
 unfold gT at h;by_cases q:∃x:D×D,qQ run ds s.obj x.1 x.2
 ·rw[Mu q]at h;refine aJ (q.choose_spec.2 s W) λs' d c f=>?_;have h':(Eg s.r q.choose.2).map (λt=>(q.choose.1,t))=Z x:=h;rw[<-f]at h';have e:Eg s.r s'.obj=Z s':=by rw[<-c];rfl
  rw[e]at h'
  exists h';exact⟨d,c⟩
 ·rw[Zml q]at h;injection h
def ZpX{run:HF}{ds:List D}{o d:D}(t:qQ run ds o d e):kX run (o::ds)=Z (.tup [d,e]):=by have q:∃x:D×D,qQ run ds o x.1 x.2:=⟨(d,e),t⟩;rw[Mu q];obtain⟨⟨s,hs⟩,t⟩:=t;refine aJ (q.choose_spec.2 s hs) λm f _ g=>aJ (t s hs) λp c _ h=>?_;rw[f]at c;injection c with c;injection c with i j;subst j;rw[i,<-g,h]
def ZpY{K:au}{run:HF}{vs:List V}{H:Hp}{Q:VK}{E:XK}(h:pj K (gT (kX run)) vs H Q E):pj K run vs H Q E:=by exact aU h λus ds s y=>aU y λd s' a u=>bh u λA c e f z=>aM z λg i=>⟨us,ds,s,d,s',a,A,c,e,f,(Zmm g).1,i⟩
noncomputable def wq(F:D->Option iS):Zad|[g]=>(F g).map λz=>.tup [.lst z.1,.lst z.2.1,.lst z.2.2]|_=>am
noncomputable def mU(F:Zad):D->Option iS:=λg=>match F [g]with|some (.tup [.lst a,.lst b,.lst c])=>Z (a,b,c)|_=>am
theorem Mv{F:D->Option iS}:mU (wq F)=F:=by funext g;unfold mU;rw[show wq F [g]=(F g).map (λz=>.tup [.lst z.1,.lst z.2.1,.lst z.2.2]) from W];cases F g<;>rfl
section
variable {X:Cx}{e:Expr}{pos:Pos}{f:Zaf}
noncomputable def Mw:Zai:=λ_=>am
theorem Zl_{st:Stmt}:JS X st Mw:=⟨λc s d g H I h=>by refine ay h λ_ _ _ e _=>?_;injection e⟩
noncomputable def qR(f:Zaf):Zai:=λc=>(f c).bind λ_=>Z (.aF c)
def Zsy(h:JE X e f)(hs:d4 e am pos.line X.env=pure bi):JS X (.Expr e pos) (qR f):=⟨cM (mz h.h hs) λm g H z=>ay z λi o R c q=>by
  refine bS c λd j c=>?_
  exists c;exact⟨i,d,R,j,λv H' s _=>q g H' s (R.mono s)⟩⟩
end
end DL
namespace PT
open PySem L2 DL
inductive Fn where|fa|fb|fc|fd|fe|ff|fg|fh|fi|fj|fk|fm|fo|fp|fq|fr|ft|fu|fv|fw|fx|fy|fA|fB|fC|fD|fE|fF|fG|fH|fI|fJ|fK|fL|fM|fN|fO|fP|fQ|fR|fS|fT|fU|fV|fW|fX|fY|fZ|ga|gb
noncomputable def Fn.nm:Fn->Str|.fa=>"is_whole_from"|.fb=>"is_tuple_of"|.fc=>"is_value"|.fd=>"are_values"|.fe=>"first_value"|.ff=>"choices_at"|.fg=>"is_turn"|.fh=>"role_at"|.fi=>"kinds_at"|.fj=>"are_even"|.fk=>"ahead_of_turns"|.fm=>"reason"|.fo=>"fault_of"|.fp=>"steps_from"|.fq=>"common_steps"|.fr=>"way_back"|.ft=>"apart_from"|.fu=>"leads_of"|.fv=>"part_of"|.fw=>"state_of"|.fx=>"is_fair"|.fy=>"choice_of"|.fA=>"__init__"|.fB=>"say"|.fC=>"hear"|.fD=>"under_way"|.fE=>"done"|.fF=>"is_over"|.fG=>"look_for"|.fH=>"state_now"|.fI=>"has_mail"|.fJ=>"_law_cell"|.fK=>"_law_mix"|.fL=>"_law_word"|.fM=>"_law_kind"|.fN=>"_law_said"|.fO=>"_law_is_late"|.fP=>"_law_size"|.fQ=>"_law_told_late"|.fR=>"_law_told_on"|.fS=>"_law_apart_two"|.fT=>"_law_grammar"|.fU=>"_law_made"|.fV=>"_law_value"|.fW=>"_law_fits"|.fX=>"_law_spoilt"|.fY=>"_law_step"|.fZ=>"_law_done"|.ga=>"law"|.gb=>"Hall"
abbrev cH:Λ:=273
noncomputable def jR:D:=.tup [(.str "end")]
noncomputable abbrev TB:=Fn->Zad
variable (Φ:TB)
def Mx(_:TB):=a_ (gu (nM .int (aa 0)) (gu (B0 (nM .bool (aa 0))) (mI jK jK (aa 1) (aa 0) (aa 2))))
def My(_:TB):=a_ (gu (nM .tuple (aa 0)) (mI jK jK (aa 1) (aw cS (ag [aa 0])) (aa 2)))
def Eh:=a7 (et 2 (ab ar (aa 0) 'h')) (a7 (bD (cB (ab (bg 64) (aa 2) (cC (.str "none")))) (a_ (ab lN (aa 1) (cC .aD))) (b5)) (a7 (bD (cB (ab (bg 64) (aa 2) (cC (.str "number")))) (a_ (aw (Φ .fa) (ag [aa 1,ab ar (aa 0) 'a',ab ar (aa 0) 'l']))) (b5)) (a7 (bD (cB (ab (bg 64) (aa 2) (cC (.str "name")))) (a_ (ab vA (aa 1) (ab ar (aa 0) 'a'))) (b5)) (a7 (bD (cB (ab (bg 64) (aa 2) (cC (.str "pair")))) (a_ (gu (aw (Φ .fb) (ag [aa 1,cC (.int 2),cC (.int 2)])) (gu (aw (Φ .fc) (ag [ab ar (aa 0) 'a',ab ar (aa 1) 'h'])) (aw (Φ .fc) (ag [ab ar (aa 0) 'l',ab ar (aa 1) 'a']))))) (b5)) (a_ (gu (aw (Φ .fb) (ag [aa 1,cC (.int 0),ab ar (aa 0) 'l'])) (aw (Φ .fd) (ag [ab ar (aa 0) 'a',aa 1]))))))))
def Mz:=a7 (vJ (dN (aa 1)) (gN 2) (bD (g_ (cB (aw (Φ .fc) (ag [aa 0,aa 2])))) (a_ (cC (.bl bi))) (b5))) (a_ (cC (.bl be)))
def Ei:=a7 (et 1 (ab ar (aa 0) 'h')) (a7 (bD (cB (ab (bg 64) (aa 1) (cC (.str "none")))) (a_ (cC .aD)) (b5)) (a7 (bD (cB (ab (bg 64) (aa 1) (cC (.str "number")))) (a_ (ab ar (aa 0) 'a')) (b5)) (a7 (bD (cB (ab (bg 64) (aa 1) (cC (.str "name")))) (a_ (ab ar (ab ar (aa 0) 'a') 'h')) (b5)) (a7 (bD (cB (ab (bg 64) (aa 1) (cC (.str "pair")))) (a_ (aH (ag [aw (Φ .fe) (ag [ab ar (aa 0) 'a']),aw (Φ .fe) (ag [ab ar (aa 0) 'l'])]))) (b5)) (a_ (aH (ag [])))))))
def Ej(_:TB):=a7 (bD (cB (ab (bg 64) (aa 0) (cC jR))) (a_ (aH (ag []))) (b5)) (a_ (ab ar (aa 0) 'z'))
def MA(_:TB):=a_ (gu (ab (eU 64) (aa 0) (cC jR)) (qo (ab (bg 64) (ab ar (aa 0) 'a') (aa 1)) (ab (bg 64) (ab ar (aa 0) 'l') (aa 1))))
def MB(_:TB):=a7 (bD (cB (ab (bg 64) (ab ar (aa 0) 'a') (aa 1))) (a_ (aH (ag [cC (.str "says"),ab ar (aa 0) 'l']))) (b5)) (a_ (aH (ag [cC (.str "hears"),ab ar (aa 0) 'a'])))
def Ek(_:TB):=aI (tp 1 qE) (aI (eX (dN (ab ar (aa 0) 'z')) (ic 3 (cG (goN 2) (cG (goN 3) (cG (goN 4) (ib))))) (pd 1 (vH (aa 2)) (vH (aa 3)))) (yR 1 (eW (aa 1))))
def zu:=a7 (bD (cB (ab (eU 64) (aw (Φ .fh) (ag [aa 0,aa 2])) (aw (Φ .fh) (ag [aa 1,aa 2])))) (a_ (cC (.bl bi))) (b5)) (a7 (et 3 (aw (Φ .fi) (ag [aa 0]))) (a7 (et 4 (aw (Φ .fi) (ag [aa 1]))) (a7 (bD (cB (ab (bg 64) (ab ar (aa 0) 'a') (aa 2))) (a_ (ab (v5 64) (aa 3) (aa 4))) (b5)) (a_ (aw nO (ag [d2 [am,Z 3,Z 4] (yP (aa 3)) (gN 0) (cB (ab iQ (aa 0) (aa 2))) (ab (bg 64) (ab iP (aa 1) (aa 0)) (ab iP (aa 2) (aa 0)))]))))))
def El:=aI (tE 2 (ez [am] (dN (aa 0)) (gN 0) (λ_=>Z be) (cC (.lst [])))) (aI (eX (sN (aa 0)) (ic 2 (cG (goN 3) (cG (goN 4) (ib)))) (eX (dN (aw (Φ .ff) (ag [aa 4]))) (goN 5) (yX 2 (vH (ab ar (aa 5) 'l')) (vH (aa 3))))) (aI (tp 6 qE) (aI (eE 7 (lZ (ez [am,Z 1,Z 0] (dm (ag [aw cS (ag [aa 0])])) (gN 0) (cB (aw (Φ .fg) (ag [ab ar (aa 2) (aa 0),aa 1]))) (aa 0)))) (aI (ig (cB (ab iL (aw cS (ag [aa 7])) 'h')) (aI (vX 7 3) (vU (yQ (cB (ab mN (aa 3) (aa 6)))) (aI (pd 6 (vH (aa 3)) (vH (cC (.bl be)))) (yY 7 (ab ar (aa 2) (aa 3)))) (cZ))) 99999) (yR 6 (eW (aa 6)))))))
def En:=aI (bE 2 (vH (ab ar (aa 0) 'a'))) (aI (bE 3 (vH (aw (Φ .fk) (ag [aa 2,aa 1])))) (aI (yW 4 (aH (ag [cC (.int 0),cC (.int 0)])) (cC .aD)) (aI (eE 5 (lH (ag [aH (ag [cC (.int 0),cC (.int 0)])]))) (aI (bE 6 (vH 'h')) (aI (ig (cB (ab j9 (aa 6) (aw cS (ag [aa 5])))) (aI (bE 7 (vZ (ab ar (aa 5) (aa 6)))) (aI (bE 8 (vH (aw (Φ .fo) (ag [aa 2,aa 1,aa 3,aa 7])))) (aI (cK (cB (ab vv (aa 8) (cC .aD))) (eW (aH (ag [aa 8,aw (Φ .fr) (ag [aa 4,aa 7,cC (.int 0)]),aw (Φ .fr) (ag [aa 4,aa 7,cC (.int 1)])]))) (cZ)) (aI (eX (dN (aw (Φ .fp) (ag [aa 2,aa 1,aa 3,aa 7]))) (ic 2 (cG (goN 9) (cG (goN 10) (ib)))) (cK (cB (ab tw (aa 9) (aa 4))) (aI (v8 4 (vH (aa 9)) (vH (aH (ag [aa 7,aa 10])))) (gw 5 (vH (aa 9)))) (cZ))) (yO 6 (vH 'a')))))) 99999) (eW (cC .aD)))))))
def zw:=a7 (et 4 (ab ar (aa 0) (ab ar (aa 3) 'h'))) (a7 (et 5 (ab ar (aa 0) (ab ar (aa 3) 'a'))) (a7 (bD (g_ (cB (aw (Φ .fg) (ag [aa 5,aa 1])))) (a_ (cC .aD)) (b5)) (a7 (bD (cB (ab mN (ab ar (aa 3) 'h') (aa 2))) (a_ (cC (.str "never"))) (b5)) (a7 (bD (iI (cB (aw (Φ .fg) (ag [aa 4,aa 1]))) (g_ (cB (aw (Φ .fj) (ag [aa 4,aa 5,aa 1]))))) (a_ (cC (.str "unlike"))) (b5)) (a_ (cC .aD))))))
def zx:=a7 (et 4 (ab ar (aa 0) (ab ar (aa 3) 'h'))) (a7 (et 5 (ab ar (aa 0) (ab ar (aa 3) 'a'))) (a7 (bD (cB (ab mN (ab ar (aa 3) 'a') (aa 2))) (a_ (jc (ag []))) (b5)) (a7 (bD (iI (cB (ab iQ (ab ar (aa 3) 'h') (aa 2))) (g_ (cB (aw (Φ .fg) (ag [aa 4,aa 1]))))) (a_ (d2 [am,am,am,Z 3] (dN (ab ar (aa 4) 'z')) (lQ 3 (dF (gN 0) (dF (gN 1) (dF (gN 2) (lP))))) (λ_=>Z be) (aH (ag [aH (ag [aa 2,ab ar (aa 3) 'a']),aH (ag [aH (ag [aa 0,aa 1]),cC .aD])])))) (b5)) (a7 (bD (g_ (cB (aw (Φ .fg) (ag [aa 5,aa 1])))) (a_ (d2 [am,am,am,Z 3] (dN (ab ar (aa 5) 'z')) (lQ 3 (dF (gN 0) (dF (gN 1) (dF (gN 2) (lP))))) (λ_=>Z be) (aH (ag [aH (ag [ab ar (aa 3) 'h',aa 2]),aH (ag [cC .aD,aH (ag [aa 0,aa 1])])])))) (b5)) (a_ (aw (Φ .fq) (ag [aa 4,aa 5])))))))
def Eo(_:TB):=aI (tp 2 qE) (aI (eX (dN (ab ar (aa 1) 'z')) (ic 3 (cG (goN 3) (cG (goN 4) (cG (goN 5) (ib))))) (pd 2 (vH (aa 3)) (vH (aa 5)))) (vV (vD (d2 [am,am,am,Z 2] (dN (ab ar (aa 0) 'z')) (lQ 3 (dF (gN 0) (dF (gN 1) (dF (gN 2) (lP))))) (cB (ab iQ (aa 0) (aa 3))) (aH (ag [aH (ag [aa 2,ab iP (aa 3) (aa 0)]),aH (ag [aH (ag [aa 0,aa 1]),aH (ag [aa 0,aa 1])])]))))))
def Er:=aI (eE 3 (lH (ag []))) (aI (ig (cB (ab vv (ab mO (aa 0) (aa 1)) (cC .aD))) (aI (bE 4 (vH (ab ar (ab ar (ab mO (aa 0) (aa 1)) 'a') (aa 2)))) (aI (cK (cB (ab vv (aa 4) (cC .aD))) (gw 3 (vH (aH (ag [ab ar (aa 4) 'h',aw (Φ .fe) (ag [ab ar (aa 4) 'a'])])))) (cZ)) (bE 1 (vH (ab ar (ab mO (aa 0) (aa 1)) 'h'))))) 99999) (eW (y0 (aa 3))))
def Es:=aI (tp 3 qE) (aI (eE 4 (lH (Kl (aa 2)))) (aI (ig (cB (ab iL (aw cS (ag [aa 4])) 'h')) (aI (vX 4 5) (vU (yQ (cB (ab mN (aa 5) (aa 3)))) (aI (pd 3 (vH (aa 5)) (vH (cC (.bl be)))) (cK (g_ (cB (aw (Φ .fg) (ag [ab ar (aa 0) (aa 5),aa 1])))) (yJ 4 (lH (ez [am] (dN (aw (Φ .ff) (ag [ab ar (aa 0) (aa 5)]))) (gN 0) (λ_=>Z be) (ab ar (aa 0) 'l')))) (cZ))) (cZ))) 99999) (vV (vD (aw kb (ag [aw nZ (ag [aa 3])]))))))
def Et(_:TB):=aI (DJ 1) (aI (eX (dN (aa 0)) (goN 2) (eX (dN (ab ar (aa 2) 'z')) (ic 3 (cG (goN 3) (cG (goN 4) (cG (goN 5) (ib))))) (wc 1 6 3 4 5))) (DK 1))
def zy:=aI (cK (cB (ab vv (aw (Φ .fm) (ag [aa 0,aa 1])) (cC .aD))) (sV) (cZ)) (aI (bE 2 (vH (ab ar (aa 0) 'a'))) (aI (eE 3 (lH (ag [aw (Φ .ft) (ag [aa 2,aa 1,jc (ag [cC (.int 0)])])]))) (aI (za 4 (vZ (ab ar (aa 3) 'h')) 0) (aI (eE 5 (lH (ag []))) (aI (ig (cB (ab j9 (aw cS (ag [aa 5])) (aw cS (ag [aa 3])))) (LN 5 [3,4] (mT (Φ .fw)) [vH (aa 2),vH (aa 1),vZ (ab ar (aa 3) (aw cS (ag [aa 5])))]) 16777216) (eW (aw kb (ag [aa 5]))))))))
def Eu:MU:=qG (eE 5 (lZ (ez [am,Z 0,Z 1] (dN (aa 2)) (gN 0) (cB (aw (Φ .fg) (ag [ab ar (aa 1) (aa 0),aa 2]))) (ab ar (aa 1) (aa 0))))) (LC 5 (v_ (cB (ab (bg 64) (aw cS (ag [aa 5])) 'h')) (Du [3,4] (vH (cC jR))) (qG (bE 6 (vH (aw (Φ .fu) (ag [aa 5])))) (qG (eE 7 (lH (ag []))) (qG (eX (dN (aw nZ (ag [aa 6]))) (goN 8) (aI (bE 9 (vH (aw (Φ .ft) (ag [aa 0,aa 1,ab ar (ab iP (aa 6) (aa 8)) 'a'])))) (aI (cK (cB (ab tw (aa 9) (aa 4))) (aI (v8 4 (vH (aa 9)) (vZ (aw cS (ag [aa 3])))) (Dv 3 (vH (aa 9)))) (cZ)) (gw 7 (vZ (aH (ag [aa 8,ab ar (ab iP (aa 6) (aa 8)) 'h',ab mO (aa 4) (aa 9)]))))))) (Du [3,4] (vZ (ab aP (aw (Φ .fh) (ag [ab ar (aa 5) 'h',aa 1])) (aH (ag [aw kb (ag [aa 7])]))))))))))
def Ew:=a_ (aw nO (ag [d2 [am,Z 0] (dm (ag [ab ar (aa 0) 'h'])) (gN 0) (λ_=>Z be) (ab lN (aw (Φ .fm) (ag [aa 1,aa 0])) (cC .aD))]))
def MC(_:TB):=a7 (vJ (dN (ab ar (aa 0) 'l')) (gN 2) (bD (cB (ab (bg 64) (ab ar (aa 2) 'h') (aa 1))) (a_ (aa 2)) (b5))) (a_ (cC .aD))
def zz:D->Option iS:=D_ cH (ez [am,Z 1] (dm (ag [ab ar (aa 1) 'h'])) (gN 0) (λ_=>Z be) (aw (Φ .fv) (ag [aa 1,aa 0]))) (ez [am] (dN (hD cH "parts" (aa 0))) (gN 0) (λ_=>Z be) 'h') (ez [am] (dN (hD cH "parts" (aa 0))) (gN 0) (λ_=>Z be) (cC (.lst [])))
def Ex:HU:=iR (bE 4 (vZ (dR cH "state_now" (Φ .fH) (aa 0) (ag [aa 1])))) (iR (cK (cB (ab (eU 64) (ab ar (aa 4) 'h') (cC (.str "says")))) (sV) (cZ)) (iR (bE 5 (vH (aw (Φ .fy) (ag [aa 4,aa 2])))) (iR (cK (cB (ab lN (aa 5) (cC .aD))) (sV) (cZ)) (iR (cK (g_ (cB (aw (Φ .fc) (ag [ab ar (aa 5) 'a',aa 3])))) (sV) (cZ)) (iR (qN 0 cH (vH (aH (ag [aa 1,ab ar (aa 4) 'a']))) (vH (aH (ag [aa 2,aa 3])))) (iR (qL 0 cH (vH (aa 1)) (vH (aH (ag [cC (.str "says"),ab ar (aa 4) 'a',aa 2,aa 3])))) (zj (qJ 0 cH (vH (aa 1)) (vH (ab ar (aa 5) 'l'))))))))))
def Ey:HU:=iR (bE 2 (vZ (dR cH "state_now" (Φ .fH) (aa 0) (ag [aa 1])))) (iR (cK (g_ (cB (dR cH "has_mail" (Φ .fI) (aa 0) (ag [aa 1])))) (sV) (cZ)) (iR (bE 3 (vH (ab ar (aa 2) 'a'))) (iR (wg 0 4 cH (vH (aH (ag [aa 3,aa 1]))) (vH 'h')) (iR (qL 0 cH (vH (aa 1)) (vH (ab aP (aH (ag [cC (.str "hears"),aa 3])) (aa 4)))) (iR (qJ 0 cH (vH (aa 1)) (vH (ab ar (aw (Φ .fy) (ag [aa 2,ab ar (aa 4) 'h'])) 'l'))) (zk (vH (ab aP (aH (ag [aa 3])) (aa 4)))))))))
def MD:=a7 (qR (dR cH "look_for" (Φ .fG) (aa 0) (ag [aa 1]))) (a7 (qR (dR cH "look_for" (Φ .fG) (aa 0) (ag [aa 2]))) (a_ (aw kb (ag [tP (hD cH "letters" (aa 0)) (aH (ag [aa 1,aa 2])) (jc (ag []))]))))
def ME:=a7 (qR (dR cH "look_for" (Φ .fG) (aa 0) (ag [aa 1]))) (a_ (aw kb (ag [ab ar (hD cH "doings" (aa 0)) (aa 1)])))
def MF:=a7 (bD (cB (aw Mt (ag [d2 [am] (Ef (hD cH "letters" (aa 0))) (gN 0) (λ_=>Z be) (ab iL (aw cS (ag [aa 0])) 'h')]))) (a_ (cC (.bl bi))) (b5)) (a_ (aw nO (ag [d2 [am,Z 0] (dm (ag [aw cS (ag [hD cH "parts" (aa 0)])])) (gN 0) (λ_=>Z be) (ab (bg 64) (dR cH "state_now" (Φ .fH) (aa 1) (ag [aa 0])) (cC jR))])))
def MG(_:TB):=bD (g_ (cB (mI jK j9 'h' (aa 1) (aw cS (ag [hD cH "parts" (aa 0)]))))) (Mw) (b5)
def MH:=a7 (qR (dR cH "look_for" (Φ .fG) (aa 0) (ag [aa 1]))) (a_ (ab ar (ab ar (hD cH "parts" (aa 0)) (aa 1)) (ab ar (hD cH "states" (aa 0)) (aa 1))))
def MI:=a7 (et 2 (dR cH "state_now" (Φ .fH) (aa 0) (ag [aa 1]))) (a_ (gu (ab (bg 64) (ab ar (aa 2) 'h') (cC (.str "hears"))) (ab iL (aw cS (ag [tP (hD cH "letters" (aa 0)) (aH (ag [ab ar (aa 2) 'a',aa 1])) (jc (ag []))])) 'h')))
def Ez(_:TB):=a7 (bD (cB (ab j9 (aa 1) (aw cS (ag [aa 0])))) (a_ (ab ar (aa 0) (aa 1))) (b5)) (a_ 'h')
def MJ(_:TB):=a_ (ab iK (ab iK (ab iJ (aa 0) (cC (.int 48271))) (aa 1)) (aa 2))
def MK:=a7 (et 2 (cC (.str "abcdefghijklmnopqrstuvwxyz"))) (a7 (et 3 (ab ar (aa 2) (ab iK (ab aP (aw (Φ .fK) (ag [aa 0,cC (.int 9923),cC (.int 26)])) (ab iJ (cC (.int 9)) (aa 1))) (cC (.int 26))))) (a7 (et 4 (yn (cC (.str "")) (d2 [am,Z 2,Z 0] (dm (ag [aw (Φ .fK) (ag [aa 0,cC (.int 9887),cC (.int 3)])])) (gN 0) (λ_=>Z be) (ab ar (aa 1) (aw (Φ .fK) (ag [ab aP (aa 2) (ab iJ 'z' (aa 0)),cC (.int 9941),cC (.int 26)])))))) (a7 (et 5 (aw (Φ .fK) (ag [aa 0,cC (.int 9883),ab aP (aw cS (ag [aa 4])) 'a']))) (a_ (ab aP (ab aP (kO (aa 4) iN (eC (aa 5))) (aa 3)) (kO (aa 4) (eC (aa 5)) iN))))))
def tQ:=a7 (et 2 (aw (Φ .fK) (ag [aa 0,cC (.int 9973),cC (.int 8)]))) (a7 (bD (oT (cB (ab j9 (aa 2) 'l')) (iI (cB (ab (bg 64) (aa 1) 'h')) (cB (ab iL (aa 2) (cC (.int 5)))))) (a_ (aH (ag [cC (.str "none")]))) (b5)) (a7 (bD (cB (ab j9 (aa 2) (cC (.int 4)))) (a7 (et 3 (ab iz (aw (Φ .fK) (ag [aa 0,cC (.int 9967),cC (.int 21)])) (cC (.int 10)))) (a_ (aH (ag [cC (.str "number"),aa 3,ab aP (aa 3) (aw (Φ .fK) (ag [aa 0,cC (.int 9949),cC (.int 12)]))])))) (b5)) (a7 (bD (cB (ab j9 (aa 2) (cC (.int 6)))) (a_ (aH (ag [cC (.str "name"),aw kb (ag [aw CD (ag [d2 [am,Z 0] (dm (ag [ab aP 'a' (aw (Φ .fK) (ag [aa 0,cC (.int 9931),cC (.int 3)]))])) (gN 0) (λ_=>Z be) (aw (Φ .fL) (ag [aa 1,aa 0]))])])]))) (b5)) (a7 (et 4 (aw (Φ .fM) (ag [ab aP (ab iJ (aa 0) 'z') 'a',ab iz (aa 1) 'a']))) (a7 (bD (cB (ab (bg 64) (aa 2) (cC (.int 6)))) (a_ (aH (ag [cC (.str "pair"),aa 4,aw (Φ .fM) (ag [ab aP (ab iJ (aa 0) (cC (.int 5))) 'l',ab iz (aa 1) 'a'])]))) (b5)) (a_ (aH (ag [cC (.str "row"),aa 4,aw (Φ .fK) (ag [aa 0,cC (.int 9929),cC (.int 5)])]))))))))
def ML:=a_ (aH (ag [aw (Φ .fL) (ag [aa 0,aa 1]),aw (Φ .fM) (ag [ab aP (ab iJ (aa 0) (cC (.int 11))) (aa 1),cC (.int 2)])]))
def MM(_:TB):=a_ (gu (ab (bg 64) (ab iK (aa 0) (cC (.int 4))) 'l') (ab iL (aa 1) 'l'))
def MN:=a7 (et 2 (ab aP (ab iz (aa 1) 'l') (aw qA (ag [aw (Φ .fO) (ag [aa 0,aa 1])])))) (a_ (ab aP (ab aP 'a' (ab sW (ab aP 'a' (aw (Φ .fK) (ag [aa 0,cC (.int 9949),cC (.int 3)]))) (aa 2))) (aw qA (ag [ab iL (aw (Φ .fK) (ag [aa 0,cC (.int 9931),cC (.int 3)])) 'h']))))
def EB(_:TB):=aI (eE 5 (lH (ag []))) (aI (eE 6 (lH (ag []))) (aI (bE 7 (vH (aw cS (ag [aa 3])))) (aI (eX (sN (aa 4)) (ic 2 (cG (goN 8) (cG (goN 9) (ib)))) (aI (bE 10 (vH (ab aP (ab aP (aa 0) 'a') (ab sW (aa 8) (aa 7))))) (aI (gw 6 (vH (ab aP (aa 9) (aH (ag [aa 10]))))) (aI (gw 5 (vH (aH (ag [cC (.str "say"),aa 2,ab ar (aa 3) 'a',aH (ag [ab aP (ab ar (aa 4) 'h') (aH (ag [ab aP (aa 10) 'a']))])])))) (eX (dm (ag [cC (.int 1),aa 7])) (goN 11) (aI (bE 12 (vH (ab ar (jc (ag [ab aP (ab aP (aa 10) (aa 11)) 'a',ab ar (aa 1) (aa 8)])) (aw qA (ag [ab (bg 64) (aa 11) (ab iz (aa 7) 'a')]))))) (gw 5 (vH (aH (ag [cC (.str "say"),ab ar (aa 3) 'h',ab ar (aa 3) (aa 11),aH (ag [ab aP (aa 9) (aH (ag [aa 12]))])])))))))))) (eW (ab aP (jc (ag [aH (ag [cC (.str "say"),aa 2,ab ar (aa 3) 'h',aw kb (ag [aa 6])])])) (aa 5))))))
def EC:=aI (bE 4 (vH (aw (Φ .fK) (ag [aa 0,cC (.int 9929),aa 2])))) (aI (eE 5 (lZ (ez [am,Z 2,Z 4,Z 0] (dm (ag [ab iz (aa 2) 'a'])) (gN 0) (λ_=>Z be) (ab iK (ab aP (ab aP (aa 2) 'a') (ab iK (ab aP (aa 0) (aw (Φ .fK) (ag [aa 3,cC (.int 9901),ab iz (aa 1) 'a']))) (ab iz (aa 1) 'a'))) (aa 1))))) (aI (bE 6 (vH (aw nQ (ag [d2 [am,Z 0] (dm (ag [ab aP 'a' (aw (Φ .fK) (ag [aa 0,cC (.int 9949),cC (.int 3)]))])) (gN 0) (λ_=>Z be) (aw (Φ .fN) (ag [aa 1,aa 0]))])))) (aI (cK (cB (aw (Φ .fO) (ag [aa 0,aa 2]))) (eW (aw (Φ .fQ) (ag [aa 1,aa 3,aa 4,aa 5,aa 6]))) (cZ)) (aI (eE 7 (lH (ag []))) (aI (eE 8 (lH (ag []))) (aI (eX (sN (aa 6)) (ic 2 (cG (goN 9) (cG (goN 10) (ib)))) (aI (bE 11 (vH (ab aP (d2 [am,Z 1,Z 9,Z 2] (dm (ag [ab iz (aa 2) 'l'])) (gN 0) (λ_=>Z be) (ab aP (ab aP (ab aP (aa 1) 'a') (ab sW (aa 2) (ab iz (aa 3) 'l'))) (aa 0))) (jc (ag [ab ar (aa 3) (aa 9)]))))) (aI (gw 8 (vH (ab aP (aa 10) (aH (ag [ab ar (aa 11) 'h']))))) (eX (dm (ag [ab iz (aa 2) 'l'])) (goN 12) (gw 7 (vZ (aH (ag [cC (.str "say"),aa 4,ab ar (aa 5) (ab aP (aa 12) 'a'),aH (ag [ab aP (aa 10) (aH (ag [ab ar (aa 11) (ab aP (aa 12) 'a')]))])])))))))) (eW (ab aP (jc (ag [aH (ag [cC (.str "say"),aa 4,ab ar (aa 5) 'h',aw kb (ag [aa 8])])])) (aa 7)))))))))
def MO:=a7 (et 4 (aw (Φ .fK) (ag [aa 0,cC (.int 9871),aa 2]))) (a7 (et 5 (ab iK (ab aP (ab aP (aa 4) 'a') (aw (Φ .fK) (ag [aa 0,cC (.int 9859),ab iz (aa 2) 'a']))) (aa 2))) (a7 (et 6 (aw nQ (ag [jc (ag [aw (Φ .fN) (ag [ab aP (aa 0) 'a',cC (.int 0)]),aw (Φ .fN) (ag [ab aP (aa 0) 'a',cC (.int 1)])])]))) (a7 (bD (cB (ab (bg 64) (aw (Φ .fK) (ag [aa 0,cC (.int 9931),cC (.int 3)])) 'a')) (a_ (aH (ag [cC (.str "say"),aa 4,aa 5,aH (ag [ab aP (ab ar (aa 6) 'h') (aH (ag [aa 3]))])]))) (b5)) (a_ (aH (ag [cC (.str "say"),aa 4,aa 5,aH (ag [ab aP (ab ar (aa 6) 'h') (aH (ag [ab ar (jc (ag [aa 1,aa 3])) (ab iK (aa 0) 'l')])),ab aP (ab ar (aa 6) 'a') (aH (ag [ab ar (jc (ag [aa 3,aa 1])) (ab iK (aa 0) 'l')]))])]))))))
def zF:=a7 (et 2 (ab aP 'l' (aw (Φ .fK) (ag [aw (Φ .fJ) (ag [aa 0,cC (.int 0)]),cC (.int 9973),cC (.int 3)])))) (a_ (aw (Φ .fU) (ag [aa 2,d2 [am,Z 0] (dm (ag [ab aP 'a' (aw (Φ .fK) (ag [aw (Φ .fJ) (ag [aa 0,cC (.int 0)]),cC (.int 9967),aa 1]))])) (gN 0) (λ_=>Z be) (aw (Φ .fJ) (ag [aa 1,ab aP 'a' (aa 0)]))])))
def ED:=aI (eE 2 (lH (ag [cC (.int 0)]))) (aI (eX (dN (aa 1)) (goN 3) (gw 2 (vZ (ab aP (ab ar (aa 2) (qq 'a')) (aw (Φ .fP) (ag [aa 3,aa 0])))))) (aI (eE 4 (lH (ag []))) (aI (eX (sN (aa 1)) (ic 2 (cG (goN 5) (cG (goN 3) (ib)))) (aI (eE 6 (lZ (ez [am,Z 2,Z 3] (dm (ag [cC (.int 3)])) (gN 0) (λ_=>Z be) (ab ar (aa 1) (aw (Φ .fK) (ag [ab aP (aa 2) (ab iJ (cC (.int 7)) (aa 0)),cC (.int 9907),aw cS (ag [aa 1])])))))) (aI (bE 7 (vZ (ab ar (aa 6) 'h'))) (aI (cK (cB (ab iL (aw (Φ .fK) (ag [aa 3,cC (.int 9931),cC (.int 3)])) 'h')) (yK 6 (vH 'h') (vZ (ab iz (ab ar (aa 2) (ab aP (aa 5) 'a')) 'a'))) (cZ)) (aI (eE 4 (lZ (yE (aa 4) (aw (Φ .fR) (ag [aa 3,ab ar (aa 2) (aa 5),aa 0,aa 6]))))) (cK (cB (ab iL (aw (Φ .fK) (ag [aa 3,cC (.int 9931),cC (.int 3)])) 'h')) (gw 4 (vZ (aw (Φ .fS) (ag [aa 3,ab iz (ab ar (aa 2) (ab aP (aa 5) 'a')) 'a',aa 0,aa 7])))) (cZ))))))) (eW (aH (ag [aa 0,aw kb (ag [ab jO (aa 4) (jc (ag [aH (ag [cC (.str "end")])]))])]))))))
def EE:=a7 (bD (cB (ab (bg 64) (ab ar (aa 0) 'h') (cC (.str "none")))) (a_ (cC .aD)) (b5)) (a7 (bD (cB (ab (bg 64) (ab ar (aa 0) 'h') (cC (.str "number")))) (a_ (ab aP (ab ar (aa 0) 'a') (aw (Φ .fK) (ag [aa 1,cC (.int 9907),ab aP (ab iz (ab ar (aa 0) 'l') (ab ar (aa 0) 'a')) 'a'])))) (b5)) (a7 (bD (cB (ab (bg 64) (ab ar (aa 0) 'h') (cC (.str "name")))) (a_ (ab ar (ab ar (aa 0) 'a') (aw (Φ .fK) (ag [aa 1,cC (.int 9901),aw cS (ag [ab ar (aa 0) 'a'])])))) (b5)) (a7 (bD (cB (ab (bg 64) (ab ar (aa 0) 'h') (cC (.str "pair")))) (a_ (aH (ag [aw (Φ .fV) (ag [ab ar (aa 0) 'a',ab aP (ab iJ (aa 1) 'z') 'a']),aw (Φ .fV) (ag [ab ar (aa 0) 'l',ab aP (ab iJ (aa 1) (cC (.int 5))) 'l'])]))) (b5)) (a_ (aw kb (ag [d2 [am,Z 0,Z 1] (dm (ag [aw (Φ .fK) (ag [aa 1,cC (.int 9871),ab aP (ab ar (aa 0) 'l') 'a'])])) (gN 0) (λ_=>Z be) (aw (Φ .fV) (ag [ab ar (aa 1) 'a',ab aP (ab iJ (aa 2) (cC (.int 7))) (aa 0)]))]))))))
def EF:=a7 (bD (cB (ab (bg 64) (ab ar (aa 0) 'h') (cC (.str "none")))) (a_ (ab lN (aa 1) (cC .aD))) (b5)) (a7 (bD (cB (ab (bg 64) (ab ar (aa 0) 'h') (cC (.str "number")))) (a_ (gu (nM .int (aa 1)) (gu (B0 (nM .bool (aa 1))) (mI jK jK (ab ar (aa 0) 'a') (aa 1) (ab ar (aa 0) 'l'))))) (b5)) (a7 (bD (cB (ab (bg 64) (ab ar (aa 0) 'h') (cC (.str "name")))) (a_ (gu (nM .str (aa 1)) (ab vA (aa 1) (ab ar (aa 0) 'a')))) (b5)) (a7 (bD (g_ (cB (nM .tuple (aa 1)))) (a_ (cC (.bl bi))) (b5)) (a7 (bD (cB (ab (bg 64) (ab ar (aa 0) 'h') (cC (.str "pair")))) (a_ (gu (ab (bg 64) (aw cS (ag [aa 1])) 'l') (gu (aw (Φ .fW) (ag [ab ar (aa 0) 'a',ab ar (aa 1) 'h'])) (aw (Φ .fW) (ag [ab ar (aa 0) 'l',ab ar (aa 1) 'a']))))) (b5)) (a_ (gu (ab jK (aw cS (ag [aa 1])) (ab ar (aa 0) 'l')) (aw nO (ag [d2 [am,Z 0] (dN (aa 1)) (gN 0) (λ_=>Z be) (aw (Φ .fW) (ag [ab ar (aa 1) 'a',aa 0]))]))))))))
def EG:=aI (lS (vH (aa 0)) (ic 2 (cG (goN 2) (cG (goN 3) (ib))))) (aI (bE 4 (vH (aw (Φ .fK) (ag [aa 1,cC (.int 9857),aw cS (ag [aa 3])])))) (aI (bE 5 (vH (ab ar (aa 3) (aa 4)))) (aI (cK (cB (ab (bg 64) (aa 5) (aH (ag [cC (.str "end")])))) (aI (bE 6 (vH (aw (Φ .fK) (ag [aa 1,cC (.int 9851),aw cS (ag [aa 3])])))) (bE 5 (vH (aH (ag [cC (.str "say"),ab iK (aa 1) (aa 2),ab iK (ab aP (aa 1) 'a') (aa 2),aH (ag [aH (ag [cC (.str "z"),aH (ag [cC (.str "none")]),aa 6])])]))))) (cZ)) (aI (bE 7 (vH (aw (Φ .fK) (ag [aa 1,cC (.int 9839),cC (.int 6)])))) (aI (lS (vH (ab ar (ab ar (aa 5) 'z') (qq 'a'))) (ic 3 (cG (goN 8) (cG (goN 9) (cG (goN 6) (ib)))))) (aI (cK (cB (ab (bg 64) (aa 7) 'h')) (aI (bE 10 (vH (aw (Φ .fK) (ag [aa 1,cC (.int 9833),aw cS (ag [aa 3])])))) (bE 5 (vH (ab aP (kO (aa 5) iN (eC 'z')) (aH (ag [ab jO (jg (ab ar (aa 5) 'z') iN (eC (qq 'a'))) (aH (ag [aH (ag [aa 8,aa 9,aa 10])]))])))))) (cZ)) (aI (cK (cB (ab (bg 64) (aa 7) 'a')) (bE 5 (vH (aH (ag [cC (.str "say"),ab ar (aa 5) 'l',ab ar (aa 5) 'a',ab ar (aa 5) 'z'])))) (cZ)) (aI (cK (cB (ab (bg 64) (aa 7) 'l')) (bE 5 (vH (ab aP (kO (aa 5) iN (eC 'z')) (aH (ag [ab jO (jg (ab ar (aa 5) 'z') iN (eC (qq 'a'))) (aH (ag [aH (ag [ab aP (kO (aa 8) iN (eC 'l')) (cC (.str "z")),aa 9,aa 6])]))]))))) (cZ)) (aI (cK (cB (ab (bg 64) (aa 7) 'z')) (bE 5 (vH (ab aP (kO (aa 5) iN (eC 'z')) (aH (ag [jg (ab ar (aa 5) 'z') (eC (qq 'a')) iN]))))) (cZ)) (aI (cK (cB (ab (bg 64) (aa 7) (cC (.int 4)))) (bE 5 (vH (aH (ag [cC (.str "end")])))) (cZ)) (aI (cK (cB (ab (bg 64) (aa 7) (cC (.int 5)))) (bE 5 (vH (ab aP (kO (aa 5) iN (eC 'z')) (aH (ag [ab jO (jg (ab ar (aa 5) 'z') iN (eC (qq 'a'))) (aH (ag [aH (ag [aa 8,aH (ag [cC (.str "number"),cC (.int 0),ab iK (aa 1) (cC (.int 9))]),aa 6])]))]))))) (cZ)) (eW (aH (ag [aa 2,ab aP (ab jO (jg (aa 3) iN (eC (aa 4))) (aH (ag [aa 5]))) (jg (aa 3) (eC (ab aP (aa 4) 'a')) iN)]))))))))))))))
def MP:=a7 (bD (oT (cB (ab lN (aa 1) (cC .aD))) (cB (ab (bg 64) (ab ar (ab ar (ab ar (aa 0) 'a') (aa 1)) 'h') (cC (.str "end"))))) (a_ (cC .aD)) (b5)) (a7 (vJ (dN (ab ar (ab ar (ab ar (aa 0) 'a') (aa 1)) 'z')) (lQ 3 (dF (gN 4) (dF (gN 5) (dF (gN 6) (lP))))) (bD (iI (cB (ab (bg 64) (aa 4) (aa 2))) (cB (aw (Φ .fW) (ag [aa 5,aa 3])))) (a_ (aa 6)) (b5))) (a_ (cC .aD)))
def MQ:=aI (eE 3 (lH (ag []))) (aI (bE 4 (vH 'h')) (aI (eX (dN (aa 2)) (ic 2 (cG (goN 5) (cG (goN 6) (ib)))) (aI (bE 7 (vH (ab ar (ab ar (aa 0) 'a') (aa 4)))) (aI (cK (cB (ab (bg 64) (ab ar (aa 7) 'a') (aa 1))) (gw 3 (vH (aH (ag [cC (.str "says"),ab ar (aa 7) 'l',aa 5,aa 6])))) (cZ)) (aI (cK (cB (ab (bg 64) (ab ar (aa 7) 'l') (aa 1))) (gw 3 (vH (aH (ag [cC (.str "hears"),ab ar (aa 7) 'a',aa 5,aa 6])))) (cZ)) (bE 4 (vH (aw (Φ .fY) (ag [aa 0,aa 4,aa 5,aa 6])))))))) (eW (aw kb (ag [aa 3])))))
def MR:=aI (bE 1 (vH (aw (Φ .fT) (ag [aa 0,cC (.int 3)])))) (aI (bE 2 (vH (aw (Φ .fX) (ag [aa 1,aw (Φ .fJ) (ag [aa 0,cC (.int 4)])])))) (aI (cK (cB (aw (Φ .fx) (ag [aa 2]))) (bE 1 (vH (aa 2))) (cZ)) (aI (bE 3 (vH (ab ar (aa 1) 'h'))) (qP 4 cH (mU (Φ .gb)) (vH (aa 1)) (aI (bE 5 (vH 'h')) (aI (bE 6 (vH (aH (ag [])))) (aI (eX (dN (kO (aa 0) (eC (cC (.int 5))) (eC (cC (.int 35))))) (goN 7) (cK (cB (ab (bg 64) (ab ar (ab ar (ab ar (aa 1) 'a') (aa 5)) 'h') (cC (.str "say")))) (aI (lS (vH (jg (ab ar (ab ar (aa 1) 'a') (aa 5)) (eC 'a') (eC 'z'))) (ic 2 (cG (goN 8) (cG (goN 9) (ib))))) (aI (lS (vH (ab ar (ab ar (ab ar (ab ar (aa 1) 'a') (aa 5)) 'z') (aw (Φ .fK) (ag [aa 7,cC (.int 9817),aw cS (ag [ab ar (ab ar (ab ar (aa 1) 'a') (aa 5)) 'z'])])))) (ic 3 (cG (goN 10) (cG (goN 11) (cG (goN 12) (ib)))))) (aI (bE 13 (vH (aw (Φ .fV) (ag [aa 11,aa 7])))) (aI (tO 4 cH [vH (aa 8),vH (aa 10),vH (aa 13)] (gT (Φ .fB)) [vH (aa 9)] (gT (Φ .fC)) (vH (aH (ag [aa 8,aa 10,aa 13])))) (aI (bE 6 (vH (ab jO (aa 6) (aH (ag [aH (ag [aa 10,aa 13])]))))) (bE 5 (vH (aa 12)))))))) (cZ))) (aI (eX (dm (ag [aa 3])) (goN 14) (aI (cK (cB (ab (eU 64) (dR cH "done" (Φ .fE) (aa 4) (ag [aa 14])) (aw (Φ .fZ) (ag [aa 1,aa 14,aa 6])))) (eW (cC (.bl bi))) (cZ)) (cK (vP (d2 [am,Z 14,Z 4] (dm (ag [aa 3])) (gN 0) (cB (ab (eU 64) (dR cH "under_way" (Φ .fD) (aa 2) (ag [aa 1,aa 0])) (aH (ag [])))) (aa 0))) (eW (cC (.bl bi))) (cZ)))) (eW (qo (ab (eU 64) (ab ar (ab ar (aa 1) 'a') (aa 5)) (aH (ag [cC (.str "end")]))) (ab lN (dR cH "is_over" (Φ .fF) (aa 4) nF) (cC (.bl be)))))))))))))
def body(Φ:TB):TB|.fa=>cJ 3 3 (Mx Φ)|.fb=>cJ 3 3 (My Φ)|.fc=>cJ 2 3 (Eh Φ)|.fd=>cJ 2 3 (Mz Φ)|.fe=>cJ 1 2 (Ei Φ)|.ff=>cJ 1 1 (Ej Φ)|.fg=>cJ 2 2 (MA Φ)|.fh=>cJ 2 2 (MB Φ)|.fi=>eY 1 5 (Ek Φ)|.fj=>cJ 3 5 (zu Φ)|.fk=>eY 2 8 (El Φ)|.fm=>eY 2 11 (En Φ)|.fo=>cJ 4 6 (zw Φ)|.fp=>cJ 4 6 (zx Φ)|.fq=>eY 2 6 (Eo Φ)|.fr=>eY 3 5 (Er Φ)|.ft=>eY 3 6 (Es Φ)|.fu=>eY 1 7 (Et Φ)|.fv=>eY 2 6 (zy Φ)|.fw=>encM (runM 10 (Eu Φ) 3 2)|.fx=>cJ 1 1 (Ew Φ)|.fy=>cJ 2 3 (MC Φ)|.fA=>wq (zz Φ)|.fB=>kX (n6 3 6 (Ex Φ))|.fC=>kX (n6 1 5 (Ey Φ))|.fD=>cJ 3 3 (MD Φ)|.fE=>cJ 2 2 (ME Φ)|.fF=>cJ 1 1 (MF Φ)|.fG=>cJ 2 2 (MG Φ)|.fH=>cJ 2 2 (MH Φ)|.fI=>cJ 2 3 (MI Φ)|.fJ=>cJ 2 2 (Ez Φ)|.fK=>cJ 3 3 (MJ Φ)|.fL=>cJ 2 6 (MK Φ)|.fM=>cJ 2 5 (tQ Φ)|.fN=>cJ 2 2 (ML Φ)|.fO=>cJ 2 2 (MM Φ)|.fP=>cJ 2 3 (MN Φ)|.fQ=>eY 5 13 (EB Φ)|.fR=>eY 4 13 (EC Φ)|.fS=>cJ 4 7 (MO Φ)|.fT=>cJ 2 3 (zF Φ)|.fU=>eY 2 8 (ED Φ)|.fV=>cJ 2 2 (EE Φ)|.fW=>cJ 2 2 (EF Φ)|.fX=>eY 2 11 (EG Φ)|.fY=>cJ 4 7 (MP Φ)|.fZ=>eY 3 8 (MQ Φ)|.ga=>eY 1 15 (MR Φ)|.gb=>Φ .fA
def Tab:Nat->Fn->Zad|0=>λ_ _=>am|k+1=>body (Tab k)
end PT
namespace PM
open PySem L2 DL PT
theorem tab{k:Nat}:Tab (k+1) f ds=body (Tab k) f ds:=rfl
def bB{n:Nat}(h:c+1<=n):∃m,n=m+1/\c<=m:=⟨n-1,by lia,by lia⟩
def gj{c:Type}{a:c}{l:List c}:b4 (a::l) 0=Z a:=by simp[b4,g9]
def ei{c:Type}{a b:c}{l:List c}:b4 (a::b::l) 1=Z b:=by simp[b4,g9];rw[if_pos 'm'];rfl
def at2{d:Type}{a b c:d}{l:List d}:b4 (a::b::c::l) 2=Z c:=by simp[b4,g9];rw[if_pos 'c'];rfl
theorem pq{c:Type}{xs:List c}(h:i<xs.length):b4 xs (i:Int)=Z xs[i]:=u_ (cF h)
theorem EH:jK (.int i) (.int j)=Z (.bl (decide (i<=j))):=rfl
def Zm_:iL (.int i) (.int j)=Z (.bl (decide (j<i))):=rfl
def mV(h:mD i j):iJ (.int i) (.int j)=Z (.int (i*j)):=by show(if mD i j then Z (D.int (i*j))else am)=_;rw[if_pos h]
def kd(h:0<j):iK (.int i) (.int j)=Z (.int (i%j)):=by show(if 0<j then Z (D.int (i%j))else am)=_;rw[if_pos h]
def ZpZ:ar (.bI ns) (.int i)=(b4 ns i).map .int:=rfl
theorem MS{x:Str}:ar (.str x) (.int i)=(b4 x.cps.toList i).map λc=>.str ⟨#[c]⟩:=rfl
theorem Zp0:lN d .aD=Z (.bl (lM d .aD)):=rfl
theorem tR:(2:Int)^62=4611686018427387904:=by simp
theorem Zp1{j:Int}(c: -1000000<=j)(h:j<=1000000):CI (Z [.int j])=Z (cq 0 j.toNat):=by show(if-(2^62)<=j/\j<2^62 then Z (cq 0 j.toNat)else am)=_;rw[if_pos ⟨by rw[tR];lia,by rw[tR];lia⟩]
theorem Zp2(c: -1000000<=i)(h:i<=1000000)(d: -1000000<=j)(e:j<=1000000):CI (Z [.int i,.int j])=Z (cq i (j-i).toNat):=by show(if-(2^62)<=i/\i<2^62/\ -(2^62)<=j/\j<2^62 then Z (cq i (j-i).toNat)else am)=_;rw[if_pos ⟨by rw[tR];lia,by rw[tR];lia,by rw[tR];lia,by rw[tR];lia⟩]
def small{n:Nat}(h:n<=1000):n<aA:=Va h
theorem iT{ds:List D}(d:e c=Z ds)(f:ds.length<aA)(g:cn h i fe (nJ cap c) ds=Z out):d2 cap e h i fe c=Z (.lst out):=by unfold d2;rw[d,bb,if_pos f,g];rfl
theorem MT:bg 64 (.str a) (.str b)=Z (.bl (a==b)):=rfl
theorem eq_int:bg 64 (.int a) (.int b)=Z (.bl (a==b)):=rfl
noncomputable abbrev nr(d:D):Option SD:=Z (.bY d)
section
variable {i:Nat}{g:D->D->Option D}{fa fb:Zaf}{fs:List Zaf}{gs:Zag}{F:Zad}{ρ:ai}{r:aj}{x y z:D}{ds:List D}{b c:Bool}{t u:Zae}{fo:Zaj}{lo:aj->Option (List D)}{sp sq:Zai}{so:Out}{ρ':ai}
def ak(d:fa ρ=Z x)(e:fb ρ=Z y)(f:g x y=Z z):ab g fa fb ρ=Z z:=by simp[ab,d,e,f]
def bc(h:gs ρ=Z ds):aH gs ρ=Z (.tup ds):=by simp[aH,h]
def wt(h:gs ρ=Z ds):jc gs ρ=Z (.lst ds):=by simp[jc,h]
theorem ae(h:fa ρ=Z x)(d:ag fs ρ=Z ds):ag (fa::fs) ρ=Z (x::ds):=by rw[CO,h,d];rfl
def aE(h:gs ρ=Z ds)(d:F ds=Z z):aw F gs ρ=Z z:=by simp[aw,h,d]
theorem aN(h:fa ρ=Z (.bl b)):cB fa ρ=Z b:=by simp[cB,h]
def n8(h:t ρ=Z b):g_ t ρ=Z (!b):=by simp[g_,h]
def zG(h:t ρ=Z be)(d:u ρ=Z b):iI t u ρ=Z b:=by simp[iI,h,d]
def EI(h:t ρ=Z bi):iI t u ρ=Z bi:=by simp[iI,h]
def zH(h:t ρ=Z bi)(d:u ρ=Z b):oT t u ρ=Z b:=by simp[oT,h,d]
def Zn_(h:t ρ=Z be):oT t u ρ=Z be:=by simp[oT,h]
def MV(h:t ρ=Z b)(d:u ρ=Z c):iI t u ρ=Z (b&&c):=by cases b<;>simp[iI,h,d]
def ZuN(h:fa ρ=Z x)(d:Dg x=Z b):vP fa ρ=Z b:=by simp[vP,h,d]
def bN(h:fa (pv r)=Z x):vH fa r=Z x:=h
theorem mW(h:fa (fz r)=Z x)(d:b9 x=be):vZ fa r=Z x:=by simp[vZ,h,d]
def wu(h:gs (pv r)=Z ds):lH gs r=Z ds:=h
def zI(h:gs (fz r)=Z ds)(d:cf ds=be):lZ gs r=Z ds:=by simp[lZ,h,d]
def iE(h:fo r=Z x):bE i fo r=Z (.aF (r.set i (Z (.bY x)))):=by simp[bE,h]
def MW(h:lo r=Z ds):eE i lo r=Z (.aF (r.set i (Z (.own ds)))):=by simp[eE,h]
def EJ(d:iC i r=Z ds)(e:fo r=Z x)(f:ds.length<aA):gw i fo r=Z (.aF (r.set i (Z (.own (ds++[x]))))):=by simp[gw,d,e,f]
def EK(h:fa (fz r)=Z x):eW fa r=Z (.ret x):=by simp[eW,h]
def dS(h:sp ρ=Z (.aF ρ'))(d:sq ρ'=Z so):a7 sp sq ρ=Z so:=by simp[a7,h,d]
def eQ(h:fa ρ=Z x):et i fa ρ=Z (.aF (ρ.set i (Z x))):=by simp[et,h]
theorem EL(h:t ρ=Z be)(d:sp ρ=Z so):bD t sp sq ρ=Z so:=by simp[bD,h,d]
def EM(h:t ρ=Z bi)(d:sq ρ=Z so):bD t sp sq ρ=Z so:=by simp[bD,h,d]
end
def dH(h:f c=Z d):a_ f c=Z (.ret d):=by simp[a_,h]
def dB{n:Nat}{ds:List D}(h:g (lK n ds)=Z (.ret d))(c:ds.length=np):cJ np n g ds=Z d:=by unfold cJ;rw[if_pos c,h];rfl
section
variable {fa fb:Zaf}{ρ:ai}{x y:Bool}{t:Zae}{g u:Zai}{d:D}{o:Out}
def EN(c:fa ρ=Z (.bl x))(e:fb ρ=Z (.bl y)):gu fa fb ρ=Z (.bl (x&&y)):=by
 unfold gu;rw[aN c];cases x;·rfl
 ·exact e
def MX(c:fa ρ=Z (.bl x))(e:fb ρ=Z (.bl y)):qo fa fb ρ=Z (.bl (x||y)):=by
 unfold qo;rw[aN c];cases x;·exact e
 ·rfl
def kY(c:fa ρ=Z (.bl be))(e:fb ρ=Z d):gu fa fb ρ=Z d:=by unfold gu;rw[aN c];exact e
def MY(c:fa ρ=Z (.bl bi)):gu fa fb ρ=Z (.bl bi):=by unfold gu;rw[aN c];rfl
def sk(h:t ρ=Z bi)(k:u ρ=Z o):a7 (bD t g b5) u ρ=Z o:=dS (EM h W) k
def rt2(h:t ρ=Z be)(k:g ρ=Z (.ret d)):a7 (bD t g b5) u ρ=Z (.ret d):=by unfold a7;rw[EL h k];rfl
def rt(h:t ρ=Z be)(k:fa ρ=Z d):a7 (bD t (a_ fa) g) u ρ=Z (.ret d):=by unfold a7;rw[EL h (dH k)];rfl
end
def kZ{j:Int}(h:c d=Z (.int j))(e: -1000000<=j)(f:j<=1000000):dm (ag [c]) d=Z (cq 0 j.toNat):=by unfold dm;rw[ae h W,Zp1 e f]
def jr{out:List D}(g:c d f=Z ρ')(h:e ρ'=Z be)(i:fe ρ'=Z y)(j:cn c e fe ρ' ds=Z out):cn c e fe f (d::ds)=Z (y::out):=by simp[cn,g,h,i,j]
def EO(h:e d=Z (.int a))(i:f d=Z (.int b))(j:g d=Z (.int c)):mI jK jK e f g d=Z (.bl (decide (a<=b)&&decide (b<=c))):=by unfold mI;rw[h,i,j,bb,bb,EH,bb];cases decide (a<=b)<;>rfl
def wx(h:i<j):j9 (.int i) (.int j)=Z (.bl be):=congrArg (λb=>Z (D.bl b)) (decide_eq_true h)
def qS(h:¬i<j):j9 (.int i) (.int j)=Z (.bl bi):=congrArg (λb=>Z (D.bl b)) (decide_eq_false h)
def MZ(h:j<i):iL (.int i) (.int j)=Z (.bl be):=congrArg (λb=>Z (D.bl b)) (decide_eq_true h)
def Zo_(h:¬j<i):iL (.int i) (.int j)=Z (.bl bi):=congrArg (λb=>Z (D.bl b)) (decide_eq_false h)
def zJ(h:i≠j):bg 64 (.int i) (.int j)=Z (.bl bi):=congrArg (λb=>Z (D.bl b)) (beq_eq_false_iff_ne.mpr h)
def M0(h:i=j):bg 64 (.int i) (.int j)=Z (.bl be):=congrArg (λb=>Z (D.bl b)) (beq_iff_eq.mpr h)
noncomputable def inR(lo c:Int):D->Bool|.int i=>decide (lo<=i)&&decide (i<=c)|_=>bi
def Zp_{n:Nat}(hn:1<=n)(d:D)(f:DL.isObj d=bi)(lo c:Int):Tab n .fa [d,.int lo,.int c]=Z (.bl (inR lo c d)):=by refine ax (bB hn) λk e _=>?_;subst e;cases d with|int i=>exact dB (n:=3) (ds:=[.int i,.int lo,.int c]) (g:=Mx (Tab k)) (dH (kY W (kY W (EO W W W)))) W|obj _ _ _=>injection f|_=>rfl
noncomputable def ER(lo c:Int):D->Bool|.tup xs=>decide (lo<=(xs.length:Int))&&decide ((xs.length:Int)<=c)|_=>bi
def M1{n:Nat}(hn:1<=n)(d:D)(f:DL.isObj d=bi)(lo c:Int):Tab n .fb [d,.int lo,.int c]=Z (.bl (ER lo c d)):=by refine ax (bB hn) λk e _=>?_;subst e;cases d with|tup xs=>exact dB (n:=3) (ds:=[.tup xs,.int lo,.int c]) (g:=My (Tab k)) (dH (kY W (EO W W W))) W|obj _ _ _=>injection f|_=>rfl
theorem zK:∀{ds:List D}(o:Option D),(∀d∈ds,fe (Z d::tl)=Z (h d))->cn (gN 0) (λ_=>Z be) fe (o::tl) ds=Z (ds.map h)|[],_,_=>rfl|d::ds,o,c=>by have e:=zK (ds:=ds) (Z d) λx f=>c x (b8 _ f);simp only[cn,gN,Be,bb,if_true,c d bZ,e,Option.map_some,bG]
theorem ES{c:Type}(p:c->Bool):∀xs:List c,nN (xs.map λx=>D.bl (p x))=Z (xs.map p)|[]=>rfl|x::xs=>by simp[nN,Jx,ES p xs]
theorem all_map{c:Type}(p:c->Bool)(xs:List c):nO [.lst (xs.map λx=>D.bl (p x))]=Z (.bl (xs.all p)):=by simp[nO,k1,ES]
noncomputable def pw(c:Nat):Bool:=decide (97<=c)&&decide (c<=122)
def iU:D->Bool|.str x=>decide (1<=x.length)&&decide (x.length<=3)&&x.cps.toList.all pw|_=>bi
def eF:List Str->Bool|x::y::r=>bM x y&&eF (y::r)|_=>be
def qT:D->Bool|.tup xs=>decide (1<=xs.length)&&decide (xs.length<=6)&&xs.all iU&&(match strsOf xs with|some c=>eF c|none=>bi)|_=>bi
noncomputable def M3:D->Bool|.bI _=>bi|.lst _=>bi|.aW _ _=>bi|.tab .. =>bi|.obj .. =>bi|_=>be
mutual
noncomputable def gk:D->Bool|.bI _=>bi|.aW _ _=>bi|.tab .. =>bi|.obj .. =>bi|.tup xs=>n9 xs|.lst _=>bi|_=>be
noncomputable def n9:List D->Bool|[]=>be|x::xs=>gk x&&n9 xs
end
def EU(h:gk d=be):DL.isObj d=bi:=by cases d<;>first|rfl|(unfold gk at h;injection h)
def M4(h:gk d=be):M3 d=be:=by cases d<;>first|rfl|(unfold gk at h;injection h)
inductive Kd where|none|num (lo hi:Int)|name (ns:List Str)|pair (a b:Kd)|row (a:Kd) (m:Int)
noncomputable def Kd.toD:Kd->D|.none=>.tup [.str "none"]|.num lo c=>.tup [.str "number",.int lo,.int c]|.name ns=>.tup [.str "name",.tup (ns.map .str)]|.pair a b=>.tup [.str "pair",a.toD,b.toD]|.row a m=>.tup [.str "row",a.toD,.int m]
noncomputable def Kd.dp:Kd->Nat|.pair a b=>max a.dp b.dp+1|.row a _=>a.dp+1|_=>0
def Kd.WF:Kd->Prop|.none=>True|.num lo c=>lo<=c/\ -1000000<=lo/\c<=1000000|.name ns=>qT (.tup (ns.map .str))=be|.pair a b=>a.WF/\b.WF|.row a m=>0<=m/\m<=9/\a.WF
def Kd.Ne:Kd->Prop|.none=>True|.num lo c=>lo<=c|.name ns=>ns≠[]|.pair a b=>a.Ne/\b.Ne|.row a m=>0<=m/\m<=9/\a.Ne
mutual
noncomputable def fits:Kd->D->Bool|.none,d=>lM d .aD|.num lo c,d=>inR lo c d|.name ns,.str x=>ns.any λy=>y==x|.name _,_=>bi|.pair a b,.tup [x,y]=>fits a x&&fits b y|.pair _ _,_=>bi|.row a m,.tup xs=>decide ((xs.length:Int)<=m)&&tS a xs|.row _ _,_=>bi
noncomputable def tS:Kd->List D->Bool|_,[]=>be|a,x::xs=>fits a x&&tS a xs
end
theorem Zkb:∀ns:List Str,(ns.map D.str).all nI=be|[]=>rfl|n::ns=>by simp[nI]
theorem M5(d:D):∀ns:List Str,(ns.map D.str).any (λy=>h_ y d)=(match d with|.str x=>ns.any λy=>y==x|_=>bi)|[]=>by grind|n::ns=>by rw[bG,jE,M5 d ns];cases d<;>simp[h_]
theorem M6{ns:List Str}(h:M3 d=be):vA d (.tup (ns.map .str))=Z (.bl (fits (.name ns) d)):=by
 have hs:j_ d=bi:=by cases d<;>first|rfl|injection h
 show(if((ns.map D.str).all nI&&!j_ d)=be then Z (D.bl ((ns.map D.str).any λy=>h_ y d))else am)=_;rw[Zkb,hs,M5];grind[fits]
theorem EV:∀{xs:List D},n9 xs=be->∀x∈xs,gk x=be
 |[],_,x,hx=>by cases hx|y::ys,h,x,hx=>by
  simp only[n9,cV]at h;rcases a6.mp hx with rfl|hx;·exact h.1
  ·exact EV h.2 x hx
theorem wy(a:Kd):∀xs:List D,tS a xs=xs.all (fits a)|[]=>by rfl|x::xs=>by simp[tS,wy a xs]
theorem M7:∀{xs:List D}(o:Option D),(∀x∈xs,F [c,x]=Z (.bl (p x)))-> ∃d,lO (gN 2) (bD (g_ (cB (aw F (ag [aa 0,aa 2])))) (a_ (cC (.bl bi))) (b5)) xs [Z c,t,o]=Z (if xs.all p then .aF [Z c,t,d]else .ret (.bl bi))
 |[],o,_=>⟨o,W⟩|x::xs,o,h=>by
  obtain⟨d,e⟩:=M7 (xs:=xs) (t:=t) (Z x) λy f=>h y (b8 _ f);have g:=h x bZ;refine⟨d,?_⟩;have i:g_ (cB (aw F (ag [aa 0,aa 2]))) [Z c,t,Z x]=Z (!(p x)):=n8 (aN (aE 'e' g));show((bD _ _ _ [Z c,t,Z x]).bind _)=Z (if(p x&&xs.all p)=be then _ else _);unfold bD;rw[i];cases p x;·rfl
  ·exact e
theorem ZgI{k:Nat}{a:Kd}(h:∀x∈xs,Tab k .fc [a.toD,x]=Z (.bl (fits a x))):Tab (k+1) .fd [a.toD,.tup xs]=Z (.bl (tS a xs)):=by obtain⟨d,c⟩:=M7 (t:=Z (.tup xs)) am h;rw[wy];refine dB (n:=3) (ds:=[a.toD,.tup xs]) (g:=Mz (Tab k)) ?_ W;show((lO _ _ xs [Z a.toD,Z (.tup xs),am]).bind _)=_;rw[c];cases xs.all (fits a)<;>rfl
def vr{k:Nat}{K:Kd}(h:Eh (Tab k) [Z K.toD,Z d,am]=Z (.ret x)):Tab (k+1) .fc [K.toD,d]=Z x:=dB (n:=3) (ds:=[K.toD,d]) (g:=Eh (Tab k)) h W
theorem Zp6:∀(K:Kd){n:Nat},2*K.dp+3<=n->∀d:D,gk d=be->Tab n .fc [K.toD,d]=Z (.bl (fits K d)):=by intro K;induction K with
 |none=>intro n hn d f;obtain⟨k,rfl,g⟩:=bB (c:=2) hn;rw[fits];exact vr (dS (eQ W) (rt W W))|num lo w=>intro n hn d f;obtain⟨k,rfl,g⟩:=bB (c:=2) hn;rw[fits];exact vr (dS (eQ W) (sk W (rt W (aE (ae W 'e') (Zp_ (n:=k) (fu g) d (EU f) lo w)))))|name ns=>intro n hn d f;obtain⟨k,rfl,g⟩:=bB (c:=2) hn;exact vr (dS (eQ W) (sk W (sk W (rt W (ak W W (M6 (M4 f)))))))|pair a b p u=>intro n hn d f;have v:(Kd.pair a b).dp=max a.dp b.dp+1:=rfl;obtain⟨k,rfl,g⟩:=bB (n:=n) (c:=2*max a.dp b.dp+4) 'c';have i:=M1 (n:=k) (fu g) d (EU f) 2 2;have t:∀d,Tab k .fb [d,.int 2,.int 2]=Z (.bl bi)->Tab (k+1) .fc [(Kd.pair a b).toD,d]=Z (.bl bi):=λd h=>vr (dS (eQ W) (sk W (sk W (sk W (rt W (MY (aE (ae W 'e') h)))))));cases d with
  |tup xs=>match xs,f with
   |[],_=>exact t _ i|[x],_=>exact t _ i|[x,y],f=>
    have q:gk x=be/\gk y=be:=by simpa [gk,n9,cV]using f
    exact vr (dS (eQ W) (sk W (sk W (sk W (rt W (kY (aE (ae W 'e') i) (EN (aE 'e' (p (n:=k) 'c' x q.1)) (aE 'e' (u (n:=k) 'c' y q.2)))))))))|x::y::z::r,_=>
    have e:ER 2 2 (.tup (x::y::z::r))=bi:=by simp[ER];lia
    exact t _ (by rw[i,e])
  |_=>exact t _ i
 |row a m p=>
  intro n hn d f;have v:(Kd.row a m).dp=a.dp+1:=rfl;obtain⟨k,rfl,g⟩:=bB (n:=n) (c:=2*a.dp+4) 'c';have i:=M1 (n:=k) (fu g) d (EU f) 0 m;cases d with
  |tup xs=>
   have A:Tab k .fd [a.toD,.tup xs]=Z (.bl (tS a xs)):=by obtain⟨j,rfl,B⟩:=bB (c:=2*a.dp+3) g;exact(by grind[ZgI,EV,gk])
   exact vr (dS (eQ W) (sk W (sk W (sk W (sk W (dH (EN (x:=decide ((xs.length:Int)<=m)) (aE (ae W 'e') i) (aE 'e' A))))))))
  |_=>exact vr (dS (eQ W) (sk W (sk W (sk W (sk W (dH (MY (aE (ae W 'e') i))))))))
noncomputable def Kd.first:Kd->D|.none=>.aD|.num lo _=>.int lo|.name ns=>.str (ns.headD "")|.pair a b=>.tup [a.first,b.first]|.row _ _=>.tup []
def ZuO(h:(Kd.name ns).WF):∃x r,ns=x::r:=by cases ns with|nil=>simp[Kd.WF,qT]at h|cons x r=>simp
theorem tT:∀{K:Kd},K.WF->K.Ne|.none,_=>trivial|.num _ _,h=>h.1|.name ns,h=>by obtain⟨x,r,rfl⟩:=ZuO h;exact Bf _ _|.pair a b,h=>⟨tT h.1,tT h.2⟩|.row a m,h=>⟨h.1,h.2.1,tT h.2.2⟩
def Zp7:∀(K:Kd){n:Nat},K.Ne->K.dp+1<=n->Tab n .fe [K.toD]=Z K.first:=by intro K;induction K with|none=>intro n hw hn;obtain⟨k,rfl,e⟩:=bB (c:=0) (by simpa [Kd.dp]using hn);rfl|num lo h=>intro n hw hn;obtain⟨k,rfl,e⟩:=bB (c:=0) (by simpa [Kd.dp]using hn);rfl|name ns=>intro n hw hn;obtain⟨x,r,rfl⟩:=G3 hw;obtain⟨k,rfl,e⟩:=bB (c:=0) hn;exact dB (n:=2) (ds:=[(Kd.name (x::r)).toD]) (g:=Ei (Tab k)) (dS (eQ W) (sk W (sk W (rt W (ak W W gj))))) W|pair a b d f=>intro n hw hn;have i:(Kd.pair a b).dp=max a.dp b.dp+1:=rfl;obtain⟨k,rfl,e⟩:=bB (n:=n) (c:=max a.dp b.dp+1) (by assumption);exact dB (n:=2) (ds:=[(Kd.pair a b).toD]) (g:=Ei (Tab k)) (dS (eQ W) (sk W (sk W (sk W (rt W (bc (ae (aE 'x' (d (n:=k) hw.1 'c')) (ae (aE 'x' (f (n:=k) hw.2 'c')) W)))))))) W|row a m d=>intro n hw hn;obtain⟨k,rfl,e⟩:=bB (n:=n) (c:=a.dp) (by simp only[Kd.dp]at hn;lia);rfl
noncomputable def mix(c p m:Int):Int:=c*48271%p%m
theorem e_(d:0<m):0<=mix c p m:=rL _ 'm'
theorem f9(d:0<m):mix c p m<m:=rM _ d
def qU(h: -1000000<=j)(c:j<=1000000):mD i j:=.inr ⟨by lia,by lia⟩
def EW(h: -1000000<=i)(c:i<=1000000):mD i j:=.inl ⟨by grind,by grind⟩
def ej{n:Nat}(hn:1<=n)(d:0<p)(e:0<m):Tab n .fK [.int c,.int p,.int m]=Z (.int (mix c p m)):=by obtain⟨k,rfl,_⟩:=bB hn;exact dB (n:=3) (ds:=[.int c,.int p,.int m]) (g:=MJ (Tab k)) (dH (ak (ak (ak W W (mV (qU (i:=c) (j:=48271) 'b' 'b'))) W (kd d)) W (kd e))) W
def EY{n:Nat}(hn:1<=n)(d:0<=i):∃c,Tab n .fJ [.bI ns,.int i]=Z (.int c):=by
 obtain⟨k,rfl,_⟩:=bB hn;by_cases h:i<(ns.length:Int)
 ·have e:b4 ns i=Z ns[i.toNat]:=by have:=pq (xs:=ns) (i:=i.toNat) (by omega);rwa [jY d]at this
  exact⟨ns[i.toNat],dB (n:=2) (ds:=[.bI ns,.int i]) (g:=Ez (Tab k)) (rt (aN (ak W (aE 'x' W) (wx h))) (ak W W (ZpZ.trans (by rw[e];rfl)))) W⟩
 ·exact⟨0,dB (n:=2) (ds:=[.bI ns,.int i]) (g:=Ez (Tab k)) (sk (aN (ak W (aE 'x' W) (qS h))) W) W⟩
noncomputable def pz:Str:="abcdefghijklmnopqrstuvwxyz"
theorem Zkd:pz.cps.toList=(gd 26).map (97+ ·):=by exact W
theorem M8{i:Int}(c:0<=i)(h:i<26):b4 pz.cps.toList i=Z (97+i.toNat):=by grind[pq,Zkd,jY,G4,List.getElem_range]
def dh(c:Int):List Nat:=(gd (mix c 9887 3).toNat).map λ(k:Nat)=>97+(mix (c+3*(k:Int)) 9941 26).toNat
def atC(c:Int):Int:=mix c 9883 ((dh c).length+1)
def n_(c j:Int):Nat:=97+((mix c 9923 26+9*j)%26).toNat
def l4(c j:Int):List Nat:=(dh c).take (atC c).toNat++n_ c j::(dh c).drop (atC c).toNat
def gF(c j:Int):Str:=⟨(l4 c j).toArray⟩
def M9(c:Int):(dh c).length<=2:=by have d:=e_ (c:=c) (p:=9887) (m:=3) 'b';have e:=f9 (c:=c) (p:=9887) (m:=3) 'b';simp[dh];lia
theorem M_(c:Int):0<=atC c/\(atC c).toNat<=(dh c).length:=by have d:=e_ (c:=c) (p:=9883) (m:=(dh c).length+1) 'o';have e:=f9 (c:=c) (p:=9883) (m:=(dh c).length+1) 'm';unfold atC;lia
theorem Na{i:Int}(c:0<=i)(h:i<26):pw (97+i.toNat)=be:=by simp[pw];lia
theorem Nb(c:Int):∀x∈dh c,pw x=be:=by intro x d;obtain⟨k,_,rfl⟩:=aX.mp d;simp[Na,e_,f9]
def Zp8(c j:Int):pw (n_ c j)=be:=Na (rL _ 'b') (rM _ 'b')
def Zmn(c j:Int):(l4 c j).length=(dh c).length+1:=by grind[M_,l4]
def Zmo(c j:Int):(l4 c j).all pw=be:=by
 rw[hY];intro x d;unfold l4 at d;rcases bU.mp d with h|h;·exact Nb c x (ZxW h)
 ·rcases a6.mp h with rfl|h;·exact Zp8 c j
  grind[Nb,ZxX]
def Nc(c j:Int):iU (.str (gF c j))=be:=by
 have d:=Zmn c j;have e:=M9 c;have f:=Zmo c j;have g:(gF c j).length=(l4 c j).length:=by show(l4 c j).toArray.size=_;exact W
 simp_all[iU,gF,l4]
def Nd(d:0<=i/\i<3)(e:0<=j/\j<3)(h:gF c i=gF c j):i=j:=by
 have f:l4 c i=l4 c j:=by have:=congrArg (λs:Str=>s.cps.toList) h;simpa [gF]using this
 grind[l4,List.append_cancel_left,n_,rN]
theorem zL(x y:Str):(x++y).cps.toList=x.cps.toList++y.cps.toList:=by show(x.cps++y.cps).toList=_;simp
theorem Zp9:("":Str).cps.toList=[]:=by exact W
theorem Nf:∀(cs:List Nat),(xA "" (cs.map λc=>(⟨#[c]⟩:Str))).cps.toList=cs|[]=>rfl|[c]=>rfl|c::d::r=>by have e:=Nf (d::r);show((⟨#[c]⟩:Str)++""++xA "" ((d::r).map λc=>(⟨#[c]⟩:Str))).cps.toList=_;rw[zL,zL,e,Zp9];rfl
theorem ZsC(x:Str)(l:List Nat)(h:x.cps.toList=l):x=⟨l.toArray⟩:=yl (by simpa using h)
theorem ZgJ(cs:List Nat):strsOf (cs.map λc=>D.str ⟨#[c]⟩)=Z (cs.map λc=>(⟨#[c]⟩:Str)):=by induction cs with|nil=>rfl|cons c r d=>simp[strsOf,Cw,d]
theorem Ng:∀(cs:List Nat),((cs.map λc=>(⟨#[c]⟩:Str)).map (·.length)).sum=cs.length|[]=>rfl|c::r=>by rw[bG,bG,List.sum_cons,Ng r,bz];show 1+r.length=_;exact Bg ..
def ZsD{cs:List Nat}(h:cs.length<=1000):CF (.str "") (.lst (cs.map λc=>D.str ⟨#[c]⟩))=Z (.str ⟨cs.toArray⟩):=by
 show(strsOf (cs.map λc=>D.str ⟨#[c]⟩)).bind (λbs=>if(bs.map (·.length)).sum+bs.length*("":Str).length<=1000000 then Z (D.str (xA "" bs))else am)=_;rw[ZgJ,bb,Ng,if_pos];·rw[ZsC _ cs (Nf cs)]
 ·have:("":Str).length=0:=by exact W
  grind
theorem EZ{x y:Str}(h:x.length+y.length<=1000):aP (.str x) (.str y)=Z (.str (x++y)):=by show(if x.length+y.length<=aA then Z (D.str (x++y))else am)=_;rw[if_pos (gK (small h))]
theorem ZsE{l:List Nat}{i:Int}(h:0<=i)(c:i.toNat<=l.length):cc l am (Z i)=l.take i.toNat:=by
 unfold cc;have e:HT.ba l.length l.length (Z i)=i.toNat:=by show(if i<0 then(i+(l.length:Int)).toNat else min i.toNat l.length)=_;rw[if_neg 'c'];lia
 rw[e];simp[HT.ba]
theorem ZsF{l:List Nat}{i:Int}(h:0<=i)(c:i.toNat<=l.length):cc l (Z i) am=l.drop i.toNat:=by
 unfold cc;have e:HT.ba l.length 0 (Z i)=i.toNat:=by show(if i<0 then(i+(l.length:Int)).toNat else min i.toNat l.length)=_;rw[if_neg 'm'];grind
 rw[e];simp[HT.ba];simp[Bh]
def Nh{n:Nat}(hn:2<=n)(c j:Int)(Q:0<=j/\j<=1000000):Tab n .fL [.int c,.int j]=Z (.str (gF c j)):=by
 obtain⟨k,rfl,q⟩:=bB hn;rw[tab];have T:(D.str "abcdefghijklmnopqrstuvwxyz")=.str pz:=rfl;have C:=ej (n:=k) q (c:=c) (p:=9923) (m:=26) 'b' 'b';have E:=ej (n:=k) q (c:=c) (p:=9887) (m:=3) 'b' 'b';have r:ar (.str pz) (.int ((mix c 9923 26+9*j)%26))=Z (.str ⟨#[n_ c j]⟩):=by rw[MS,M8 (rL _ 'b') (rM _ 'b')];rfl
 have H:∀y o2 z,d2 [am,Z 2,Z 0] (dm (ag [aw (Tab k .fK) (ag [aa 0,cC (.int 9887),cC (.int 3)])])) (gN 0) (λ_=>Z be) (ab ar (aa 1) (aw (Tab k .fK) (ag [ab aP (aa 2) (ab iJ 'z' (aa 0)),cC (.int 9941),cC (.int 26)]))) [Z (.int c),Z (.int j),Z (.str pz),y,o2,z] =Z (.lst ((dh c).map λx=>.str ⟨#[x]⟩)):=by
  intro y o2 z;have I:=e_ (c:=c) (p:=9887) (m:=3) 'b';have J:=f9 (c:=c) (p:=9887) (m:=3) 'b';refine iT (ds:=cq 0 (mix c 9887 3).toNat) ?_ ?_ ?_;·exact kZ (aE (ae W 'e') E) 'c' 'c'
  ·simp only[cq,aG,kz];exact small 'c'
  ·have e:(dh c).map (λx=>D.str ⟨#[x]⟩)=(cq 0 (mix c 9887 3).toNat).map (λd=>match d with|.int i=>.str ⟨#[97+(mix (c+3*i) 9941 26).toNat]⟩|_=>.aD):=by unfold cq dh;rw[gX,gX];apply uM;intro i L;simp
   rw[e];refine zK am λd A=>?_;unfold cq at A;obtain⟨i,L,rfl⟩:=aX.mp A;have M:=ej (n:=k) q (c:=c+3*(0+(i:Int))) (p:=9941) (m:=26) 'b' 'b';show ab ar (aa 1) (aw (Tab k .fK) (ag [ab aP (aa 2) (ab iJ 'z' (aa 0)),cC (.int 9941),cC (.int 26)])) [Z (.int (0+(i:Int))),Z (.str pz),Z (.int c)]=_;refine ak W (aE (ae (ak W (ak W W (mV (EW (i:=3) (j:=0+(i:Int)) 'b' 'b'))) W) 'e') M) ?_;rw[MS,M8 (e_ (c:=c+3*(0+(i:Int))) (p:=9941) (m:=26) 'b') (f9 'b')];rfl
 have t:=M9 c;have f:=M_ c;have B:=ej (n:=k) q (c:=c) (p:=9883) (m:=(((dh c).length:Nat):Int)+1) 'b' 'c';have u:=ZsD (cs:=dh c) (fo t);have hlen:((⟨(dh c).toArray⟩:Str).length)=(dh c).length:=by show(dh c).toArray.size=_;exact W
 have v:qr (.str ⟨(dh c).toArray⟩) am (Z (atC c))=Z (.str ⟨((dh c).take (atC c).toNat).toArray⟩):=by show Z (D.str ⟨(cc (dh c) am (Z (atC c))).toArray⟩)=_;rw[ZsE f.1 f.2]
 have w:qr (.str ⟨(dh c).toArray⟩) (Z (atC c)) am=Z (.str ⟨((dh c).drop (atC c).toNat).toArray⟩):=by show Z (D.str ⟨(cc (dh c) (Z (atC c)) am).toArray⟩)=_;rw[ZsF f.1 f.2]
 have l1:((⟨((dh c).take (atC c).toNat).toArray⟩:Str).length)<=2:=by show((dh c).take (atC c).toNat).toArray.size<=2;simp;lia
 have l2:((⟨((dh c).drop (atC c).toNat).toArray⟩:Str).length)<=2:=by show((dh c).drop (atC c).toNat).toArray.size<=2;simp;lia
 have U:((⟨#[n_ c j]⟩:Str).length)=1:=rfl;have N:aP (.str ⟨((dh c).take (atC c).toNat).toArray⟩) (.str ⟨#[n_ c j]⟩)=Z (.str (⟨((dh c).take (atC c).toNat).toArray⟩++⟨#[n_ c j]⟩)):=EZ 'c';have O:aP (.str (⟨((dh c).take (atC c).toNat).toArray⟩++⟨#[n_ c j]⟩)) (.str ⟨((dh c).drop (atC c).toNat).toArray⟩)=Z (.str (gF c j)):=by rw[EZ (by rw[IS];lia)];congr 2;apply yl;rw[zL,zL];exact jX ..
 have h:mix c 9883 (((dh c).length:Nat)+1)=atC c:=rfl;rw[h]at B;refine dB (n:=6) (ds:=[.int c,.int j]) (g:=MK (Tab k)) (dS (eQ (x:=.str pz) W) (dS (eQ (ak W (ak (ak (aE (ae W 'e') C) (ak W W (mV (EW (i:=9) (j:=j) 'b' 'b'))) W) W (kd 'b')) r)) (dS (eQ (x:=.str ⟨(dh c).toArray⟩) ?_) (dS (eQ (aE (ae W (ae W (ae (ak (aE 'x' W) W W) W))) B)) (dH (ak (ak ?_ W N) ?_ O)))))) W
 ·unfold yn;show((Z (D.str "")).bind λs=>(d2 _ _ _ _ _ [Z (.int c),Z (.int j),Z (.str pz),Z (.str ⟨#[n_ c j]⟩),am,am]).bind _)=_;rw[H];exact u
 ·exact v
 ·exact w
theorem Ni:∀{l:List Str},oX l->l.Nodup->eF l=be
 |[],_,_=>rfl|[x],_,_=>rfl|x::y::r,h,hn=>by
  have e:=iw.mp h;have n1:=d8.mp hn;have c:bM y x=bi:=e.1 y bZ;have d:x≠y:=λz=>n1.1 (by rw[z];exact bZ);have:bM x y=be:=by
   rcases sL x y with t|t|t;·exact t
   ·exact absurd t d
   ·rw[t]at c;injection c
  show(bM x y&&eF (y::r))=be;rw[this,Ni e.2 n1.2];rfl
theorem zM:∀c:List Str,strsOf (c.map D.str)=Z c|[]=>rfl|s::c=>by simp[strsOf,Cw,zM c]
def drawn(c:Int)(m:Nat):List Str:=(gd m).map λ(j:Nat)=>gF c (j:Int)
theorem Nj(h:m<=3):(drawn c m).Nodup:=by
 unfold drawn;rw[A_]at*;refine Rq.mpr<|Zy_ ?_ (A_.mp List.nodup_range);intro a b d e f z;have g:a<m:=by simpa using d
 have p:b<m:=by simpa using e
 have:=Nd (c:=c) (i:=(a:Int)) (j:=(b:Int)) ⟨by simp,by lia⟩ ⟨by lia,by lia⟩ z;lia
def Zmp(g:1<=m)(h:m<=3):qT (.tup ((gR (drawn c m)).map .str))=be:=by
 have e:=kN (drawn c m);have i:(gR (drawn c m)).length=m:=by rw[e.length_eq];simp[drawn]
 have hw:((gR (drawn c m)).map D.str).all iU=be:=by rw[hY];intro d f;obtain⟨s,hs,rfl⟩:=aX.mp f;obtain⟨j,_,rfl⟩:=aX.mp (e.mem_iff.mp hs);exact Nc c j
 have hr:eF (gR (drawn c m))=be:=(by grind[Ni,ym,Nj]);grind[qT,aG,zM]
def Zq_{k:Nat}(h:2<=k):∀j o2 q r,d2 [am,Z 0] (dm (ag [ab aP 'a' (aw (Tab k .fK) (ag [aa 0,cC (.int 9931),cC (.int 3)]))])) (gN 0) (λ_=>Z be) (aw (Tab k .fL) (ag [aa 1,aa 0])) [Z (.int c),j,o2,q,r] =Z (.lst ((drawn c (1+mix c 9931 3).toNat).map .str)):=by
 intro j o2 q r;have f:=e_ (c:=c) (p:=9931) (m:=3) 'b';have g:=f9 (c:=c) (p:=9931) (m:=3) 'b';have v:=ej (n:=k) (fu h) (c:=c) (p:=9931) (m:=3) 'b' (by exact ZxY f g);refine iT (ds:=cq 0 (1+mix c 9931 3).toNat) ?_ ?_ ?_;·exact kZ (ak W (aE (ae W 'e') v) W) 'c' 'c'
 ·simp only[cq,aG,kz];exact small 'c'
 ·have e:(drawn c (1+mix c 9931 3).toNat).map D.str=(cq 0 (1+mix c 9931 3).toNat).map (λd=>match d with|.int i=>.str (gF c i)|_=>.aD):=by unfold cq drawn;rw[gX,gX];apply uM;intro i t;simp[Function.comp]
  rw[e];refine zK am λd u=>?_;unfold cq at u;obtain⟨i,t,rfl⟩:=aX.mp u;have w:i<(1+mix c 9931 3).toNat:=by simpa using t
  show aw (Tab k .fL) (ag [aa 1,aa 0]) [Z (.int (0+(i:Int))),Z (.int c)]=_;exact aE 'e' (Nh h c (0+(i:Int)) ⟨by simp,by grind⟩)
def Zqa(c:Int):CD [.lst ((drawn c (1+mix c 9931 3).toNat).map .str)]=Z (.lst ((gR (drawn c (1+mix c 9931 3).toNat)).map .str)):=by have d:=e_ (c:=c) (p:=9931) (m:=3) 'b';have e:=f9 (c:=c) (p:=9931) (m:=3) 'b';show(if((drawn c (1+mix c 9931 3).toNat).map D.str).length<64 then(strsOf ((drawn c (1+mix c 9931 3).toNat).map D.str)).map (λbs=>D.lst ((gR bs).map .str))else am)=_;rw[if_pos (by simp[drawn];lia),zM];rfl
def Kd.pE:Kd->Prop|.none=>True|.num lo c=> -100<=lo/\c<=100|.name ns=>ns.length<=3|.pair a b=>a.pE/\b.pE|.row a _=>a.pE
def Nk{k:Nat}(f:3<=k)(c d:Int)(h:mix c 9973 8<6\/d=0):∃K:Kd,Tab (k+1) .fM [.int c,.int d]=Z K.toD/\K.WF/\K.dp=0/\K.pE:=by
 have e:=ej (n:=k) (fu f) (c:=c) (p:=9973) (m:=8) 'b' 'b';generalize mix c 9973 8=t at e h;by_cases i:t<2;·refine⟨.none,?_,trivial,W,trivial⟩;exact dB (n:=5) (ds:=[.int c,.int d]) (g:=tQ (Tab k)) (dS (eQ (aE (ae W 'e') e)) (rt (Zn_ (aN (ak W W (wx i)))) W)) W
 ·by_cases u:t<6
  ·have j:oT (cB (ab j9 (aa 2) 'l')) (iI (cB (ab (bg 64) (aa 1) 'h')) (cB (ab iL (aa 2) (cC (.int 5))))) [Z (.int c),Z (.int d),Z (.int t),am,am]=Z bi:=zH (aN (ak W W (qS i))) ((MV 'C' (aN (ak W W (Zo_ 'c')))).trans (by rw[QK]));by_cases q:t<4;·have r:=ej (n:=k) (fu f) (c:=c) (p:=9967) (m:=21) 'b' 'b';have v:=ej (n:=k) (fu f) (c:=c) (p:=9949) (m:=12) 'b' 'b';have x:=e_ (c:=c) (p:=9967) (m:=21) 'b';have y:=f9 (c:=c) (p:=9967) (m:=21) 'b';have z:=e_ (c:=c) (p:=9949) (m:=12) 'b';have A:=f9 (c:=c) (p:=9949) (m:=12) 'b';refine⟨.num (mix c 9967 21-10) (mix c 9967 21-10+mix c 9949 12),?_,⟨by lia,by lia,by lia⟩,W,⟨by lia,by lia⟩⟩;exact dB (n:=5) (ds:=[.int c,.int d]) (g:=tQ (Tab k)) (dS (eQ (aE (ae W 'e') e)) (sk j (rt2 (aN (ak W W (wx q))) (dS (eQ (ak (aE (ae W 'e') r) W W)) (dH (bc (ae W (ae W (ae (ak W (aE (ae W 'e') v) W) W))))))))) W
   ·have B:=e_ (c:=c) (p:=9931) (m:=3) 'b';have r:=f9 (c:=c) (p:=9931) (m:=3) 'b';refine⟨.name (gR (drawn c (1+mix c 9931 3).toNat)),?_,Zmp 'c' 'c',W,by show(gR (drawn c (1+mix c 9931 3).toNat)).length<=3;rw[(kN _).length_eq];simp[drawn];lia⟩;exact dB (n:=5) (ds:=[.int c,.int d]) (g:=tQ (Tab k)) (dS (eQ (aE (ae W 'e') e)) (sk j (sk (aN (ak W W (qS q))) (rt (aN (ak W W (wx u))) (bc (ae W (ae (aE (ae (aE (ae (Zq_ (k:=k) (fu f) (c:=c) _ _ _ _) W) (Zqa c)) W) W) W))))))) W
  ·have w:d=0:=by rcases h with h|h<;>lia
   subst w;refine⟨.none,?_,trivial,W,trivial⟩;exact dB (n:=5) (ds:=[.int c,.int 0]) (g:=tQ (Tab k)) (dS (eQ (aE (ae W 'e') e)) (rt (zH (aN (ak W W (qS i))) (zG (aN W) (aN (ak W W (MZ 'c'))))) W)) W
def Zqb{k:Nat}(u:3<=k)(c e:Int)(h:¬mix c 9973 8<6)(A:e≠0){f r:Kd}(B:Tab k .fM [.int (c*3+1),.int (e-1)]=Z f.toD)(C:Tab k .fM [.int (c*5+2),.int (e-1)]=Z r.toD) (v:f.WF) (E:r.WF) (w:f.pE) (H:r.pE) (d1:f.dp<=d) (J:r.dp<=d):∃K:Kd,Tab (k+1) .fM [.int c,.int e]=Z K.toD/\K.WF/\K.dp<=d+1/\K.pE:=by
 have y:=ej (n:=k) (fu u) (c:=c) (p:=9973) (m:=8) 'b' 'b';generalize mix c 9973 8=t at y h;have go:∀{x:D},(a7 (bD (cB (ab (bg 64) (aa 2) (cC (.int 6)))) (a_ (aH (ag [cC (.str "pair"),aa 4,aw (Tab k .fM) (ag [ab aP (ab iJ (aa 0) (cC (.int 5))) 'l',ab iz (aa 1) 'a'])]))) (b5)) (a_ (aH (ag [cC (.str "row"),aa 4,aw (Tab k .fK) (ag [aa 0,cC (.int 9929),cC (.int 5)])])))) [Z (.int c),Z (.int e),Z (.int t),am,Z f.toD]=Z (.ret x)->Tab (k+1) .fM [.int c,.int e]=Z x:=λ{x} q=>dB (n:=5) (ds:=[.int c,.int e]) (g:=tQ (Tab k)) (dS (eQ (aE (ae W 'e') y)) (sk (zH (aN (ak W W (qS 'c'))) (EI (aN (ak W W (zJ A))))) (sk (aN (ak W W (qS 'c'))) (sk (aN (ak W W (qS h))) (dS (eQ (aE (ae (ak (ak W W (mV (qU (i:=c) (j:=3) 'b' 'b'))) W W) 'x') B)) q))))) W;by_cases z:t=6;·refine⟨.pair f r,?_,⟨v,E⟩,by simp only[Kd.dp];lia,⟨w,H⟩⟩;exact go (rt (aN (ak W W (M0 z))) (bc (ae W (ae W (ae (aE (ae (ak (ak W W (mV (qU (i:=c) (j:=5) 'b' 'b'))) W W) 'x') C) W)))))
 ·have I:=e_ (c:=c) (p:=9929) (m:=5) 'b';have L:=f9 (c:=c) (p:=9929) (m:=5) 'b';refine⟨.row f (mix c 9929 5),?_,⟨I,by lia,v⟩,by simp only[Kd.dp];lia,w⟩;exact go (sk (aN (ak W W (zJ z))) (dH (bc (ae W (ae W (ae (aE (ae W 'e') (ej (n:=k) (fu u) (c:=c) (p:=9929) (m:=5) 'b' 'b')) W))))))
def Zmq:∀(d:Nat){n:Nat}(c:Int),d+4<=n->∃K:Kd,Tab n .fM [.int c,.int (d:Int)]=Z K.toD/\K.WF/\K.dp<=d/\K.pE:=by intro d;induction d with|zero=>intro n c hn;obtain⟨k,rfl,f⟩:=bB (c:=3) hn;exact bh (Nk f c 0 (.inr W)) λK g h i j=>⟨K,g,h,by exact uw i,j⟩|succ d m=>
  intro n c hn;obtain⟨k,rfl,f⟩:=bB (c:=d+4) (by omega);by_cases p:mix c 9973 8<6;·refine bh (Nk (k:=k) (fu f) c ((d+1:Nat):Int) (.inl p)) λK g h i j=>?_;grind
  ·refine bh (m (n:=k) (c*3+1) f) λz q t u v=>bh (m (n:=k) (c*5+2) f) λA r w x y=>?_;have e:(((d+1:Nat):Int)-1)=(d:Int):=by simp
   rw[<-e]at q r;exact Zqb (fu f) c _ p (by exact nofun) q r t w v y u x
def Zqc(d:Nat){n:Nat}(c:Int)(hn:d+4<=n):∃K:Kd,Tab n .fM [.int c,.int (d:Int)]=Z K.toD/\K.WF/\K.dp<=d:=bh (Zmq d c hn) λK e f g _=>⟨K,e,f,g⟩
def F7:D:=.tup (("abcdefg":Str).cps.toList.map λc=>.str (sgn c))
theorem n1:qT (.tup [])=bi:=by exact W
def n2:qT (.tup [.str "b",.str "a"])=bi:=by exact W
def n3:qT (.tup [.str "a",.str "a"])=bi:=by exact W
theorem iV(h:g c=Z (.aF ρ')):a7 g u c=u ρ':=by simp[a7,h]
theorem qV{c:ai}(h:f c=Z d):et i f c=Z (.aF (c.set i (Z d))):=by simp[et,h]
theorem oe(h:t c=Z bi):bD t g u c=u c:=by simp[bD,h]
theorem B5:lM .aD .aD=be:=rfl
noncomputable def pT:Nat->D->Bool|n+1,.tup xs=>xs.all (pT n)|_+1,.int _=>be|_+1,.str _=>be|_+1,.aD=>be|_,_=>bi
def E2(x:Option Bool)(p:Prop):Prop:=∃b,x=Z b/\(b=be↔p)
def tU:∀(k:Nat)(x y:D),pT k x=be->pT k y=be->E2 (cY k x y) (x=y):=by intro k;induction k with|zero=>intro x y d e;injection d|succ k j=>
  have lst:∀xs ys:List D,(∀x∈xs,pT k x=be)->(∀y∈ys,pT k y=be)->∃c,iM k xs ys=Z c/\((c&&xs.length==ys.length)=be↔xs=ys):=by intro xs;induction xs with|nil=>intro ys _ _;cases ys<;>exact⟨be,W,by simp⟩|cons x xs f=>intro ys d e;cases ys with|nil=>exact⟨be,W,by simp⟩|cons y ys=>obtain⟨b,m,p⟩:=j x y (d x (.head _)) (e y (.head _));obtain⟨c,g,i⟩:=f ys (λz hz=>d z (.tail _ hz)) λz hz=>e z (.tail _ hz);refine⟨b&&c,by rw[iM,m,g];rfl,?_⟩;rw[bz,bz,ZxZ,show(xs.length+1==ys.length+1)=(xs.length==ys.length) by simp,cV,p,i,List.cons.injEq]
  intro x y d e;by_cases h:(jL x&&jL y)=be;·rw[cV]at h;obtain⟨xs,rfl⟩:=sr h.1;obtain⟨ys,rfl⟩:=sr h.2;obtain⟨c,g,i⟩:=lst xs ys (hY.mp d) (hY.mp e);exact⟨_,by show(iM k xs ys).map _=_;rw[g];rfl,by rw[i,D.tup.injEq]⟩
  ·refine⟨h_ x y,?_,?_⟩;·rw[IW (k+1) _ _ (pW.mpr h)];cases x<;>first|exact absurd d dg|(cases y<;>first|rfl|exact absurd e dg)
   ·cases x<;>first|exact absurd d dg|(cases y<;>first|exact absurd e dg|exact absurd W h|exact⟨λh=>absurd h dg,λh=>D.noConfusion h⟩|exact⟨λh=>congrArg _ (eq_of_beq h),λh=>by injection h with h;rw[h];exact beq_self_eq_true _⟩|exact⟨λ_=>rfl,λ_=>rfl⟩)
def Zqd(h:pT 64 d=be):eU 64 d d=Z (.bl bi):=by obtain⟨b,e,q⟩:=tU 64 d d h h;show(cY 64 d d).map _=_;rw[e,q.mpr W];rfl
def zN:∀(a:Kd){n:Nat},a.dp+3<=n->pT n a.toD=be:=by intro a;induction a with|none=>intro n h;obtain⟨n,rfl⟩:∃k,n=k+3:=⟨n-3,by lia⟩;exact W|num lo e=>intro n h;obtain⟨n,rfl⟩:∃k,n=k+3:=⟨n-3,by grind⟩;exact W|name ns=>intro n h;obtain⟨n,rfl⟩:∃k,n=k+3:=⟨n-3,by lia⟩;simp[Kd.toD,pT]|pair a b c d=>intro n h;obtain⟨n,rfl⟩:∃k,n=k+3:=⟨n-3,by lia⟩;have h':max a.dp b.dp+1+3<=n+3:=h;have:=c (n:=n+2) 'c';have:=d (n:=n+2) 'c';simp_all[Kd.toD,pT]|row a m c=>intro n h;obtain⟨n,rfl⟩:∃k,n=k+3:=⟨n-3,by lia⟩;have h':a.dp+1+3<=n+3:=h;have:=c (n:=n+2) 'c';simp_all[Kd.toD,pT]
def mod2(c:Int):c%2=0\/c%2=1:=by grind
theorem zO{xs ys:List D}(h:xs≠[])(c:xs.length+ys.length<=1000):aP (.tup xs) (.tup ys)=Z (.tup (xs++ys)):=by show(if(!xs.isEmpty)=be/\xs.length+ys.length<=aA then Z (D.tup (xs++ys))else am)=_;rw[if_pos ⟨by cases xs<;>first|rfl|exact absurd W h,gK (small c)⟩]
def both(a b:Kd)(v:D):Bool:=fits a v&&fits b v
theorem tV:∀{l:List Str},eF l=be->l.Pairwise λa b=>bM a b=be
 |[],_=>QM|[x],_=>GA _ _|x::y::r,h=>by
  have h':(bM x y&&eF (y::r))=be:=h;rw[cV]at h';have c:=tV h'.2;refine iw.mpr ⟨λz hz=>?_,c⟩;rcases a6.mp hz with rfl|hz;·exact h'.1
  ·exact oW h'.1 ((iw.mp c).1 z hz)
theorem Nl:∀{l:List Str},(l.Pairwise λa b=>bM a b=be)->eF l=be|[],_=>rfl|[x],_=>rfl|x::y::r,h=>by have h':=iw.mp h;show(bM x y&&eF (y::r))=be;rw[h'.1 y bZ,Nl h'.2];rfl
def E3(h:bM x y=be):x≠y:=λe=>by subst e;rw[Jy]at h;injection h
def zP{l:List Str}(h:eF l=be):l.Nodup:=by rw[A_];exact(tV h).imp λh=>E3 h
open PySem.Builtin.Int (intBits)
def Nm(c:0<=i)(h:i<=2000001):intBits i<=21:=intBits_le_iff.mpr (by
 have:(2:Nat)^21=2097152:=by simp
 lia)
def Zms{n:Nat}(c:intBits i<=m)(d:intBits j<=n)(h:m+n<=134217728):sW (.int i) (.int j)=Z (.int (i*j)):=by have e:ur i j:=Zza c d h;show(if ur i j then Z (D.int (i*j))else am)=_;rw[if_pos e]
theorem E4{xs ys:List D}(c:xs.length+ys.length<=1000):jO (.tup xs) (.tup ys)=Z (.tup (xs++ys)):=by cases xs with|nil=>rfl|cons x r=>show aP (.tup (x::r)) (.tup ys)=_;exact zO (Bf _ _) c
abbrev Ch:=Str×Kd×Int
noncomputable def cg(c:Ch):D:=.tup [.str c.1,c.2.1.toD,.int c.2.2]
inductive Pl where|fin|say (a b:Int) (cs:List Ch)
def Pl.toD:Pl->D|.fin=>.tup [.str "end"]|.say a b cs=>.tup [.str "say",.int a,.int b,.tup (cs.map cg)]
def tW(N:Int)(c:Ch):Prop:=iU (.str c.1)=be/\c.2.1.WF/\c.2.1.dp<=2/\0<=c.2.2/\c.2.2<N
def Pl.OK(m N:Int):Pl->Prop|.fin=>True|.say a b cs=>0<=a/\a<m/\0<=b/\b<m/\a≠b/\1<=cs.length/\cs.length<=5/\(∀c∈cs,tW N c)/\eF (cs.map (·.1))=be
def Pl.O2(m N:Int):Pl->Prop|.fin=>True|.say a b cs=>0<=a/\a<m/\0<=b/\b<m/\a≠b/\1<=cs.length/\cs.length<=5/\(∀c∈cs,tW N c)/\(cs.map (·.1)).Nodup
theorem Pl.OK.o2:∀{p:Pl},p.OK m N->p.O2 m N|.fin,_=>trivial|.say _ _ _,⟨a,b,c,d,e,f,g,h,i⟩=>⟨a,b,c,d,e,f,g,h,zP i⟩
def aT(m:Int)(ps:List Pl):D:=.tup [.int m,.tup (ps.map Pl.toD)]
noncomputable def Pl.bK:Pl->List Ch|.fin=>[]|.say _ _ cs=>cs
def Nn(p:Pl):bg 64 p.toD jR=Z (.bl (match p with|.fin=>be|.say _ _ _=>bi)):=by cases p<;>rfl
def jS{e:Type}{a b c d:e}{l:List e}:b4 (a::b::c::d::l) 3=Z d:=by simp[b4,g9];rw[if_pos 'm'];rfl
def Np{n:Nat}(hn:1<=n)(p:Pl):Tab n .ff [p.toD]=Z (.tup (p.bK.map cg)):=by obtain⟨k,rfl,e⟩:=bB (c:=0) hn;have d:=Nn p;cases p with|fin=>exact dB (n:=1) (ds:=[Pl.fin.toD]) (g:=Ej (Tab k)) (rt (aN (ak W W d)) W) W|say a b cs=>exact dB (n:=1) (ds:=[(Pl.say a b cs).toD]) (g:=Ej (Tab k)) (sk (aN (ak W W d)) (dH (ak W W jS))) W
def ZuP{ps:List Pl}{i:Int}{p:Pl}(d:0<=i)(h:ps[i.toNat]?=Z p):b4 (ps.map Pl.toD) i=Z p.toD:=by
 have c:i.toNat<ps.length:=(bt.mp h).1;have:=pq (xs:=ps.map Pl.toD) (i:=i.toNat) (by rw[aG];exact c);rw[jY d]at this;rw[this];rw[cF c]at h
 exists h;simp
def gG(m:Int)(ps:List Pl):Prop:=2<=m/\m<=4/\1<=ps.length/\ps.length<=60/\∀p∈ps,p.OK m ps.length
def G2(m:Int)(ps:List Pl):Prop:=2<=m/\m<=4/\1<=ps.length/\ps.length<=130/\∀p∈ps,p.O2 m ps.length
def pF(h:gG m ps):G2 m ps:=⟨h.1,h.2.1,h.2.2.1,c3 h.2.2.2.1 (by exact gW ..),λp c=>(h.2.2.2.2 p c).o2⟩
noncomputable def aC(ps:List Pl)(i:Int):Pl:=(ps[i.toNat]?).getD .fin
def og{ps:List Pl}(h:G2 m ps)(i:Int):(aC ps i).O2 m ps.length:=by unfold aC;cases e:ps[i.toNat]? with|none=>trivial|some p=>exact h.2.2.2.2 p (cu e)
def E5{ps:List Pl}{i:Int}(c:0<=i)(h:i<ps.length):ps[i.toNat]?=Z (aC ps i):=by unfold aC;rw[cF 'c'];rfl
def kf{m i:Int}{ps:List Pl}(c:0<=i)(h:i<ps.length):b4 (ps.map Pl.toD) i=Z (aC ps i).toD:=ZuP c (E5 c h)
abbrev Sd:=Str×Kd
noncomputable def dC(x:Sd):D:=.tup [.str x.1,x.2.toD]
def oh(x:Sd):Prop:=iU (.str x.1)=be/\x.2.WF/\x.2.dp<=2
def E6{n:Nat}(hn:7<=n)(c j:Int)(f:0<=j/\j<=1000000):∃K:Kd,Tab n .fN [.int c,.int j]=Z (dC (gF c j,K))/\oh (gF c j,K):=by refine ax (bB (c:=6) hn) λk d h=>?_;subst d;refine aJ (Zqc 2 (n:=k) (c*11+j) (by omega)) λK m p q=>?_;have e:Tab k .fM [.int (c*11+j),.int 2]=Z K.toD:=m;have hw:=Nh (n:=k) (fu h) c j f;refine⟨K,?_,Nc c j,p,by omega⟩;exact dB (n:=2) (ds:=[.int c,.int j]) (g:=ML (Tab k)) (dH (bc (ae (aE 'e' hw) (ae (aE (ae (ak (ak W W (mV (qU (i:=c) (j:=11) 'b' 'b'))) W W) 'x') e) W)))) W
theorem Nq:∀ws:List Sd,qz (ws.map dC)=Z (ws.map (·.1))|[]=>rfl|x::ws=>by simp[qz,Nq ws,dC,KY]
theorem zQ{d:Type}{n:Nat}(h:∀i j,i<n->j<n->i≠j->lt i j=lt' i j):∀(t:rH d),mM n t=be->jP lt t=jP lt' t
 |.ret a,_=>rfl|.ask i j k,c=>by
  simp only[mM,cV,decide_eq_true_eq]at c;obtain⟨⟨⟨⟨e,f⟩,g⟩,m⟩,p⟩:=c;simp only[jP,h i j e f g];cases lt' i j;·exact zQ h _ p
  ·exact zQ h _ m
noncomputable def zR(a b c:Bool):Nat->Nat->Bool|0,1=>a|1,0=>!a|0,2=>b|2,0=>!b|1,2=>c|2,1=>!c|_,_=>bi
def Zr_:∀a:Bool,(jP (zR a bi bi) (jF 2)).toList=bif a then [0,1]else [1,0]:=by decide+kernel
theorem Zs_:∀a b c:Bool,(a&&c&&!b)=bi->(!a&&!c&&b)=bi->(jP (zR a b c) (jF 3)).toList=bif a then bif b then bif c then [0,1,2]else [0,2,1]else [2,0,1]else bif b then [1,0,2]else bif c then [1,2,0]else [2,1,0]:=by decide+kernel
theorem qW(h:x≠y):bM y x=!bM x y:=by grind[sL,CB,absurd]
def Nr{ws:List Sd}(B:ws.length<=3)(hn:(ws.map (·.1)).Nodup):∃f:List Sd,nQ [.lst (ws.map dC)]=Z (.lst (f.map dC))/\f.length=ws.length/\(∀x∈f,x∈ws)/\eF (f.map (·.1))=be:=by
 have m:nQ [.lst (ws.map dC)]=Z (.lst (iO .aD (kc (ws.map (·.1))) (ws.map dC))):=by show(qz (ws.map dC)).bind (λks=>if(ws.map dC).length<=4/\ks.Nodup then Z (D.lst (iO .aD (kc ks) (ws.map dC)))else am)=_;rw[Nq,bb,if_pos ⟨by rw[aG];exact A7 B,hn⟩]
 rcases ws with _|⟨x,_|⟨y,_|⟨z,_|⟨u,r⟩⟩⟩⟩;·exact⟨[],m,W,λx p=>p,W⟩
 ·exact⟨[x],m,W,λx p=>p,W⟩
 ·have e:x.1≠y.1:=by simpa using hn
  have d:nQ [.lst [dC x,dC y]]=Z (.lst ((jP (kc [x.1,y.1]) (jF 2)).toList.map λi=>[dC x,dC y].getD i .aD)):=m;rw[zQ (n:=2) (lt':=zR (bM x.1 y.1) bi bi) (λi j C E q=>by
   rcases(show i=0/\j=1\/i=1/\j=0 by lia)with⟨rfl,rfl⟩|⟨rfl,rfl⟩;·rfl
   ·exact qW e) _ KQ,Zr_]at d;have g:=qW e;cases a:bM x.1 y.1<;>rw[a]at d g;·exact⟨[y,x],d,W,by simp,by simp[eF,g]⟩
  ·exact⟨[x,y],d,W,by simp,by simp[eF,a]⟩
 ·simp at hn;obtain⟨⟨e,t⟩,h⟩:=hn;have v:(bM x.1 y.1&&bM y.1 z.1&&!bM x.1 z.1)=bi:=by cases a:bM x.1 y.1<;>cases b:bM y.1 z.1<;>first|rfl|grind[oW]
  have w:(!bM x.1 y.1&&!bM y.1 z.1&&bM x.1 z.1)=bi:=by rw[<-qW e,<-qW h];cases a:bM y.1 x.1<;>cases b:bM z.1 y.1<;>first|rfl|grind[CB,oW]
  have g:=qW e;have o2:=qW t;have A:=qW h;have d:nQ [.lst [dC x,dC y,dC z]]=Z (.lst ((jP (kc [x.1,y.1,z.1]) (jF 3)).toList.map λi=>[dC x,dC y,dC z].getD i .aD)):=m;rw[zQ (n:=3) (lt':=zR (bM x.1 y.1) (bM x.1 z.1) (bM y.1 z.1)) (λi j C E q=>by rcases(show i=0/\(j=1\/j=2)\/i=1/\(j=0\/j=2)\/i=2/\(j=0\/j=1) by lia)with⟨rfl,rfl|rfl⟩|⟨rfl,rfl|rfl⟩|⟨rfl,rfl|rfl⟩<;>first|rfl|assumption) _ KR,Zs_ _ _ _ v w]at d;cases a:bM x.1 y.1<;>cases b:bM x.1 z.1<;>cases c:bM y.1 z.1<;>rw[a,b,c]at d v w<;>rw[a]at g<;>rw[b]at o2<;>rw[c]at A
  ·exact⟨[z,y,x],d,W,by simp[or_comm,or_assoc],by simp[eF,g,A]⟩
  ·exact⟨[y,z,x],d,W,by simp[or_comm,or_left_comm],by simp[eF,c,o2]⟩
  ·injection w
  ·exact⟨[y,x,z],d,W,by simp[or_left_comm],by simp[eF,g,b]⟩
  ·exact⟨[z,x,y],d,W,by simp[or_comm,or_left_comm],by simp[eF,o2,a]⟩
  ·injection v
  ·exact⟨[x,z,y],d,W,by simp[or_comm,or_left_comm],by simp[eF,b,A]⟩
  ·exact⟨[x,y,z],d,W,by simp,by simp[eF,a,c]⟩
 ·simp at B
theorem Nt{k:Nat}(d:7<=k){c:Int}:∀(m:Nat)(a:Nat)(o:Option D),a+m<=3->∃ws:List Sd,cn (gN 0) (λ_=>Z be) (aw (Tab k .fN) (ag [aa 1,aa 0])) [o,Z (.int c)] ((oI a m).map λ(i:Nat)=>D.int (i:Int))=Z (ws.map dC)/\ws.map (·.1)=(oI a m).map (λ(i:Nat)=>gF c (i:Int))/\∀x∈ws,oh x
 |0,a,o,_=>⟨[],W,W,λx e=>by cases e⟩|m+1,a,o,h=>by
  refine ax (E6 (n:=k) d c (a:Int) ⟨by lia,by lia⟩) λK f j=>aJ (Nt d (c:=c) m (a+1) (Z (.int (a:Int))) 'c') λws g p q=>⟨(gF c (a:Int),K)::ws,?_,?_,λx e=>?_⟩;·rw[xE,bG,bG];exact jr (ρ':=[_,_]) W W (aE 'e' f) g
  ·simp_all[xE,bG]
  grind
def ZgK(h:m<=3):((oI 0 m).map (λ(i:Nat)=>gF c (i:Int))).Nodup:=by have:=Nj (c:=c) h;simp_all[drawn,xF]
def Ev{c:Type}(x:Option c)(Q:c->Prop):Prop:=∃a,x=Z a/\Q a
section
variable {i n:Nat}{fa:Zaf}{t:Zae}{p q:Zal}{r r':aj}{x:D}{ds:List D}{b:Bool}{Q:aK->Prop}{fo fi:Zaj}{lo:aj->Option (List D)}{gi:Zag}{gt:Zak}{gb:Zal}
def kS(q:Zal)(Q:aK->Prop):aK->Prop|.aF r=>Ev (q r) Q|o=>Q o
def bx(h:Ev (p r) (kS q Q)):Ev (aI p q r) Q:=by obtain⟨o,h,k⟩:=h;cases o<;>simp only[Ev,aI,h,bb]<;>first|exact k|exact⟨_,W,k⟩
def bo(h:Ev (q r) Q):kS q Q (.aF r):=h
def Nu(h:Q (.ret x)):kS q Q (.ret x):=h
def f_(h:fo r=Z x)(k:Q (.aF (r.set i (nr x)))):Ev (bE i fo r) Q:=⟨_,iE h,k⟩
def mX(h:lo r=Z ds)(k:Q (.aF (r.set i (Z (.own ds))))):Ev (eE i lo r) Q:=⟨_,MW h,k⟩
def wz(c:iC i r=Z ds)(d:fo r=Z x)(e:ds.length<aA)(k:Q (.aF (r.set i (Z (.own (ds++[x])))))):Ev (gw i fo r) Q:=⟨_,EJ c d e,k⟩
def pG(h:fa (fz r)=Z x)(k:Q (.ret x)):Ev (eW fa r) Q:=⟨_,EK h,k⟩
def gU(k:Q (.aF r)):Ev (cZ r) Q:=⟨_,W,k⟩
def eG(h:t (fz r)=Z b)(k:Ev (bif b then p r else q r) Q):Ev (cK t p q r) Q:=by cases b<;>simpa [Ev,cK,h]using k
def js(h:b=be)(k:Ev (p r) Q):Ev (bif b then p r else q r) Q:=by subst h;exact k
def hE(h:b=bi)(k:Ev (q r) Q):Ev (bif b then p r else q r) Q:=by subst h;exact k
def kL(I:aj->Prop)(Q:aK->Prop):aK->Prop|.aF r=>I r|.cnt r=>I r|.brk r=>Q (.aF r)|.ret d=>Q (.ret d)
def iF(h:I r):kL I Q (.aF r):=h
def l_r(h:Q (.ret x)):kL I Q (.ret x):=h
def Nv(k:Q (.aF r)):Ev (c9 gt gb [] r) Q:=⟨_,W,k⟩
def Nw(h:gt x r=Z r')(k:Ev (gb r') (kL (λr=>Ev (c9 gt gb ds r) Q) Q)):Ev (c9 gt gb (x::ds) r) Q:=by obtain⟨o,c,k⟩:=k;cases o<;>simp only[Ev,c9,h,c,bb]<;>first|exact k|exact⟨_,W,k⟩
theorem Nx(I:Nat->aj->Prop):∀(ds:List D)(a:Nat)(r:aj),I a r->(∀i d r,ds[i]?=Z d->I (a+i) r->∃c,gt d r=Z c/\Ev (gb c) (kL (I (a+i+1)) Q))->(∀r,I (a+ds.length) r->Q (.aF r))->Ev (c9 gt gb ds r) Q|[],_,_,h,_,f=>Nv (f _ h)|d::ds,a,r,h,s,f=>by refine ax (s 0 d r W h) λc e z=>ax z λo g k=>Nw e ⟨o,g,?_⟩;have:=λr (h:I (a+1) r)=>Nx I ds (a+1) r h (λi d r e h=>by have:=s (i+1) d r e (by rwa [G5,xp]at h);rwa [<-xp,G5 a i 1]at this) (λr h=>f r (by rwa [G5]at h));cases o<;>first|exact this _ k|exact k
def l6(I:aj->Nat->aj->Prop)(h:I r 0 r)(s:∀i d c,ds[i]?=Z d->I r i c->∃g,gt d c=Z g/\Ev (gb g) (kL (I r (i+1)) Q))(f:∀c,I r ds.length c->Q (.aF c)):Ev (c9 gt gb ds r) Q:=Nx (I r) ds 0 r h (λi d c e k=>by rw[oH]at k⊢;exact s i d c e k) (λc k=>f c (by rwa [oH]at k))
def oi(h:gi (pv r)=Z ds)(k:Ev (c9 gt gb ds r) Q):Ev (eX gi gt gb r) Q:=by simpa [Ev,eX,h]using k
theorem Ev.imp{c:Type}{x:Option c}{P R:c->Prop}(h:Ev x P)(k:∀a,P a->R a):Ev x R:=ax h λa e p=>⟨a,e,k a p⟩
theorem Ev.eq{c:Type}{x:Option c}{v:c}(h:Ev x (· =v)):x=Z v:=ax h λ_ e k=>k▸e
def Ny(h:fo r=Z x)(c:g x r=Z r')(k:Q (.aF r')):Ev (lS fo g r) Q:=⟨_,by simp[lS,h,c],k⟩
def Nz(h:Ev (lo r) λds=>Q (.aF (r.set i (Z (.own ds))))):Ev (eE i lo r) Q:=ax h λ_ e k=>mX e k
def ZsI(c:iC i r=Z ds)(d:ds.length<aA)(h:Ev (fo r) λx=>Q (.aF (r.set i (Z (.own (ds++[x])))))):Ev (gw i fo r) Q:=ax h λ_ e k=>wz c e d k
theorem Zt_(h:Ev (fa (fz r)) λx=>b9 x=be/\P x):Ev (vZ fa r) P:=aJ h λ_ e n k=>⟨_,mW e n,k⟩
theorem NA(h:Ev (gs (fz r)) λx=>cf x=be/\P x):Ev (lZ gs r) P:=aJ h λ_ e n k=>⟨_,zI e n,k⟩
def NB(g:fa f=Z (.lst ds))(h:Ev (j f) λd=>∃ys,d=.lst ys/\ds.length+ys.length<=1000/\P (ds++ys)):Ev (yE fa j f) P:=by refine ax h λ_ e z=>aJ z λys c l k=>?_;subst c;refine⟨_,?_,k⟩;simp only[yE,g,e,bb,C7];rw[if_pos (gK (small l))]
def E7(h:gs c=Z ds)(k:Ev (F ds) P):Ev (aw F gs c) P:=ax k λ_ e k=>⟨_,aE h e,k⟩
def Zu_(c:fo r=Z x)(d:fi r=Z (.int j))(e:iC i r=Z ds)(f:g9 ds.length j=Z m)(k:Q (.aF (r.set i (Z (.own (ds.set m x)))))):Ev (yK i fi fo r) Q:=⟨_,by simp[yK,c,d,e,f],k⟩
def kR(P:D->Prop):aK->Prop|.ret d=>P d|.aF _=>P .aD|_=>False
def mY(h:P x):kR P (.ret x):=h
def l8(h:Ev (gb (mK n ds)) (kR P))(c:ds.length=np:=by rfl):Ev (eY np n gb ds) P:=by obtain⟨o,h,k⟩:=h;unfold eY;rw[if_pos c,h];cases o<;>first|exact⟨_,W,k⟩|exact k.elim
end
def Zvl(h:d c=Z (.int i))(h':e c=Z (.int j))(f: -1000000<=i)(g:i<=1000000)(m: -1000000<=j)(p:j<=1000000):dm (ag [d,e]) c=Z (cq i (j-i).toNat):=by unfold dm;rw[ae h (ae h' W),Zp2 f g m p]
def qX{ds:List D}(d:e c=Z ds)(f:ds.length<aA)(g:cn h i fe (nJ cap c) ds=Z out):ez cap e h i fe c=Z out:=by unfold ez;rw[d,bb,if_pos f,g]
theorem NC(lo:Int)(k:Nat):cq lo (k+1)=.int lo::cq (lo+1) k:=by unfold cq;rw[QS,bG,gX,show lo+((0:Nat):Int)=lo by simp];congr 1;apply uM;intro i _;show D.int (lo+((i+1:Nat):Int))=.int (lo+1+(i:Int));congr 1;lia
section
variable {gt:Zah}{fc:Zae}{fe:Zaf}{ρ:ai}{out:List D}{lo:Int}{n k:Nat}{go:Zak}{gb:Zal}{r:aj}{Q:aK->Prop}
def Zvm(h:n=k+1)(c:cn gt fc fe ρ (.int lo::cq (lo+1) k)=Z out):cn gt fc fe ρ (cq lo n)=Z out:=by rw[h,NC];exact c
def Zvn(h:n=0)(k:Q (.aF r)):Ev (c9 go gb (cq lo n) r) Q:=by subst h;exact Nv k
def Zvo(h:n=k+1)(c:Ev (c9 go gb (.int lo::cq (lo+1) k) r) Q):Ev (c9 go gb (cq lo n) r) Q:=by rw[h,NC];exact c
end
def ND{xs ys:List D}(h:xs.length+ys.length<=1000):aP (.lst xs) (.lst ys)=Z (.lst (xs++ys)):=by show(if xs.length+ys.length<=aA then Z (D.lst (xs++ys))else am)=_;rw[if_pos (gK (small (k_ (Nat.ble_eq_true_of_le h))))]
theorem k6(n:Nat):cq 0 n=(gd n).map λ(i:Nat)=>D.int (i:Int):=uM λi _=>by rw[Rr]
def Zvp{xs ys:List D}(h:xs.length+ys.length<=1000):jO (.lst xs) (.lst ys)=Z (.lst (xs++ys)):=ND h
def kg(h:c d=Z x)(e:JR x=Z ds):dN c d=Z ds:=by simp[dN,h,e]
theorem vR:∀(xs ys:List D)(i:Nat)(d:D),(sY xs ys)[i]?=Z d->∃x y,xs[i]?=Z x/\ys[i]?=Z y/\d=.tup [x,y]|x::xs,y::ys,0,d,h=>by exists h;exact⟨x,y,W,W,W⟩|x::xs,y::ys,i+1,d,h=>vR xs ys i d h|[],_,_,_,h=>by simp[sY]at h|_::_,[],_,_,h=>by simp[sY]at h
theorem qC:∀(xs ys:List D),(sY xs ys).length=min xs.length ys.length|x::xs,y::ys=>by simp[sY,qC xs ys]|[],_=>by exact W|_::_,[]=>by exact W
def ju(h:c d=Z (.int i)):eC c d=Z (Z i):=by simp[eC,h]
def tX(h:d c=Z x)(e:fl c=Z l)(f:g c=Z u)(i:qr x l u=Z z):kO d fl g c=Z z:=by simp[kO,h,e,f,i]
def qY(h:d c=Z x)(e:fl c=Z l)(f:g c=Z u)(i:oY x l u=Z z):jg d fl g c=Z z:=by simp[jg,h,e,f,i]
section
variable {fa:Zaf}{x:D}{i:Nat}{z:D}{j:Key}{ks:List Key}{ds:List D}{r:aj}{fo fi:Zaj}{p:Zal}{u:aj->Option sZ}{Q:aK->Prop}{b:Bool}{t:Zae}{q:Zal}
def NF(h:fa (dz r)=Z x)(c:gE x=be):vD fa r=Z x:=by simp[vD,h,c]
def qZ(c:mG z=Z j)(h:atK ks ds j=Z x):iP (.aW ks ds) z=Z x:=by simp[iP,c,h]
def zS(c:fo r=Z x)(d:fi r=Z z)(e:mG z=Z j)(g:tm i r=Z (ks,ds))(h:ks.length<=1000)(k:Q (.aF (r.set i (Z (.ow (Z (gS ks j)) (DL.hq ks ds j x)))))):Ev (pd i fi fo r) Q:=⟨_,by unfold pd;rw[c,bb,d,bb,g,bb,e,bb];exact if_pos (small h),k⟩
def NG(h:t (dz r)=Z b):yQ t r=Z b:=h
def NH(h:c r=Z b)(k:Ev (bif b then p r else q r) Q):Ev (vU c p q r) Q:=by cases b<;>simpa [Ev,vU,h]using k
theorem tY(I:Nat->aj->Prop)(c:∀r,¬I 0 r)(hs:∀n r,I (n+1) r->(t (fz r)=Z bi/\Q (.aF r))\/(t (fz r)=Z be/\Ev (p r) (kL (I n) Q))):∀(n:Nat)(r:aj),I n r->Ev (ig t p n r) Q
 |0,r,h=>(c r h).elim|n+1,r,h=>by
  rcases hs n r h with⟨e,k⟩|⟨e,o,d,k⟩;·exact⟨_,by simp[ig,e],k⟩
  ·cases o<;>simp only[Ev,ig,e,d,bb,if_true]<;>first|exact tY I c hs n _ k|exact⟨_,W,k⟩
def NI{n:Nat}(h:iC i r=Z (xs++[x]))(k:Q (.aF ((r.set i (Z (.own xs))).set n (nr x)))):Ev (vX i n r) Q:=⟨_,by simp[vX,h],k⟩
def ZuQ{u:Int}(h:yN i r=Z (.int u))(c:fo r=Z (.int v))(k:Q (.aF (r.set i (nr (.int (u+v)))))):Ev (yO i fo r) Q:=⟨_,by simp[yO,h,c],k⟩
def NJ(h:fo r=Z x)(k:Q (.ret x)):Ev (vV fo r) Q:=⟨_,by simp[vV,h],k⟩
end
def oj(h:b4 xs i=Z x):ar (.lst xs) (.int i)=Z x:=h
def aY(h:b4 xs i=Z x):ar (.tup xs) (.int i)=Z x:=h
def NK(c:0<=i)(d:i<=1000)(e:0<=j)(f:j<=1000):sW (.int i) (.int j)=Z (.int (i*j)):=Zms (Nm c 'c') (Nm e 'c') (by exact gW ..)
def tZ(x:Sd)(i:Int):aP (dC x) (.tup [.int i])=Z (cg (x.1,x.2,i)):=by unfold dC;rw[zO (Bf _ _) (by exact gW ..)];rfl
theorem t9:∀K:Kd,b9 K.toD=be
 |.none=>rfl|.num _ _=>rfl|.name ns=>by
  have:∀l:List Str,cf (l.map D.str)=be:=λl=>by induction l with|nil=>rfl|cons x l c=>simp[cf,b9,c]
  simp[Kd.toD,b9,cf,this]|.pair a b=>by simp[Kd.toD,b9,cf,t9 a,t9 b]|.row a m=>by simp[Kd.toD,b9,cf,t9 a]
theorem E8(c:Ch):b9 (cg c)=be:=by simp[cg,b9,cf,t9]
theorem k7{c:Type}{f:c->D}(h:∀a,b9 (f a)=be):∀l:List c,cf (l.map f)=be|[]=>rfl|a::l=>by simp[cf,h a,k7 h l]
def zT(p:Pl):b9 p.toD=be:=by cases p with|fin=>rfl|say a b cs=>simp[Pl.toD,b9,cf,k7 E8]
def Zvq:b9 (.tup [.str w,.int a,.int b,.tup [cg c]])=be:=by simp[b9,cf,E8]
end PM
set_option bootstrap.genMatcherCode true in
local macro_rules
 | `(tactic| ac_nf) => `(tactic| repeat' first | (with_reducible (show _ = _); first | assumption | apply PM.ak | apply PM.ae | apply PM.bN | apply PM.bc | apply PM.aE | apply PM.aN | apply PM.wt | apply PM.mW | apply PM.wu | apply PM.zI | apply PM.oj | apply PM.ND | apply PM.Zvp | apply PM.kd | apply PM.NK | apply PM.kZ | apply PM.Zvl | apply PM.iT | apply PM.qX | apply PM.jr | apply PM.kg | exact PM.eq_int | exact PM.Zm_ | exact PM.ej (by omega) 'b' (by first | omega | (simp <;> omega)) | exact PM.mV (PM.EW 'b' 'b') | exact PM.tZ _ _ | exact PM.Zvq) | ((with_reducible first | show L2.b4 _ _ = _ | show DL.ar _ _ = _); first | exact PM.gj | exact PM.ei | exact PM.at2 | exact PM.jS) | ((with_reducible show _ = _); exact rfl) | ((with_reducible first | apply PM.Zvn); focus exact rfl) | ((with_reducible first | apply PM.Zvm | apply PM.Zvo); focus exact rfl) | (with_reducible (show (_ : Prop)); first | apply PM.bx | apply PM.bo | apply PM.iF | apply PM.gU | apply PM.mY) | ((with_reducible first | apply PM.f_ | apply PM.mX | apply PM.eG | apply PM.oi | apply PM.pG | apply PM.Nw); focus (ac_nf; done)) | ((with_reducible apply PM.js); focus (ac_nf; done)) | ((with_reducible apply PM.hE); focus (ac_nf; done)) | ((with_reducible apply PM.wz); iterate 3 focus (ac_nf; done)) | ((with_reducible apply PM.Zu_); iterate 4 focus (ac_nf; done)) | ((with_reducible show _ < PySem.sizeLine); exact PM.small (by first | omega | (simp [DL.cq] <;> omega))) | ((first | (with_reducible show _ <= _) | (with_reducible show _ < _)); first | omega | (simp <;> omega)) | ((with_reducible show (_ : Bool) = _); (simp <;> omega)))
namespace PM
open PySem L2 DL PT
def zU(xs:List D):∀(a i:Nat)(d:D),(kP a xs)[i]?=Z d->∃x,xs[i]?=Z x/\d=.tup [.int ((a+i:Nat):Int),x]:=by induction xs with|nil=>intro a i d h;injection h|cons x xs c=>intro a i d h;cases i with|zero=>exists h;exact⟨x,W,W⟩|succ i=>obtain⟨y,e,f⟩:=c (a+1) i d h;exact⟨y,e,by rw[f,G5,xp]⟩
def om(m a b:Int):Prop:=0<=a/\a<m/\0<=b/\b<m/\a≠b
def ck{y:Sd}(h:oh y)(a:0<=z/\z<N):tW N (y.1,y.2,z):=⟨h.1,h.2.1,h.2.2,a⟩
noncomputable def sy(u v:Int):Pl->Bool|.say a b _=>a==u&&b==v|.fin=>bi
def BK(k w:Nat)(l:List Pl):Prop:=(∀u v,l.countP (sy u v)<=k)/\(l.flatMap Pl.bK).length<=w
def BK.app{k:Nat}(h:BK k w l)(h':BK k' c d):BK (k+k') (w+c) (l++d):=⟨λu v=>by rw[Ru];exact Rv (h.1 u v) (h'.1 u v),by rw[G6,bH];exact Rv h.2 h'.2⟩
noncomputable def wA(c m:Int):Bool:=c%4==2&&decide (2<m)
def NL{n:Nat}(hn:1<=n)(c m:Int):Tab n .fO [.int c,.int m]=Z (.bl (wA c m)):=by obtain⟨k,rfl,d⟩:=bB (c:=0) hn;exact dB (n:=2) (ds:=[.int c,.int m]) (g:=MM (Tab k)) (dH (EN (ak (ak W W (kd 'b')) W eq_int) W)) W
def jv(c m:Int):Int:=if wA c m then 1 else 0
def jT(c:Int):Int:=1+mix c 9949 3
def oo(c:Int):Int:=if 0<mix c 9931 3 then 1 else 0
def dq(c m:Int):Int:=1+jT c*(m-2+jv c m)+oo c
def zV(c:Int):1<=jT c/\jT c<=3:=by have d:=e_ (c:=c) (p:=9949) (m:=3) 'b';have e:=f9 (c:=c) (p:=9949) (m:=3) 'b';unfold jT;lia
def E9(c m:Int):0<=jv c m/\jv c m<=1:=by unfold jv;split<;>decide
def ZsO(c:Int):0<=oo c/\oo c<=1:=by unfold oo;split<;>lia
def ZsP{n:Nat}(hn:2<=n)(v:2<=m)(w:m<=4):Tab n .fP [.int c,.int m]=Z (.int (dq c m)):=by
 obtain⟨k,rfl,e⟩:=bB (c:=1) hn;have f:=NL (n:=k) e c m;have q:=ej (n:=k) (by omega) (c:=c) (p:=9949) (m:=3) 'b' 'b';have r:=ej (n:=k) (by omega) (c:=c) (p:=9931) (m:=3) 'b' 'b';have x:=E9 c m;have hw:=zV c;have d:=NK (i:=jT c) (j:=m-2+jv c m) 'c' 'c' 'c' 'c';have t:qA [.bl (wA c m)]=Z (.int (jv c m)):=rfl;have u:qA [.bl (decide (0<mix c 9931 3))]=Z (.int (oo c)):=by unfold oo;by_cases h:0<mix c 9931 3<;>simp[qA,k1,h]
 exact dB (n:=3) (ds:=[.int c,.int m]) (g:=MN (Tab k)) (dS (eQ (ak W (aE (ae (aE 'e' f) W) t) W)) (dH (ak (ak W (ak (ak W (aE (ae W 'e') q) W) W d) W) (aE (ae (ak (aE (ae W 'e') r) W W) W) u) W))) W
def NM{one:Int}(c:m=2\/m=3\/m=4)(d:0<=one)(e:one<m){k:Int}:om m one ((one+1+(k+q)%(m-1))%m):=by unfold om;rcases c with rfl|rfl|rfl<;>grind
def zW{s:Int}(d:m=3\/m=4)(hr:0<=r/\r<m-1)(hs:0<=s/\s<m-1)(h:r≠s):om m ((x+r)%m) ((x+s)%m):=by
 have c:0<m:=by lia
 refine⟨rL _ 'c',rM _ c,rL _ 'c',rM _ c,?_⟩;rcases d with rfl|rfl<;>lia
def cI(m:Int):Int->List Int->List Int|a,[]=>[a]|a,c::cs=>a::cI m (a+dq c m) cs
def E_(d:m=2\/m=3\/m=4):1<=dq c m/\dq c m<=11:=by have e:=E9 c m;have hw:=zV c;have f:=ZsO c;unfold dq;have g:0<=jT c*(m-2+jv c m):=Zx0 'c' 'c';have h:jT c*(m-2+jv c m)<=3*3:=Int.mul_le_mul 'c' 'c' 'c' 'c';lia
def NN{c:Type}(xs:List c)(a:c):b4 (xs++[a]) (-1)=Z a:=by
 unfold b4 g9;rw[if_neg 'b'];have e:(-1+(((xs++[a]).length:Nat):Int)).toNat=xs.length:=by rw[bH];simp;lia
 rw[if_pos (by rw[bH];simp;omega),bb,e];simp
theorem q0(m:Int):∀(cs:List Int)(a:Int),(cI m a cs).length=cs.length+1|[],_=>rfl|c::cs,a=>by simp only[cI,bz,q0 m cs]
theorem Fb{m:Int}(f:m=2\/m=3\/m=4):∀(cs:List Int)(a:Int)(i:Nat)(x:Int),(cI m a cs)[i]?=Z x->a<=x/\x<=(cI m a cs).getLastD 0
 |[],a,i,x,h=>by cases i with
  |zero=>exists h;simp[cI]|succ i=>simp[cI]at h
 |c::cs,a,i,x,h=>by
  have hs:=E_ (c:=c) f;have d:(cI m a (c::cs)).getLastD 0=(cI m (a+dq c m) cs).getLastD 0:=by show(a::cI m (a+dq c m) cs).getLastD 0=_;cases e:cI m (a+dq c m) cs with|nil=>have:=q0 m cs (a+dq c m);rw[e]at this;simp at this|cons y r=>simp
  rw[d];cases i with
  |zero=>
   exists h;have g:(cI m (a+dq c m) cs)[0]?=Z (a+dq c m):=by cases cs<;>rfl
   have:=Fb f cs (a+dq c m) 0 _ g;lia
  |succ i=>have:=Fb f cs (a+dq c m) i x h;lia
theorem NO{m:Int}:∀(cs:List Int)(a:Int)(i:Nat)(c:Int),cs[i]?=Z c->∃x,(cI m a cs)[i]?=Z x/\(cI m a cs)[i+1]?=Z (x+dq c m)|d::cs,a,0,c,h=>by exists h;refine⟨a,W,?_⟩;show(cI m (a+dq d m) cs)[0]?=_;cases cs<;>rfl|d::cs,a,i+1,c,h=>NO cs (a+dq d m) i c h
theorem NP{m:Int}:∀(cs:List Int)(a:Int),(cI m a cs)[cs.length]?=Z ((cI m a cs).getLastD 0)
 |[],a=>rfl|c::cs,a=>by
  have h:=NP (m:=m) cs (a+dq c m);have d:(cI m a (c::cs)).getLastD 0=(cI m (a+dq c m) cs).getLastD 0:=by show(a::cI m (a+dq c m) cs).getLastD 0=_;cases e:cI m (a+dq c m) cs with
   |nil=>have:=q0 m cs (a+dq c m);rw[e]at this;simp at this|cons y r=>simp
  rw[d];exact h
theorem NQ{m:Int}(f:m=2\/m=3\/m=4):∀(cs:List Int)(a:Int),(cI m a cs).getLastD 0<=a+11*cs.length/\a<=(cI m a cs).getLastD 0
 |[],a=>by simp[cI]|c::cs,a=>by
  have hs:=E_ (c:=c) f;have g:=NQ f cs (a+dq c m);have d:(cI m a (c::cs)).getLastD 0=(cI m (a+dq c m) cs).getLastD 0:=by show(a::cI m (a+dq c m) cs).getLastD 0=_;cases e:cI m (a+dq c m) cs with
   |nil=>have:=q0 m cs (a+dq c m);rw[e]at this;simp at this|cons y r=>simp
  rw[d];simp only[bz];lia
def wB{xs:List Int}{i:Nat}{x:Int}(h:xs[i]?=Z x):b4 (xs.map D.int) (i:Int)=Z (.int x):=by
 have c:i<xs.length:=(bt.mp h).1;rw[pq (by rw[aG];exact c)];rw[cF c]at h
 exists h;simp
theorem NR{m:Int}{c:Int}:∀(cs:List Int)(a:Int),cI m a (cs++[c])=cI m a cs++[(cI m a cs).getLastD 0+dq c m]|[],a=>rfl|d::cs,a=>by show a::cI m (a+dq d m) (cs++[c])=_;rw[NR cs];show _=a::(_++[(a::cI m (a+dq d m) cs).getLastD 0+dq c m]);cases e:cI m (a+dq d m) cs with|nil=>have:=q0 m cs (a+dq d m);rw[e]at this;simp at this|cons y r=>simp
def Zqe{xs:List Int}(h:0<xs.length):b4 (xs.map D.int) (-1)=Z (.int (xs.getLastD 0)):=by obtain⟨ys,y,rfl⟩:∃ys y,xs=ys++[y]:=⟨xs.dropLast,xs.getLast (by intro e;subst e;simp at h),(Zx1 _).symm⟩;rw[cz];simpa using NN (ys.map D.int) (D.int y)
def ZsQ{xs:List Int}{v:Int}(c:0<=v)(d:v<xs.length):b4 (xs.map D.int) v=Z (.int (xs.getD v.toNat 0))/\xs[v.toNat]?=Z (xs.getD v.toNat 0):=by
 have h:xs[v.toNat]?=Z (xs.getD v.toNat 0):=by rw[pY,cF 'c'];rfl
 have:=wB h;rw[jY c]at this;exact⟨this,h⟩
def BK.mono{k:Nat}(h:BK k w l)(a:k<=k')(b:w<=c):BK k' c l:=⟨λu v=>c3 (h.1 u v) a,c3 h.2 b⟩
end PM
namespace PM
section
theorem zX:∀(n:Nat){l:List Int},l.Nodup->(∀x∈l,0<=x/\x<n)->l.length<=n
 |0,[],_,_=>a9 _|0,x::l,_,h=>by have:=h x bZ;lia|n+1,l,hn,h=>by
  have e:=zX n (l:=l.erase (n:Int)) (hn.erase _) λx c=>by have d:=(hn.mem_erase_iff).mp c;have:=h x d.2;lia
  have:=List.length_erase (a:=(n:Int)) (l:=l);split at this<;>lia
end
end PM
namespace PM
open PySem L2 DL PT
def kh(ps:List Pl)(i:Int):List Int:=(aC ps i).bK.map (·.2.2)
noncomputable def Pl.ki:Pl->Bool|.fin=>bi|.say _ _ _=>be
def CW(N:Int)(c:Ch):Prop:=tW N c
structure GW(ps:List Pl):Prop where
 n1:1<=ps.length
 n2:ps.length<=130
 ok:∀p∈ps,p.bK.length<=5/\∀c∈p.bK,CW ps.length c
def t_(h:G2 m ps):GW ps:=⟨h.2.2.1,h.2.2.2.1,λp d=>by have:=h.2.2.2.2 p d;cases p with|fin=>exact⟨dZ _,λc e=>by cases e⟩|say a b cs=>exact⟨this.2.2.2.2.2.2.1,this.2.2.2.2.2.2.2.1⟩⟩
def ua{ps:List Pl}(h:GW ps)(i:Int):(aC ps i).bK.length<=5/\∀c∈(aC ps i).bK,CW ps.length c:=by cases e:ps[i.toNat]? with|none=>rw[show aC ps i=.fin by simp[aC,e]];exact⟨dZ _,λc d=>by cases d⟩|some p=>rw[show aC ps i=p by simp[aC,e]];exact h.ok p (cu e)
def NS{ps:List Pl}(h:GW ps)(i:Int):∀y∈kh ps i,0<=y/\y<ps.length:=λy d=>by obtain⟨c,e,rfl⟩:=aX.mp d;exact((ua h i).2 c e).2.2.2
def zY{r:aj}(k:Q (.aF (r.set i (Z (.ow (Z []) []))))):Ev (tp i qE r) Q:=⟨_,by exact W,k⟩
def NT(p:Pl):bg 64 p.toD (.tup [.str "end"])=Z (.bl (match p with|.fin=>be|.say _ _ _=>bi)):=Nn p
def ZsS(p:Pl):eU 64 p.toD (.tup [.str "end"])=Z (.bl p.ki):=by have h:=NT p;unfold bg at h;unfold eU;rw[bQ]at h⊢;obtain⟨b,c,d⟩:=h;refine⟨b,c,?_⟩;cases p<;>cases d<;>rfl
theorem zZ:∀{ks:List Key}{ds:List D},ks.length=ds.length->((atK ks ds j).isSome=be↔j∈ks)
 |[],[],_=>by simp[atK]|k::ks,d::ds,h=>by
  show((if k=j then Z d else atK ks ds j).isSome=be)↔_;by_cases e:k=j;·rw[if_pos e];simp[e]
  ·rw[if_neg e,zZ (by simpa using h),a6];exact⟨.inr,λz=>z.resolve_left λq=>e q.symm⟩
theorem z4:∀{ks:List Key}{ds:List D},j∉ks->ks.length=ds.length->gS ks j=ks++[j]/\DL.hq ks ds j d=ds++[d]|[],[],_,_=>⟨W,W⟩|k::ks,x::ds,c,h=>by have e:¬k=j:=λq=>c (by rw[q];exact bZ);obtain⟨f,g⟩:=z4 (d:=d) (ks:=ks) (ds:=ds) (λq=>c (b8 _ q)) (by simpa using h);exact⟨by rw[gS,if_neg e,f];rfl,by rw[DL.hq,if_neg e,g];rfl⟩
noncomputable def kx(a:Int×Nat):Key:=.inl a.1
noncomputable def kI(x:Int):Key:=.inl x
theorem NU:∀l:List Int,iD (l.map D.int)=be|[]=>rfl|_::l=>NU l
theorem z6:∀K:Kd,gE K.toD=be
 |.none=>rfl|.num _ _=>rfl|.name ns=>by
  have:∀l:List Str,iD (l.map D.str)=be:=λl=>by induction l with|nil=>rfl|cons x l c=>simp[iD,gE,c]
  simp[Kd.toD,gE,iD,this]|.pair a b=>by simp[Kd.toD,gE,iD,z6 a,z6 b]|.row a m=>by simp[Kd.toD,gE,iD,z6 a]
theorem NV{c:Type}{f:c->D}(h:∀a,gE (f a)=be):∀l:List c,iD (l.map f)=be|[]=>rfl|a::l=>by simp[iD,h a,NV h l]
theorem wC:oY (.tup xs) lo c=Z (.tup (cc xs lo c)):=by show(if HT.ba xs.length 0 lo=0/\HT.ba xs.length xs.length c=xs.length then Z (D.tup xs)else Z (D.tup (cc xs lo c)))=_;simp_all[cc]
theorem ZsT{c:Type}{xs:List c}{i:Int}(d:0<=i)(h:i<xs.length):cc xs am (Z i)=xs.take i.toNat:=by unfold cc;show(xs.drop 0).take ((if i<0 then _ else min i.toNat xs.length)-0)=_;grind
theorem ZsU{c:Type}{xs:List c}{i:Int}(d:0<=i)(h:i<=xs.length):cc xs (Z i) am=xs.drop i.toNat:=by unfold cc;show(xs.drop (if i<0 then _ else min i.toNat xs.length)).take (xs.length-(if i<0 then _ else min i.toNat xs.length))=_;simp_all[if_neg,min,Bh,AY,a9]
def Zmt{c:Type}{ys:List c}{y:c}:cc (ys++[y]) am (Z (-1))=ys:=by unfold cc;show((ys++[y]).drop 0).take (((-1:Int)+((ys++[y]).length:Int)).toNat-0)=_;rw[show((-1:Int)+((ys++[y]).length:Int)).toNat-0=ys.length by simp;grind];simp
def Zmu{c:Type}{ys:List c}{y:c}:cc (ys++[y]) (Z (-1)) am=[y]:=by unfold cc;show((ys++[y]).drop ((-1:Int)+((ys++[y]).length:Int)).toNat).take ((ys++[y]).length-((-1:Int)+((ys++[y]).length:Int)).toNat)=_;rw[show((-1:Int)+((ys++[y]).length:Int)).toNat=ys.length by simp;lia];simp
def NW:∀{w:List Nat},1<=w.length->w.length<=3->(∀c∈w,c<=122)->¬w.take 2++[122]<w|[a],_,_,_=>by simp|[a,b],_,_,_=>by simp|[a,b,c],_,_,h=>by simp_all[List.cons_lt_cons_iff]
theorem ZuR:("z":Str).cps.toList=[122]:=by exact W
def l_(w:Str):Str:=⟨(cc w.cps.toList am (Z 2)).toArray⟩++"z"
theorem z_{w:Str}:(l_ w).cps.toList=w.cps.toList.take 2++[122]:=by
 have:cc w.cps.toList am (Z 2)=w.cps.toList.take 2:=by unfold cc;show(w.cps.toList.drop 0).take (min 2 w.cps.toList.length-0)=_;rw[Zw5,Nat.sub_zero,List.take_eq_take_iff];simp
 show(((cc w.cps.toList am (Z 2)).toArray)++("z":Str).cps).toList=_;rw[Array.toList_append,this,ZuR]
def ZuS(h:iU (.str w)=be):iU (.str (l_ w))=be:=by
 simp only[iU,cV,decide_eq_true_eq,hY]at h⊢;have e:(l_ w).length=(w.cps.toList.take 2++[122]).length:=by rw[<-z_];rfl
 refine⟨'m',λc d=>?_⟩;rw[z_]at d;rcases bU.mp d with q|q;·grind
 ·rw[aZ.mp q];exact W
def ZsV(h:iU (.str w)=be)(d:bM v w=be):v≠l_ w:=λe=>by subst e;simp only[iU,cV,decide_eq_true_eq,hY]at h;have d:(l_ w).cps.toList<w.cps.toList:=of_decide_eq_true d;rw[z_]at d;exact NW (by rw[oE];exact h.1.1) (by rw[oE];exact h.1.2) (λc f=>by have:=h.2 c f;simp[pw]at this;exact this.2) d
def ZuT(h:iU (.str w)=be)(d:bM v w=be):bM v (l_ w)=be:=by
 rcases sL v (l_ w)with q|q|q;·exact q
 ·exact(ZsV h d q).elim
 ·have d:(l_ w).cps.toList<w.cps.toList:=of_decide_eq_true (oW q d);rw[z_]at d;simp only[iU,cV,decide_eq_true_eq,hY]at h;exact(NW (by rw[oE];exact h.1.1) (by rw[oE];exact h.1.2) (λc e=>by have:=h.2 c e;simp[pw]at this;exact this.2) d).elim
def ZsW{ps:List Pl}{k:Nat}{p f:Pl}(h:BK k w ps)(j:ps[i]?=Z p)(q:f.bK.length<=p.bK.length+1):BK (k+1) (w+1) (ps.take i++[f]++ps.drop (i+1)):=by
 obtain⟨m,e⟩:=bt.mp j;have c:ps=ps.take i++([p]++ps.drop (i+1)):=by
  conv=>lhs;rw[<-Rw i ps,Gy m,e]
  rfl
 obtain⟨d,g⟩:=h;rw[c]at g;refine⟨λu v=>?_,?_⟩;·have d:=d u v;rw[c]at d;simp only[Ru]at d⊢;have:=Zx2 (p:=sy u v) (l:=[f]);simp only[xy]at this;grind
 ·simp only[G6,bH,uQ,List.flatMap_nil,eS]at g⊢;lia
def Zmv{n:Nat}(hn:2<=n){ps:List Pl}(B:gG m ps){bk:Nat}(hB:BK bk bw ps)(c:Int):∃q,Tab n .fX [aT m ps,.int c]=Z (aT m q)/\gG m q/\BK (bk+1) (bw+1) q/\q.length=ps.length:=by
 refine ax (bB (c:=1) hn) λk q7 hk=>?_;subst q7;have hW:=t_ (pF B);have Fc:=B.2.2.2.1;have hN:=hW.n1;suffices h:Ev (Tab (k+1) .fX [aT m ps,.int c]) λd=>∃q,d=aT m q/\gG m q/\BK (bk+1) (bw+1) q/\q.length=ps.length from ax h λ_ e u=>ax u λq h k=>⟨q,h▸e,k⟩;rw[tab];refine l8 (np:=2) (n:=11) (gb:=EG (Tab k)) ?_;unfold EG;have N:0<m:=by have:=B.1;lia
 have hL:cS [.tup (ps.map Pl.toD)]=Z (.int (ps.length:Nat)):=by show Z (D.int ((ps.map Pl.toD).length:Nat))=_;rw[aG]
 have mx:∀p:Int,0<p->Tab k .fK [.int c,.int p,.int (ps.length:Nat)]=Z (.int (mix c p (ps.length:Nat)))/\0<=mix c p (ps.length:Nat)/\mix c p (ps.length:Nat)<ps.length:=λp hp=>⟨ej hk hp 'c',e_ 'c',f9 'c'⟩;refine aQ (mx 9857 'b') λe1 O Q=>aQ (mx 9851 'b') λe2 b0 b1=>aQ (mx 9833 'b') λe3 d0 d1=>?_;have e4:=ej hk (c:=c) (p:=9839) (m:=6) 'b' 'b';have f0:=e_ (c:=c) (p:=9839) (m:=6) 'b';have f1:=f9 (c:=c) (p:=9839) (m:=6) 'b';generalize mix c 9857 (ps.length:Nat)=i at e1 O Q;generalize mix c 9851 (ps.length:Nat)=af at e2 b0 b1;generalize mix c 9833 (ps.length:Nat)=fr at e3 d0 d1;generalize mix c 9839 6=L at e4 f0 f1;have q8:=kf (m:=m) O Q;have T:aC ps i∈ps:=cu (E5 O Q);refine bx (Ny W W (bo (bx (f_ (bN (aE (ae W (ae W (ae (aE 'x' hL) W))) e1)) (bo (bx (f_ (bN (ak W W (aY q8))) (bo (bx ?_)))))))));refine Ev.imp (P:=λo=>∃(a b:Int)(cs:List Ch)(I:Option SD),o=.aF [nr 'q',nr (.int c),nr (.int m),nr 'g',nr (.int i),nr ((Pl.say a b cs).toD),I,am,am,am,am]/\(Pl.say a b cs).OK m ps.length/\cs.length<=(aC ps i).bK.length+1) ?_ ?_
 ·refine eG (aN (ak W (bc 'x') (NT _))) ?_;cases hp:aC ps i with|fin=>
   refine js W (bx (f_ (bN (aE (ae W (ae W (ae (aE 'x' hL) W))) e2)) (bo (f_ (bN (bc (ae W (ae (ak W W (kd N)) (ae (ak (ak W W W) W (kd N)) (ae (bc (ae (bc (ae W (ae (bc 'x') 'x'))) W)) W)))))) ?_))));refine⟨c%m,(c+1)%m,[("z",.none,af)],_,W,?_,by simp[hp,Pl.bK]⟩;have hmm:=B.1;have hm4:=B.2.1;have M:m=2\/m=3\/m=4:=by lia
   refine⟨by rcases M with rfl|rfl|rfl<;>lia,by rcases M with rfl|rfl|rfl<;>lia,by rcases M with rfl|rfl|rfl<;>lia,by rcases M with rfl|rfl|rfl<;>lia,by rcases M with rfl|rfl|rfl<;>lia,by simp,by simp,λx J=>?_,W⟩;rw[aZ.mp J];exact⟨show iU (.str "z")=be by decide,trivial,dZ _,b0,b1⟩|say a b cs=>have:=B.2.2.2.2 _ T;rw[hp]at this;exact hE W (gU ⟨a,b,cs,_,W,this,by simp[hp,Pl.bK]⟩)
 rintro _ ⟨a,b,cs,I,rfl,⟨q1,q2,q3,q4,q5,l1,h5,U,A⟩,Y⟩;obtain⟨cs',j,rfl⟩:∃cs' j,cs=cs'++[j]:=⟨cs.dropLast,cs.getLast (λe=>by rw[e]at l1;cases l1),(Zx1 _).symm⟩;rw[bH]at h5;simp only[bz,lz]at h5;have r:=U j 'o';have Zvr:∀x∈cs',tW ps.length x:=λx J=>U x (by simp[J]);have hnd:=zP A;have ia:∀v∈cs'.map (·.1),bM v j.1=be:=λv hv=>by have:=tV A;rw[cz,Rx]at this;exact this.2.2 v hv j.1 'o'
 have fin:∀(t:Pl)(I o7 o8 o9 C:Option SD),t.OK m ps.length->t.bK.length<=(aC ps i).bK.length+1->Ev (eW (aH (ag [aa 2,ab aP (ab jO (jg (aa 3) iN (eC (aa 4))) (aH (ag [aa 5]))) (jg (aa 3) (eC (ab aP (aa 4) 'a')) iN)])) [nr 'q',nr (.int c),nr (.int m),nr 'g',nr (.int i),nr t.toD,I,o7,o8,o9,C]) (kR λd=>∃q,d=aT m q/\gG m q/\BK (bk+1) (bw+1) q/\q.length=ps.length):=λt I o7 o8 o9 C g1 gc=>by
  have s1:oY 'g' am (Z i)=Z (.tup ((ps.take i.toNat).map Pl.toD)):=by rw[wC,ZsT O (by simpa using Q),QW]
  have s2:oY 'g' (Z (i+1)) am=Z (.tup ((ps.drop (i+1).toNat).map Pl.toD)):=by rw[wC,ZsU 'c' (by simp;assumption),Zw3]
  have s3:jO (.tup ((ps.take i.toNat).map Pl.toD)) (.tup [t.toD])=Z (.tup ((ps.take i.toNat++[t]).map Pl.toD)):=by rw[E4 (by simp;omega),cz];rfl
  have s4:aP (.tup ((ps.take i.toNat++[t]).map Pl.toD)) (.tup ((ps.drop (i+1).toNat).map Pl.toD))=Z (.tup ((ps.take i.toNat++[t]++ps.drop (i+1).toNat).map Pl.toD)):=by rw[zO 'o' (by simp;omega),<-cz]
  have hl:(ps.take i.toNat++[t]++ps.drop (i+1).toNat).length=ps.length:=by simp;lia
  refine pG (bc (ae W (ae (ak (ak (qY W W (ju W) s1) (bc 'x') s3) (qY W (ju (ak W W W)) W s2) s4) W))) (mY ⟨_,W,⟨B.1,B.2.1,by rw[hl];exact hN,by rw[hl];exact Fc,λp hp=>?_⟩,?_,hl⟩)
  ·rw[hl];rcases bU.mp hp with hp|hp
   ·rcases bU.mp hp with hp|hp
    ·exact B.2.2.2.2 p (ZxW hp)
    ·rw[aZ.mp hp];exact g1
   ·exact B.2.2.2.2 p (ZxX hp)
  ·rw[show(i+1).toNat=i.toNat+1 by lia];exact ZsW hB (E5 O Q) gc
 have fin2:=λt I o7 o8 o9 C (g:Pl.OK m ps.length t/\t.bK.length<=(aC ps i).bK.length+1)=>fin t I o7 o8 o9 C g.1 g.2;have F1:qr (.tup [.str "say",.int a,.int b,.tup ((cs'++[j]).map cg)]) am (Z 3)=Z (.tup [.str "say",.int a,.int b]):=rfl;have F3:b4 ((cs'++[j]).map cg) (-1)=Z (cg j):=by rw[cz];exact NN (cs'.map cg) (cg j)
 have F4:oY (.tup ((cs'++[j]).map cg)) am (Z (-1))=Z (.tup (cs'.map cg)):=by rw[wC,cz];exact congrArg (λl=>Z (D.tup l)) Zmt
 have F5:∀x:Ch,jO (.tup (cs'.map cg)) (.tup [cg x])=Z (.tup ((cs'++[x]).map cg)):=λx=>by rw[E4 (by simp;lia),cz];rfl
 have F6:∀l:List Ch,aP (.tup [.str "say",.int a,.int b]) (.tup [.tup (l.map cg)])=Z (Pl.say a b l).toD:=λl=>zO (Bf _ _) 'o';have F7:oY (.tup ((cs'++[j]).map cg)) (Z (-1)) am=Z (.tup [cg j]):=by rw[wC,cz];exact congrArg (λl=>Z (D.tup l)) Zmu
 have Zvs:cs'.length+1<=(aC ps i).bK.length+1:=by simpa using Y
 have g5:∀x:Ch,tW ps.length x->x.1=j.1\/x.1=l_ j.1->(Pl.say a b (cs'++[x])).OK m ps.length/\(Pl.say a b (cs'++[x])).bK.length<=(aC ps i).bK.length+1:=λx J hw=>by
  refine⟨⟨q1,q2,q3,q4,q5,by simp,by simp;lia,λy hy=>?_,?_⟩,by simpa [Pl.bK]using Zvs⟩
  ·rcases bU.mp hy with h|h
   ·exact Zvr y h
   ·rw[aZ.mp h];exact J
  ·have hp:=tV A;rw[cz,Rx]at hp;refine Nl ?_;rw[cz,Rx];refine⟨hp.1,by simp,λv hv w hw'=>?_⟩;have ew:w=x.1:=by simpa using hw'
   rw[ew];rcases hw with h|h
   ·rw[h];exact ia v hv
   ·rw[h];exact ZuT r.1 (ia v hv)
 refine bo (bx (f_ (bN (aE (ae W 'e') e4)) (bo (bx (Ny (bN (ak (ak W W (aY jS)) W (aY F3))) W (bo ?_))))));have ht:L=0\/L=1\/L=2\/L=3\/L=4\/L=5:=by lia
 rcases ht with rfl|rfl|rfl|rfl|rfl|rfl
 ·refine bx (eG 'C' (js W (bx (f_ (bN (aE (ae W (ae W (ae (aE 'x' hL) W))) e3)) (bo (f_ (bN (ak (tX W W (ju W) F1) (bc (ae (ak (qY (ak W W (aY jS)) W (ju W) F4) (bc (ae (bc (ae W 'e')) W)) (F5 (j.1,j.2.1,fr))) W)) (F6 _))) (bo ?_)))))))
  iterate 5 refine bx (eG 'C' (hE W (gU (bo ?_))))
  exact fin2 _ _ _ _ _ _ (g5 (j.1,j.2.1,fr) ⟨r.1,r.2.1,r.2.2.1,d0,d1⟩ (.inl W))
 ·refine bx (eG 'C' (hE W (gU (bo ?_))));refine bx (eG 'C' (js W (f_ (bN (bc (ae W (ae (ak W W (aY at2)) (ae (ak W W (aY ei)) (ae (ak W W (aY jS)) W)))))) (bo ?_))))
  iterate 4 refine bx (eG 'C' (hE W (gU (bo ?_))))
  exact fin2 (.say b a (cs'++[j])) _ _ _ _ _ (by obtain⟨⟨a,b,c,d,e,f⟩,g⟩:=g5 j r (.inl W);exact⟨⟨c,d,a,b,bW e,f⟩,g⟩)
 ·iterate 2 refine bx (eG 'C' (hE W (gU (bo ?_))))
  have NX:(⟨(cc j.1.cps.toList am (Z 2)).toArray⟩:Str).length<=3:=by
   show(cc j.1.cps.toList am (Z 2)).toArray.size<=3;have:=JN j.1.cps.toList am (Z 2);have M:j.1.cps.size<=3:=by have:=r.1;simp only[iU,cV,decide_eq_true_eq]at this;exact this.1.2
   simp at this⊢;lia
  have hz:("z":Str).length=1:=by decide
  have Zvt:=EZ (x:=⟨(cc j.1.cps.toList am (Z 2)).toArray⟩) (y:="z") 'c';refine bx (eG 'C' (js W (f_ (bN (ak (tX W W (ju W) F1) (bc (ae (ak (qY (ak W W (aY jS)) W (ju W) F4) (bc (ae (bc (ae (ak (tX W W (ju W) W) W Zvt) 'e')) W)) (F5 ((⟨(cc j.1.cps.toList am (Z 2)).toArray⟩:Str)++"z",j.2.1,j.2.2))) W)) (F6 _))) (bo ?_))))
  iterate 3 refine bx (eG 'C' (hE W (gU (bo ?_))))
  exact fin2 (.say a b (cs'++[(l_ j.1,j.2.1,j.2.2)])) _ _ _ _ _ (g5 (l_ j.1,j.2.1,j.2.2) ⟨ZuS r.1,r.2⟩ (.inr W))
 ·iterate 3 refine bx (eG 'C' (hE W (gU (bo ?_))))
  refine bx (eG 'C' (js W (f_ (bN (ak (tX W W (ju W) F1) (bc (ae (qY (ak W W (aY jS)) (ju W) W F7) W)) (F6 [j]))) (bo ?_))))
  iterate 2 refine bx (eG 'C' (hE W (gU (bo ?_))))
  exact fin (.say a b [j]) _ _ _ _ _ ⟨q1,q2,q3,q4,q5,by simp,by simp,λx J=>by rw[aZ.mp J];exact r,W⟩ (by simp[Pl.bK])
 ·iterate 4 refine bx (eG 'C' (hE W (gU (bo ?_))))
  refine bx (eG 'C' (js W (f_ (bN (bc 'x')) (bo ?_))));refine bx (eG 'C' (hE W (gU (bo ?_))));exact fin .fin _ _ _ _ _ trivial (by simp[Pl.bK])
 ·have E:iK (.int c) (.int 9)=Z (.int (c%9)):=kd 'b';have NY:=F5 (j.1,.num 0 (c%9),j.2.2)
  iterate 5 refine bx (eG 'C' (hE W (gU (bo ?_))))
  have hw:(0:Int)<=c%9/\(-1000000:Int)<=0/\c%9<=1000000:=by lia
  have H:=fin2 (.say a b (cs'++[(j.1,.num 0 (c%9),j.2.2)])) (nr (.int j.2.2)) (nr (.int 5)) (nr (.str j.1)) (nr j.2.1.toD) am (g5 (j.1,.num 0 (c%9),j.2.2) ⟨r.1,hw,dZ _,r.2.2.2⟩ (.inl W));have NZ:=F6 (cs'++[(j.1,.num 0 (c%9),j.2.2)]);generalize c%9=z at E NY NZ H;refine bx (eG 'C' (js W (f_ (bN (ak (tX W W (ju W) F1) (bc (ae (ak (qY (ak W W (aY jS)) W (ju W) F4) (bc (ae (bc (ae W (ae (bc (ae W (ae W (ae (ak W W E) W)))) 'x'))) W)) NY) W)) NZ)) (bo H))))
theorem N0(ks:List Int):lT (ks.map D.int)=Z ks:=by induction ks with|nil=>rfl|cons k r c=>simp_all[lT]
end PM
namespace PM
section
variable {α:Type}{nx:Int->List (α × Int)}{tu:Int->Bool}{ev:Int->Int->Bool}
def Sc(nx:Int->List (α×Int))(x y:Int):Prop:=∃w,(w,y)∈nx x
inductive Ah(nx:Int->List (α×Int))(tu:Int->Bool):Int->Prop|t {x:Int} (h:tu x=be):Ah nx tu x|s {x y:Int} (h:Sc nx x y) (k:Ah nx tu y):Ah nx tu x
inductive Cs(nx:Int->List (α×Int))(tu:Int->Bool)(p:Int):Int->Int->Prop|z:Cs nx tu p p p|l {x y x':Int} (h:Cs nx tu p x y) (a:Ah nx tu y) (b:Ah nx tu x) (n:tu x=bi) (s:Sc nx x x'):Cs nx tu p x' y|r {x y y':Int} (h:Cs nx tu p x y) (a:Ah nx tu y) (n:tu x=be\/¬Ah nx tu x) (m:tu y=bi) (s:Sc nx y y'):Cs nx tu p x y'|b {x y x' y':Int} {w:α} (h:Cs nx tu p x y) (n:tu x=be) (m:tu y=be) (s:(w,x')∈nx x) (t:(w,y')∈nx y):Cs nx tu p x' y'
inductive Sy(nx:Int->List (α×Int))(tu:Int->Bool)(p:Int):Int->Int->Prop|z:Sy nx tu p p p|l {x y x':Int} (h:Sy nx tu p x y) (n:tu x=bi) (s:Sc nx x x'):Sy nx tu p x' y|r {x y y':Int} (h:Sy nx tu p x y) (m:tu y=bi) (s:Sc nx y y'):Sy nx tu p x y'|b {x y x' y':Int} {w:α} (h:Sy nx tu p x y) (n:tu x=be) (m:tu y=be) (s:(w,x')∈nx x) (t:(w,y')∈nx y):Sy nx tu p x' y'
inductive Ep(nx:Int->List (α×Int))(tu:Int->Bool)(x:Int):Int->Prop|z:Ep nx tu x x|s {y z:Int} (h:Ep nx tu x y) (n:tu y=bi) (s:Sc nx y z):Ep nx tu x z
def Ft(nx:Int->List (α×Int))(tu:Int->Bool)(ev:Int->Int->Bool)(x y:Int):Prop:=tu y=be/\(¬Ah nx tu x\/tu x=be/\ev x y=bi)
def Fd(h:Ep nx tu x y)(a:Ah nx tu y):Ah nx tu x:=by induction h with|z=>exact a|s _ _ s c=>exact c (.s s a)
def Fe(c:Cs nx tu p x y)(a:Ah nx tu y)(e:Ep nx tu x z)(b:Ah nx tu z):Cs nx tu p z y:=by induction e with|z=>exact c|s e n s d=>exact .l (d (.s s b)) a (.s s b) n s
def Ff(c:Cs nx tu p x y)(n:tu x=be\/¬Ah nx tu x)(e:Ep nx tu y z)(b:Ah nx tu z):Cs nx tu p x z:=by induction e with|z=>exact c|s e m s d=>exact .r (d (.s s b)) (.s s b) n m s
def Zvu(c:Cs nx tu p x y)(a:Ah nx tu y)(e:Ep nx tu x z)(b:¬Ah nx tu z):∃d,Cs nx tu p d y/\¬Ah nx tu d:=by induction e with|z=>exact⟨_,c,b⟩|@s u v e n s f=>
  by_cases h:Ah nx tu u;·exact⟨v,.l (Fe c a e h) a h n s,b⟩
  ·exact f h
def Zqg(hn:∀x y,Cs nx tu p x y->¬Ft nx tu ev x y)(h:Sy nx tu p x y):∃x0 e,Cs nx tu p x0 e/\Ep nx tu x0 x/\Ep nx tu e y:=by induction h with|z=>exact⟨p,p,.z,.z,.z⟩|l _ n s d=>refine ay d λx0 e c a b=>?_;clear d;exact⟨x0,e,c,.s a n s,b⟩|r _ m s d=>refine ay d λx0 e c a b=>?_;clear d;exact⟨x0,e,c,a,.s b m s⟩|b _ n m s t d=>refine ay d λx0 e c a b=>?_;clear d;have f:=Fe c (Fd b (.t m)) a (.t n);exact⟨_,_,.b (Ff f (.inl n) b (.t m)) n m s t,.z,.z⟩
def ZuU(hn:∀x y,Cs nx tu p x y->¬Ft nx tu ev x y)(h:Sy nx tu p x y):¬Ft nx tu ev x y:=λu=>aM u λm f=>by
 refine ay (Zqg hn h) λx0 e c a b=>?_;rcases f with f|⟨n,f⟩;·obtain⟨z,d,k⟩:=Zvu c (Fd b (.t m)) a f;exact hn z y (Ff d (.inr k) b (.t m)) ⟨m,.inl k⟩
 ·exact hn x y (Ff (Fe c (Fd b (.t m)) a (.t n)) (.inl n) b (.t m)) ⟨m,.inr ⟨n,f⟩⟩
def ZuV(h:Sy nx tu p q q)(c:Cs nx tu q x y):Sy nx tu p x y:=by induction c with|z=>exact h|l _ _ _ n s d=>exact .l d n s|r _ _ _ m s d=>exact .r d m s|b _ n m s t d=>exact .b d n m s t
end
end PM
namespace PM
open PySem L2 DL PT
def bf(ps:List Pl)(i:Int):List (Str×Int):=(aC ps i).bK.map λc=>(c.1,c.2.2)
def aB(ps:List Pl)(h:Int)(i:Int):Bool:=match aC ps i with|.say a b _=>a==h||b==h|.fin=>bi
noncomputable def jw(w:Str):List (Str×Int)->Option Int|[]=>am|c::cs=>match jw w cs with|some y=>Z y|none=>if c.1=w then Z c.2 else am
theorem wF{y:Int}:∀{cs:List (Str×Int)},jw w cs=Z y->(w,y)∈cs
 |c::cs,h=>by unfold jw at h;cases e:jw w cs with
  |some z=>rw[e]at h;exists h;exact b8 _ (wF e)|none=>
   rw[e]at h;simp only at h;refine bR h λq h=>?_
   exists h;rw[<-q];exact bZ
theorem N1{y:Int}:∀{cs:List (Str×Int)},(cs.map (·.1)).Nodup->(w,y)∈cs->jw w cs=Z y
 |c::cs,hn,h=>by
  rw[bG,d8]at hn;unfold jw;rcases a6.mp h with e|e;·subst e;cases q:jw w cs with
   |some z=>exact(hn.1 (aX.mpr ⟨_,wF q,W⟩)).elim|none=>simp
  ·rw[N1 hn.2 e]
def kj(ps:List Pl)(h:Int)(ah:Int->Bool)(x y:Int):List (Int×Int):=if ah y=bi then [] else if ah x=be/\aB ps h x=bi then(bf ps x).map λc=>(c.2,y) else if aB ps h y=bi then(bf ps y).map λc=>(x,c.2) else(bf ps x).filterMap λc=>(jw c.1 (bf ps y)).map λz=>(c.2,z)
section
variable {ps:List Pl}{h:Int}{ah:Int->Bool}{ev:Int->Int->Bool}{p:Int}
structure PL(ps:List Pl)(h:Int)(ah:Int->Bool)(p:Int)(L:List (Int×Int)):Prop where
 hd:(p,p)∈L
 rc:∀a∈L,Cs (bf ps) 'k' p a.1 a.2
 cl:∀a∈L,∀b∈kj ps h ah a.1 a.2,b∈L
def Zqh(m:∀x,ah x=be↔Ah (bf ps) 'k' x)(c:Cs (bf ps) 'k' p x y)(v:¬Ft (bf ps) 'k' ev x y):∀b∈kj ps h ah x y,Cs (bf ps) 'k' p b.1 b.2:=λb d=>by
 unfold kj at d;split at d;·cases d
 rename_i A;have t:Ah (bf ps) 'k' y:=(m y).mp (by simpa using A);split at d;·rename_i j;obtain⟨g,i,rfl⟩:=aX.mp d;exact .l c t ((m x).mp j.1) j.2 ⟨g.1,i⟩
 rename_i j;have u:aB ps h x=be\/¬Ah (bf ps) 'k' x:=by cases q:aB ps h x with|true=>exact .inl W|false=>exact .inr λz=>j ⟨(m x).mpr z,q⟩
 split at d;·rename_i f;obtain⟨g,i,rfl⟩:=aX.mp d;exact .r c t u f ⟨g.1,i⟩
 ·rename_i f;have f:aB ps h y=be:=by simpa using f
  obtain⟨g,i,e⟩:=xb.mp d;obtain⟨z,hz,rfl⟩:=bQ.mp e;have B:aB ps h x=be:=u.resolve_right λz=>v ⟨f,.inl z⟩;exact .b (w:=g.1) c B f i (wF hz)
def Zqi(d:∀x,ah x=be↔Ah (bf ps) 'k' x)(hw:∀i,((bf ps i).map (·.1)).Nodup)(P:PL ps h ah p L)(c:Cs (bf ps) 'k' p x y):(x,y)∈L:=by induction c with|z=>exact P.hd|@l x y g _ a b n s e=>obtain⟨w,s⟩:=s;refine P.cl _ e _ ?_;unfold kj;rw[if_neg (by simp[(d y).mpr a]),if_pos ⟨(d x).mpr b,n⟩];exact aX.mpr ⟨_,s,W⟩|@r x y f _ a n m s e=>obtain⟨w,s⟩:=s;refine P.cl _ e _ ?_;unfold kj;rw[if_neg (by simp[(d y).mpr a]),if_neg (λz=>n.elim (λq=>by rw[q]at z;cases z.2) λq=>q ((d x).mp z.1)),if_pos m];exact aX.mpr ⟨_,s,W⟩|@b x y g f w _ n m s t e=>refine P.cl _ e _ ?_;unfold kj;rw[if_neg (by simp[(d y).mpr (.t m)]),if_neg (λz=>by rw[n]at z;cases z.2),if_neg (by simp[m])];exact xb.mpr ⟨_,s,by rw[show jw w (bf ps y)=Z f from N1 (hw y) t];rfl⟩
def Zqj(d:∀x,ah x=be↔Ah (bf ps) 'k' x)(hw:∀i,((bf ps i).map (·.1)).Nodup)(P:PL ps h ah p L)(e:∀a∈L,¬Ft (bf ps) 'k' ev a.1 a.2):∀x y,Cs (bf ps) 'k' p x y->¬Ft (bf ps) 'k' ev x y:=λx y c=>e (x,y) (Zqi d hw P c)
end
section
variable {ps:List Pl}{os:List Int}
variable (cl:∀q∈os,∀y∈kh ps q,y∈os)
include cl
end
def pH(h:g c=Z (.ret d)):a7 g u c=Z (.ret d):=by simp[a7,h]
theorem pI(h:t c=Z be):bD t g u c=g c:=by simp[bD,h]
noncomputable def N2(h:Int):Pl->Bool|.say a b _=>a==h||b==h|.fin=>bi
theorem wG:aB ps h i=N2 h (aC ps i):=by rfl
def q9{n:Nat}(hn:1<=n)(p:Pl)(h:Int):Tab n .fg [p.toD,.int h]=Z (.bl (N2 h p)):=by obtain⟨k,rfl,e⟩:=bB (c:=0) hn;have d:eU 64 p.toD jR=Z (.bl p.ki):=ZsS p;cases p with|fin=>rfl|say a b cs=>exact dB (n:=2) (ds:=[(Pl.say a b cs).toD,.int h]) (g:=MA (Tab k)) (dH (kY (ak W W d) (MX (ak W W eq_int) (ak W W eq_int)))) W
noncomputable def cy(h a b:Int):D:=if(a==h)=be then .tup [.str "says",.int b]else .tup [.str "hears",.int a]
def Fg{n:Nat}(hn:1<=n)(a b h:Int)(cs:List Ch):Tab n .fh [(Pl.say a b cs).toD,.int h]=Z (cy h a b):=by
 obtain⟨k,rfl,d⟩:=bB (c:=0) hn;refine dB (n:=2) (ds:=[(Pl.say a b cs).toD,.int h]) (g:=MB (Tab k)) ?_ W;have e:cB (ab (bg 64) (ab ar (aa 0) 'a') (aa 1)) [Z (Pl.say a b cs).toD,Z (.int h)]=Z (a==h):=aN (ak W W eq_int);unfold cy;generalize(a==h)=q at e;cases q;·exact sk e W
 ·exact rt e W
structure oq(cs:List Ch):Prop where
 le:cs.length<=5
 nd:(cs.map (·.1)).Nodup
 ok:∀c∈cs,iU (.str c.1)=be/\c.2.1.dp<=2
def pJ(h:(Pl.say a b cs).O2 m N):oq cs:=⟨h.2.2.2.2.2.2.1,h.2.2.2.2.2.2.2.2,λc d=>let q:=h.2.2.2.2.2.2.2.1 c d;⟨q.1,q.2.2.1⟩⟩
noncomputable def kW(c:Ch):Key:=.inr c.1
noncomputable def vW(c:Ch):D:=c.2.1.toD
noncomputable def nW(c:Ch):D:=.int c.2.2
def ZsX{cs:List Ch}:(.inr w:Key)∈cs.map kW↔w∈cs.map (·.1):=by simp[kW]
def N3{g:Ch->D}{fv:Zaj}{cs:List Ch}(v:oq cs){pre:List (Option SD)}(w:pre.length=i){i1 i2 i3:Nat}{post:Option SD->Option SD->Option SD->List (Option SD)}{Q:aK->Prop} (hs:∀(c:Ch)(ks:List Key)(ds:List D)(p o2 q:Option SD),c∈cs->ks.length<=5->∃t,x (cg c) (pre++Z (.ow (Z ks) ds)::post p o2 q)=Z t/\Ev (gb t) (λo=>∃e f h,o=.aF (pre++Z (.ow (Z (gS ks (kW c))) (DL.hq ks ds (kW c) (g c)))::post e f h))) (y:∀p o2 q,Q (.aF (pre++Z (.ow (Z (cs.map kW)) (cs.map g))::post p o2 q))) (p o2 q:Option SD):Ev (c9 x gb (cs.map cg) (pre++Z (.ow (Z []) [])::post p o2 q)) Q:=by
 refine l6 (λR (j:Nat) r=>∃e f h,r=pre++Z (.ow (Z ((cs.take j).map kW)) ((cs.take j).map g))::post e f h) ⟨_,_,_,W⟩ ?_ ?_
 ·rintro j d r A ⟨e,f,h,rfl⟩;rw[bJ,bQ]at A;obtain⟨c,m,rfl⟩:=A;have B:=cu m;obtain⟨t,C,E⟩:=hs c ((cs.take j).map kW) ((cs.take j).map g) e f h B (by rw[aG,ly];have:=v.le;lia);refine⟨t,C,E.imp ?_⟩;rintro o ⟨H,I,J,rfl⟩;have u:kW c∉(cs.take j).map kW:=λz=>by have z:c.1∈(cs.take j).map (·.1):=ZsX.mp z;obtain⟨O,T⟩:=bt.mp m;rw[QW]at z;obtain⟨i,w,L⟩:=List.getElem_of_mem z;rw[ly,aG]at w;rw[List.getElem_take]at L;have:=(GP (i:=i) (j:=j) 'm' v.nd).mp 'm';lia
  obtain⟨M,N⟩:=z4 (d:=g c) u (show((cs.take j).map kW).length=((cs.take j).map g).length by simp);rw[M,N];refine iF ⟨H,I,J,?_⟩;rw[lD,m,cz,cz];rfl
 ·rintro r ⟨e,f,h,rfl⟩;rw[aG,m8];exact y e f h
def N4{n:Nat}(hn:1<=n){cs:List Ch}(f:oq cs):Tab n .fi [(Pl.say a b cs).toD]=Z (.aW (cs.map kW) (cs.map vW)):=by
 obtain⟨k,rfl,j⟩:=bB (c:=0) hn;refine Ev.eq ?_;rw[tab];refine l8 (np:=1) (n:=5) (gb:=Ek (Tab k)) ?_;unfold Ek;refine bx (zY (bo (bx (oi (by rfl) ?_))));refine N3 (g:=vW) f (pre:=[nr ((Pl.say a b cs).toD)]) (i:=1) W (i1:=0) (i2:=0) (i3:=0) (fv:=λ_=>am) (post:=λd o2 e=>[d,o2,e]) (λc ks ds d o2 e m h=>?_) (λd o2 e=>?_) am am am;·exact⟨_,W,zS W W W W (fo h) ⟨nr (.str c.1),nr c.2.1.toD,nr (.int c.2.2),W⟩⟩
 ·exact bo ⟨_,W,mY W⟩
def wH(f g c e:D)(s:Bool):Option D:=(eU 64 f g).bind λd=>match d with|.bl be=>Z (.bl bi)|.bl bi=>if s=be then v5 64 c e else(d2 [am,Z 3,Z 4] (yP (aa 3)) (gN 0) (cB (ab iQ (aa 0) (aa 2))) (ab (bg 64) (ab iP (aa 1) (aa 0)) (ab iP (aa 2) (aa 0))) [am,am,am,Z c,Z e]).bind λl=>nO [l]|_=>am
def N5{n:Nat}(hn:2<=n){cs cs':List Ch}(q:oq cs)(j:oq cs')(e:wH (cy h a b) (cy h f g) (.aW (cs.map kW) (cs.map vW)) (.aW 't' (cs'.map vW)) (a==h)=Z (.bl r)):Tab n .fj [(Pl.say a b cs).toD,(Pl.say f g cs').toD,.int h]=Z (.bl r):=by
 obtain⟨k,rfl,i⟩:=bB (c:=1) hn;have t:=Fg i a b h cs;have u:=Fg i f g h cs';have k1:=N4 i (a:=a) (b:=b) q;have v:=N4 i (a:=f) (b:=g) j;generalize D.aW (cs.map kW) (cs.map vW)=m at*;generalize D.aW 't' (cs'.map vW)=p at*;generalize cy h a b=C at*;generalize cy h f g=R2 at*;have w:ar (Pl.say a b cs).toD (.int 1)=Z (.int a):=aY ei;generalize(Pl.say a b cs).toD=x at*;generalize(Pl.say f g cs').toD=y at*;have z:zu (Tab k) [Z x,Z y,Z (.int h),am,am]=Z (.ret (.bl r)):=by
  unfold zu;refine bS e λd A e=>?_;have t1:ab (eU 64) (aw (Tab k .fh) (ag [aa 0,aa 2])) (aw (Tab k .fh) (ag [aa 1,aa 2])) [Z x,Z y,Z (.int h),am,am]=Z d:=ak (aE 'e' t) (aE 'e' u) A;split at e;·cases e;exact pH (by rw[pI (aN t1)];rfl)
  ·rw[iV (ρ':=[Z x,Z y,Z (.int h),am,am]) (by rw[oe (aN t1)];rfl)];rw[iV (qV (aE 'x' k1)),iV (qV (aE 'x' v))];show a7 _ _ [Z x,Z y,Z (.int h),Z m,Z p]=_;have t2:cB (ab (bg 64) (ab ar (aa 0) 'a') (aa 2)) [Z x,Z y,Z (.int h),Z m,Z p]=Z (a==h):=aN (ak (ak W W w) W eq_int);split at e;·rename_i hs;rw[hs]at t2;exact pH (by rw[pI t2];exact dH (ak W W e))
   ·rename_i hs;rw[pW.mpr hs]at t2;rw[iV (ρ':=[Z x,Z y,Z (.int h),Z m,Z p]) (by rw[oe t2];rfl)];exact bS e λl B e=>dH (aE (ae B W) e)
  ·injection e
 rw[tab];show((zu (Tab k) [Z x,Z y,Z (.int h),am,am]).bind _)=_;grind
def Aa(h a b:Int):pT 64 (cy h a b)=be:=by unfold cy;split<;>rfl
def Zmw(h a b h' c d:Int):∃r,eU 64 (cy h a b) (cy h' c d)=Z (.bl r):=by obtain⟨r,e,_⟩:=tU 64 _ _ (Aa h a b) (Aa h' c d);exact⟨!r,by simp[eU,e]⟩
def N6{K c:Kd}(h:K.dp<=2)(h':c.dp<=2):∃r,cY 64 K.toD c.toD=Z r:=ax (tU 64 _ _ (zN K (by omega)) (zN c (by omega))) λr e _=>⟨r,e⟩
theorem Fh:∀{cs:List Ch},atK (cs.map kW) (cs.map vW) k=Z y->∃c∈cs,y=vW c
 |[],h=>by simp[atK]at h|c::cs,h=>by
  have h':(if kW c=k then Z (vW c)else atK (cs.map kW) (cs.map vW) k)=Z y:=h;split at h';·exists h';exact⟨c,bZ,W⟩
  ·obtain⟨d,f,e⟩:=Fh (cs:=cs) h';exact⟨d,b8 _ f,e⟩
theorem N7{cs':List Ch}(h':∀c∈cs',c.2.1.dp<=2):∀{cs:List Ch},(∀c∈cs,c.2.1.dp<=2)->∃r,lU 64 't' (cs'.map vW) (cs.map kW) (cs.map vW)=Z r|[],_=>⟨be,W⟩|c::cs,h=>by obtain⟨r,e⟩:=N7 (cs':=cs') h' (cs:=cs) 'm';show ∃r,(match atK 't' (cs'.map vW) (kW c)with|none=>Z bi|some y=>(cY 64 (vW c) y).bind λe=>(lU 64 't' (cs'.map vW) (cs.map kW) (cs.map vW)).map (e&& ·))=Z r;cases z:atK 't' (cs'.map vW) (kW c)with|none=>exact⟨bi,W⟩|some y=>obtain⟨d,f,rfl⟩:=Fh (cs:=cs') z;obtain⟨q,u⟩:=N6 (h c bZ) (h' d f);exact⟨q&&r,by simp only[e];rw[show cY 64 (vW c) (vW d)=Z q from u];rfl⟩
theorem N8{C cs':List Ch}(h':∀c∈cs',c.2.1.dp<=2)(g:(C.map (·.1)).Nodup):∀(cs:List Ch)(o:Option D),(∀c∈cs,c∈C/\c.2.1.dp<=2)->∃bs:List Bool,cn (gN 0) (cB (ab iQ (aa 0) (aa 2))) (ab (bg 64) (ab iP (aa 1) (aa 0)) (ab iP (aa 2) (aa 0))) [o,Z (.aW (C.map kW) (C.map vW)),Z (.aW 't' (cs'.map vW))] ((cs.map kW).map kD)=Z (bs.map D.bl)|[],_,_=>⟨[],W⟩|c::cs,o,h=>by obtain⟨bs,e⟩:=N8 (cs':=cs') h' g cs (Z (.str c.1)) 'm';have f:iQ (.str c.1) (.aW 't' (cs'.map vW))=Z (.bl (atK 't' (cs'.map vW) (kW c)).isSome):=rfl;show ∃bs:List Bool,cn _ _ _ _ (.str c.1::(cs.map kW).map kD)=Z (bs.map D.bl);cases z:atK 't' (cs'.map vW) (kW c)with
  |none=>rw[z]at f;refine⟨bs,?_⟩;have j:cB (ab iQ (aa 0) (aa 2)) [Z (.str c.1),Z (.aW (C.map kW) (C.map vW)),Z (.aW 't' (cs'.map vW))]=Z bi:=aN (ak W W f);simp only[cn,gN,Be,bb,j,lC,if_false];exact e|some y=>
   rw[z]at f;obtain⟨d,m,rfl⟩:=Fh (cs:=cs') z;have p:atK (C.map kW) (C.map vW) (kW c)=Z (vW c):=by obtain⟨i,_⟩:=h c bZ;clear e z f h;induction C with|nil=>cases i|cons x C r=>
     rw[bG,d8]at g;show(if kW x=kW c then Z (vW x)else atK (C.map kW) (C.map vW) (kW c))=_;rcases a6.mp i with q|q;·simp_all
     ·rw[if_neg λz=>g.1 (by rw[show x.1=c.1 from xG z];grind)];grind
   obtain⟨q,u⟩:=N6 (h c bZ).2 (h' d m);refine⟨q::bs,jr (ρ':=[Z (.str c.1),Z (.aW (C.map kW) (C.map vW)),Z (.aW 't' (cs'.map vW))]) W (aN (ak W W f)) (ak (ak W W (qZ W p)) (ak W W (qZ W z)) ?_) e⟩;show(cY 64 (vW c) (vW d)).map D.bl=_;rw[show cY 64 (vW c) (vW d)=Z q from u];rfl
def Zs0(h a b g i:Int){cs cs':List Ch}(f:oq cs)(d:oq cs'):∃r,wH (cy h a b) (cy h g i) (.aW (cs.map kW) (cs.map vW)) (.aW 't' (cs'.map vW)) (a==h)=Z (.bl r):=by obtain⟨r,e⟩:=Zmw h a b h g i;unfold wH;rw[e,bb];cases r with|true=>exact⟨bi,W⟩|false=>
  simp only;split;·obtain⟨r,e⟩:=N7 (cs':=cs') (λc q=>(d.ok c q).2) (cs:=cs) λc d=>(f.ok c d).2;show ∃r,(if(cs.map kW).length='t'.length then(lU 64 't' (cs'.map vW) (cs.map kW) (cs.map vW)).map D.bl else Z (.bl bi))=Z (.bl r);grind
  ·obtain⟨bs,e⟩:=N8 (C:=cs) (cs':=cs') (λc q=>(d.ok c q).2) f.nd cs am λc j=>⟨j,(f.ok c j).2⟩;refine⟨bs.all id,?_⟩;rw[iT (by rfl) (small (by simp;have:=f.le;exact fo this)) e,bb];have:=all_map id bs;simpa using this
def pK(k:Nat)(h:Int)(p q:Pl):Bool:=decide (Tab k .fj [p.toD,q.toD,.int h]=Z (.bl be))
theorem N9{k:Nat}{p q:Pl}(t:Tab k .fj [p.toD,q.toD,.int h]=Z (.bl r)):pK k h p q=r:=by simp_all[pK]
def Zs2{n:Nat}(hn:2<=n){p q:Pl}(c:p.O2 m N)(z:q.O2 m N)(sp:p.ki=be)(d:q.ki=be):Tab n .fj [p.toD,q.toD,.int h]=Z (.bl (pK n h p q)):=by cases p with|fin=>injection sp|say a b cs=>cases q with|fin=>injection d|say f g cs'=>obtain⟨r,e⟩:=Zs0 h a b f g (pJ c) (pJ z);have t:=N5 hn (pJ c) (pJ z) e;rw[N9 t,t]
def big{n:Nat}(h:n<=1000000):n<aA:=by show n<2^24;lia
section
variable {i:Nat}{r:aj}{Q:aK->Prop}{ds es:List D}{f:Zaf}{fi fo:Zaj}{x:D}{j:Int}
def Zs3(h:g (fz r)=Z ds)(hn:r.all lW=be)(k:Q (.aF (r.set i (Z (.xt .n ds))))):Ev (tE i g r) Q:=⟨_,by unfold tE;rw[h,bb,if_pos hn],k⟩
def Zs4(c:fi r=Z (.int j))(d:fo r=Z x)(e:r[i]?=Z (Z (.xt .n ds)))(g:0<=j)(h:ds[j.toNat]?=Z (.lst es))(m:es.length<aA)(k:Q (.aF (r.set i (Z (.xt .n (ds.set j.toNat (.lst (es++[x])))))))):Ev (yX i fi fo r) Q:=⟨_,by simp_all[yX,bb,if_pos],k⟩
def Zs5(c:iC i r=Z ds)(d:f (fz r)=Z (.lst es))(e:ds.length+es.length<=aA)(g:cf es=be)(k:Q (.aF (r.set i (Z (.own (ds++es)))))):Ev (yY i f r) Q:=⟨_,by simp_all[yY,bb,if_pos],k⟩
end
def Zmx(l:List D):∀o:Option D,cn (gN 0) (λ_=>Z be) (cC (.lst [])) [o] l=Z (l.map λ_=>.lst []):=by induction l with|nil=>intro o;rfl|cons d l c=>intro o;exact jr (ρ':=[Z d]) W W W (c _)
theorem N_{k:Nat}(f:1<=k){ps:List Pl}{h:Int}:∀(t a:Nat)(o:Option D),a+t=ps.length->∃T:List Int,cn (gN 0) (cB (aw (Tab k .fg) (ag [ab ar (aa 2) (aa 0),aa 1]))) (aa 0) [o,Z (.int h),Z 'g'] ((oI a t).map λ(i:Nat)=>D.int (i:Int))=Z (T.map .int)/\(∀x,x∈T↔(a:Int)<=x/\x<ps.length/\aB ps h x=be)/\T.length<=t
 |0,a,o,j=>⟨[],W,'m',a9 _⟩|t+1,a,o,j=>by
  refine aJ (N_ f (ps:=ps) (h:=h) t (a+1) (Z (.int (a:Int))) 'c') λT e p g=>?_;have d:=kf (m:=0) (ps:=ps) (i:=(a:Int)) 'o' 'c';have c:cB (aw (Tab k .fg) (ag [ab ar (aa 2) (aa 0),aa 1])) [Z (.int (a:Int)),Z (.int h),Z 'g']=Z (aB ps h a):=by rw[wG];exact aN (aE (ae (ak W W (aY d)) 'x') (q9 f _ _))
  rw[xE,bG];cases z:aB ps h a with|true=>rw[z]at c;refine⟨(a:Int)::T,jr (ρ':=[Z (.int (a:Int)),Z (.int h),Z 'g']) W c W e,λx=>?_,xm g⟩;grind|false=>
   rw[z]at c;refine⟨T,?_,λx=>?_,A7 g⟩;·simp only[cn,gN,Be,bb,c,lC,if_false];exact e
   grind
noncomputable def q_(l:List Int):D:=.lst (l.map .int)
structure Ab(ps:List Pl)(S:List 'u')(P:Int->Int->Prop)(c:Nat):Prop where
 len:S.length=ps.length
 mem:∀(j:Nat)(l:List Int),S[j]?=Z l->∀x,x∈l↔P x (j:Int)
 le:∀(j:Nat)(l:List Int),S[j]?=Z l->l.length<=c
def Zql{S:List 'u'}{c:Nat}{j:Nat}(h:Ab ps S P c)(f:S[j]?=Z l)(g:∀x y,q x y↔P x y\/x=i/\y=(j:Int)):Ab ps (S.set j (l++[i])) q (c+1):=by
 have p:=(bt.mp f).1;refine⟨by rw[d9];exact h.len,λm r e x=>?_,λm r e=>?_⟩
 ·by_cases d:j=m
  ·subst d;rw[gq p]at e
   exists e;rw[bU,h.mem _ _ f,g,aZ];simp
  ·rw[c4 d]at e;rw[h.mem _ _ e,g];grind
 ·by_cases d:j=m
  ·subst d;rw[gq p]at e
   exists e;have:=h.le _ _ f;rw[bH];exact Rv this (a9 _)
  ·rw[c4 d]at e;exact A7 (h.le _ _ e)
structure WT(ps:List Pl)(h:Int)(K ad:List Int):Prop where
 nd:K.Nodup
 kr:∀x∈K,0<=x/\x<ps.length
 wr:∀x∈ad,0<=x/\x<ps.length
 ka:∀x∈K,Ah (bf ps) 'k' x
 wa:∀x∈ad,Ah (bf ps) 'k' x
 tu:∀x:Int,0<=x->x<ps.length->aB ps h x=be->x∈K\/x∈ad
 cl:∀y∈K,∀x:Int,0<=x->x<ps.length->y∈kh ps x->x∈K\/x∈ad
def Ac:Sc (bf ps) x y↔y∈kh ps x:=by
 constructor;·rintro⟨w,s⟩;obtain⟨c,d,e⟩:=aX.mp s;cases e;exact aX.mpr ⟨c,d,W⟩
 ·intro s;obtain⟨c,d,e⟩:=aX.mp s;exact⟨c.1,aX.mpr ⟨c,d,by rw[<-e]⟩⟩
def Oa{x:Int}:Ah (bf ps) 'k' x↔Ah (bf ps) 'k' (x.toNat:Nat):=by
 have c:bf ps ((x.toNat:Nat):Int)=bf ps x:=by unfold bf aC;rw[mn]
 have d:aB ps h ((x.toNat:Nat):Int)=aB ps h x:=by unfold aB aC;rw[mn]
 constructor;·intro a;induction a using Ah.casesOn with|t q=>exact .t (by rw[d];exact q)|s q k=>exact .s (by obtain⟨w,q⟩:=q;exact⟨w,by rw[c];exact q⟩) k
 ·intro a;cases a with|t q=>exact .t (by rw[<-d];exact q)|s q k=>exact .s (by obtain⟨w,q⟩:=q;exact⟨w,by rw[<-c];exact q⟩) k
def Ob(g:GW ps)(w:WT ps h K []):∀x,decide (((x.toNat:Nat):Int)∈K)=be↔Ah (bf ps) 'k' x:=λx=>by
 rw[decide_eq_true_iff];constructor;·exactλq=>Oa.mpr (w.ka _ q)
 ·intro a;have:∀x,Ah (bf ps) 'k' x->0<=x->x<ps.length->x∈K:=λx a=>by induction a with
   |t q=>exactλc d=>(w.tu _ c d q).resolve_right 'o'|@s u v q _ i=>intro c d;have q:=Ac.mp q;have f:=NS g u v q;exact(w.cl v (i f.1 f.2) u c d q).resolve_right 'o'
  refine this _ (Oa.mp a) 'c' ?_;have j:x.toNat<ps.length:=by
   have:(aC ps x).ki=be:=by cases a with
    |t q=>unfold aB at q;cases e:aC ps x with|fin=>simp_all|say _ _ _=>rfl
    |s q k=>obtain⟨w,q⟩:=q;unfold bf at q;cases e:aC ps x with|fin=>rw[e]at q;cases q|say _ _ _=>rfl
   by_cases z:x.toNat<ps.length
   ·exact z
   ·rw[show aC ps x=.fin by unfold aC;rw[uP 'c'];rfl]at this;injection this
  lia
def Zqm{n:Nat}(hn:2<=n){ps:List Pl}(hG:GW ps)(h:Int):∃K:List Int,Tab n .fk [.tup (ps.map Pl.toD),.int h]=Z (.aW (K.map kI) (K.map λ_=>.bl be))/\WT ps h K []:=by
 obtain⟨k,rfl,hk⟩:=bB (c:=1) hn;have Fc:=hG.n2;have hL:cS [.tup (ps.map Pl.toD)]=Z (.int (ps.length:Nat)):=by show Z (D.int ((ps.map Pl.toD).length:Nat))=_;rw[aG]
 suffices hh:Ev (Tab (k+1) .fk [.tup (ps.map Pl.toD),.int h]) λd=>∃K:List Int,d=.aW (K.map kI) (K.map λ_=>.bl be)/\WT ps h K [] from ax hh λ_ e u=>ax u λK h k=>⟨K,h▸e,k⟩;rw[tab];refine l8 (np:=2) (n:=8) (gb:=El (Tab k)) ?_;unfold El;refine bx (Zs3 (qX (kg W W) (small 'm') (Zmx _ _)) W (bo (bx (oi (by rfl) ?_))));show Ev (c9 _ _ _ [_,_,_,_,_,_,_,_]) _;refine l6 (λR (i:Nat) r=>∃S J Y B,r=[nr 'g',nr (.int h),Z (.xt .n (S.map q_)),J,Y,B,am,am]/\Ab ps S (λx y=>0<=x/\x<(i:Int)/\y∈kh ps x) (5*i)) ⟨ps.map λ_=>[],_,_,_,by rw[gX,gX];rfl,by rw[aG],λj l e x=>?_,λj l e=>?_⟩ ?_ ?_;·grind
 ·rw[bJ,bQ]at e;obtain⟨_,_,rfl⟩:=e;exact dZ _
 ·rintro i d r hd ⟨S,J,Y,B,rfl,g⟩;obtain⟨y,hy,rfl⟩:=zU _ _ _ _ hd;rw[bJ,bQ]at hy;obtain⟨p,hp,rfl⟩:=hy;have hi:=(bt.mp hp).1;have xW:aC ps (i:Int)=p:=by unfold aC;rw[mn,hp];rfl
  have L:=ua hG (i:Int);have M:kh ps (i:Int)=(aC ps (i:Int)).bK.map λc:Ch=>c.2.2:=rfl;rw[xW]at L M;rw[oH];refine⟨_,W,oi (kg (aE 'x' (Np hk p)) W) ?_⟩;generalize p.bK=cs at*;show Ev (c9 _ _ _ [_,_,_,_,_,_,_,_]) _;refine l6 (λR (t:Nat) r=>∃S B,r=[nr 'g',nr (.int h),Z (.xt .n (S.map q_)),nr (.int (i:Int)),nr p.toD,B,am,am]/\Ab ps S (λx y=>0<=x/\x<(i:Int)/\y∈kh ps x\/x=i/\y∈(cs.take t).map λc:Ch=>c.2.2) (5*i+t)) ⟨S,_,W,g.len,λj l e x=>by rw[g.mem j l e];simp,g.le⟩ ?_ ?_
  ·rintro t d r hd ⟨S,B,rfl,g⟩;rw[bJ,bQ]at hd;obtain⟨c,hc,rfl⟩:=hd;have hcm:=cu hc;have N:=(L.2 c hcm).2.2.2;have ht:=(bt.mp hc).1;obtain⟨l,C⟩:∃l,S[c.2.2.toNat]?=Z l:=⟨_,cF (by rw[g.len];lia)⟩;have hz:=g.le _ _ C;refine⟨_,W,Zs4 (es:=l.map .int) (bN (ak W W (aY at2))) W W N.1 (by rw[bJ,C];rfl) (small 'm') (iF ⟨S.set c.2.2.toNat (l++[(i:Int)]),nr (cg c),?_,?_⟩)⟩;·simp[uR,q_,set,cz]
   ·refine Zql g C λx y=>?_;rw[lD,hc,cz,bU];simp only[Ry,bG,uF,aZ];rw[jY N.1];constructor
    ·rintro(q|⟨q,q'|q'⟩)
     ·exact .inl (.inl q)
     ·exact .inl (.inr ⟨q,q'⟩)
     ·exact .inr ⟨q,q'⟩
    ·rintro((q|q)|⟨q,q'⟩)
     ·exact .inl q
     ·exact .inr ⟨q.1,.inl q.2⟩
     ·exact .inr ⟨q,.inr q'⟩
  ·rintro r ⟨S,B,rfl,g⟩;rw[aG,m8,<-M]at g;refine iF ⟨S,_,_,_,W,g.len,λj l e x=>?_,λj l e=>?_⟩
   ·rw[g.mem j l e];grind
   ·have:=g.le j l e;grind
 ·rintro r ⟨S,J,Y,B,rfl,g⟩;rw[sM,aG]at g;refine aJ (N_ (k:=k) hk (ps:=ps) (h:=h) ps.length 0 am (by exact oH _)) λT hT E Ym=>?_;rw[<-xF,<-k6]at hT;refine bo (bx (zY (bo (bx (mX (zI (qX (kZ (aE 'x' hL) 'o' 'c') (small (by rw[k6,aG,kz];exact fo Fc)) (by rw[mn];exact hT)) (k7 (f:=D.int) (λ_=>rfl) T)) (bo (bx ?_)))))));show Ev (ig _ _ _ [_,_,_,_,_,_,_,_]) _;refine tY (λn r=>∃(K ad:List Int)(J:Option SD),r=[nr 'g',nr (.int h),Z (.xt .n (S.map q_)),J,Y,B,Z (.ow (Z (K.map kI)) (K.map λ_=>.bl be)),Z (.own (ad.map .int))]/\WT ps h K ad/\ad.length+651*(ps.length-K.length)+1<=n/\n<=99999) ?_ ?_ 99999 _ ⟨[],T,_,W,⟨.nil,by simp,λx m=>let q:=(E x).mp m;⟨q.1,q.2.1⟩,by simp,λx m=>.t ((E x).mp m).2.2,λx v A q=>.inr ((E x).mpr ⟨v,A,q⟩),by simp⟩,by grind⟩
  ·simp
  rintro n r ⟨K,ad,J,rfl,w,hm,sF⟩;have hKl:=zX ps.length w.nd w.kr;rcases Zx3 ad with rfl|⟨O,y,rfl⟩
  ·exact .inl ⟨(by rfl),bo ⟨_,W,mY ⟨K,W,w⟩⟩⟩
  refine .inr ⟨aN (ak (aE 'x' W) W (by show Z (D.bl (decide _))=_;rw[decide_eq_true (by simp<;>omega)])),?_⟩;rw[Zx4]at w hm⊢;rw[bH]at hm;simp only[bz,lz]at hm;have H:=w.wr y 'o';have Q:=w.wa y 'o';have hni:mN (.int y) (.aW (K.map kI) (K.map λ_=>.bl be))=Z (.bl (!decide (y∈K))):=by show Z (D.bl (!(atK (K.map kI) (K.map λ_=>.bl be) (.inl y)).isSome))=_;rw[show(atK (K.map kI) (K.map λ_=>D.bl be) (.inl y)).isSome=decide (y∈K) from rC.mpr (((zZ 'o').trans (by simp[kI])).trans decide_eq_true_iff.symm)]
  refine bx (NI (xs:=O.map .int) (x:=.int y) (by show Z _=_;rw[cz];rfl) (bo (NH (NG (aN (ak W W hni))) ?_)));have rest:∀x,x∈O++[y]->x∈O\/x=y:=λx m=>by grind
  by_cases hy:y∈K
  ·refine hE 'm' (gU (iF ⟨K,O,_,W,⟨w.nd,w.kr,λx m=>w.wr x (by simp[m]),w.ka,λx m=>w.wa x (by simp[m]),λx v A q=>?_,λz hz x v A q=>?_⟩,by lia⟩))
   ·rcases w.tu x v A q with z|z
    ·exact .inl z
    grind
   ·rcases w.cl z hz x v A q with z|z
    ·exact .inl z
    grind
  ·obtain⟨l,C⟩:∃l,S[y.toNat]?=Z l:=⟨_,cF (by rw[g.len];lia)⟩
   have I:∀x,x∈l↔0<=x/\x<(ps.length:Int)/\y∈kh ps x:=λx=>by have:=g.mem _ _ C x;grind
   have hz:=g.le _ _ C;have q8:b4 (S.map q_) y=Z (q_ l):=by have:=pq (xs:=S.map q_) (i:=y.toNat) (by rw[aG,g.len];lia);rw[jY H.1]at this;rw[this,G4,(bt.mp C).2]
   obtain⟨p1,p2⟩:=z4 (d:=.bl be) (j:=.inl y) (ks:=K.map kI) (ds:=K.map λ_=>.bl be) (λz=>ax (aX.mp z) λ_ h e=>hy (Zx5 e▸h)) 'o';have U:(K++[y]).length<=ps.length:=zX ps.length (mr.mpr ⟨w.nd,by simp,'m'⟩) λx m=>by
    rcases bU.mp m with q|q
    ·exact w.kr x q
    ·rw[aZ.mp q];exact H
   rw[bH]at U;simp only[bz,lz]at U;refine js 'm' (bx (zS W W W W 'm' (bo (Zs5 W (ak W W (oj q8)) (gK (big 'm')) (k7 (f:=D.int) (λ_=>rfl) l) (iF ⟨K++[y],O++l,_,by rw[p1,p2];simp only[cz];rfl,⟨?_,?_,?_,?_,?_,?_,?_⟩,?_⟩)))))
   ·exact mr.mpr ⟨w.nd,by simp,'m'⟩
   ·intro x m;rcases bU.mp m with q|q
    ·exact w.kr x q
    ·rw[aZ.mp q];exact H
   ·intro x m;rcases bU.mp m with q|q
    ·exact w.wr x (by simp[q])
    ·have:=(I x).mp q;exact⟨this.1,this.2.1⟩
   ·intro x m;rcases bU.mp m with q|q
    ·exact w.ka x q
    ·rw[aZ.mp q];exact Q
   ·intro x m;rcases bU.mp m with q|q
    ·exact w.wa x (by simp[q])
    ·exact .s (Ac.mpr ((I x).mp q).2.2) Q
   ·intro x v A q;rcases w.tu x v A q with z|z
    ·exact .inl (by simp[z])
    grind
   ·intro z hz x v A q;rcases bU.mp hz with hz|hz
    ·rcases w.cl z hz x v A q with z|z
     ·exact .inl (by simp[z])
     grind
    ·rw[aZ.mp hz]at q;exact .inr (dr _ ((I x).mpr ⟨v,A,q⟩))
   grind
abbrev jU:=Int×Int
noncomputable def bT(a:jU):D:=.tup [.int a.1,.int a.2]
def eI(K:List Int):D:=.aW (K.map kI) (K.map λ_=>.bl be)
theorem Oc{K:List Int}:(atK (K.map kI) (K.map λ_=>D.bl be) (.inl x)).isSome=decide (x∈K):=rC.mpr (((zZ 'o').trans (by simp[kI])).trans decide_eq_true_iff.symm)
def ZuW:iQ (.int x) (eI K)=Z (.bl (decide (x∈K))):=by show Z (D.bl (atK (K.map kI) (K.map λ_=>.bl be) (.inl x)).isSome)=_;rw[Oc]
def Od:mN (.int x) (eI K)=Z (.bl (!decide (x∈K))):=by show Z (D.bl (!(atK (K.map kI) (K.map λ_=>.bl be) (.inl x)).isSome))=_;rw[Oc]
def mZ(k:Nat)(ps:List Pl)(h:Int)(K:List Int)(x y:Int):Bool:=aB ps h y&&(!decide (x∈K)||aB ps h x&&!pK k h (aC ps x) (aC ps y))
def wI(e:aB ps h x=be):(aC ps x).ki=be:=by unfold aB at e;cases z:aC ps x with|fin=>simp_all|say _ _ _=>rfl
def Zqn{k:Nat}(j:2<=k){ps:List Pl}(v:G2 m ps){a:jU}(w:0<=a.1/\a.1<ps.length)(y:0<=a.2/\a.2<ps.length):∃d,Tab (k+1) .fo [.tup (ps.map Pl.toD),.int h,eI K,bT a]=Z d/\(d=.aD/\mZ k ps h K a.1 a.2=bi\/(∃s,d=.str s)/\mZ k ps h K a.1 a.2=be):=by
 have z:=kf (m:=m) w.1 w.2;have A:=kf (m:=m) y.1 y.2;have t1:=q9 (n:=k) (fu j) (aC ps a.1) h;have t2:=q9 (n:=k) (fu j) (aC ps a.2) h;have ev:=λp r=>Zs2 (n:=k) j (h:=h) (og v a.1) (og v a.2) p r;have B:=Od (K:=K) (x:=a.1);rw[<-wG]at t1 t2;have p:=λe=>wI (ps:=ps) (h:=h) (x:=a.1) e;have r:=λe=>wI (ps:=ps) (h:=h) (x:=a.2) e;suffices t:∃d,zw (Tab k) [Z 'g',Z (.int h),Z (eI K),Z (bT a),am,am]=Z (.ret d)/\(d=.aD/\mZ k ps h K a.1 a.2=bi\/(∃s,d=.str s)/\mZ k ps h K a.1 a.2=be) by obtain⟨d,e,q⟩:=t;refine⟨d,?_,q⟩;rw[tab];show((zw (Tab k) [Z 'g',Z (.int h),Z (eI K),Z (bT a),am,am]).bind _)=_;grind
 unfold zw;rw[iV (qV (ak W (ak W W (aY gj)) (aY z))),iV (qV (ak W (ak W W (aY ei)) (aY A)))];unfold mZ;generalize aC ps a.1=P at*;generalize aC ps a.2=Q at*;show ∃d,a7 _ _ [Z 'g',Z (.int h),Z (eI K),Z (bT a),Z P.toD,Z Q.toD]=Z (.ret d)/\_;have f:g_ (cB (aw (Tab k .fg) (ag [aa 5,aa 1]))) [Z 'g',Z (.int h),Z (eI K),Z (bT a),Z P.toD,Z Q.toD]=Z (!aB ps h a.2):=n8 (aN (aE 'e' t2));cases z2:aB ps h a.2 with|false=>rw[z2]at f;exact⟨.aD,pH (by rw[pI f];rfl),.inl ⟨W,W⟩⟩|true=>rw[z2]at f;rw[iV (ρ':=[Z 'g',Z (.int h),Z (eI K),Z (bT a),Z P.toD,Z Q.toD]) (by rw[oe f];rfl)];have g:cB (ab mN (ab ar (aa 3) 'h') (aa 2)) [Z 'g',Z (.int h),Z (eI K),Z (bT a),Z P.toD,Z Q.toD]=Z (!decide (a.1∈K)):=aN (ak (ak W W (aY gj)) W B);cases z3:decide (a.1∈K)with|false=>rw[z3]at g;exact⟨_,pH (by rw[pI g];rfl),.inr ⟨⟨_,W⟩,W⟩⟩|true=>rw[z3]at g;rw[iV (ρ':=[Z 'g',Z (.int h),Z (eI K),Z (bT a),Z P.toD,Z Q.toD]) (by rw[oe g];rfl)];have c:cB (aw (Tab k .fg) (ag [aa 4,aa 1])) [Z 'g',Z (.int h),Z (eI K),Z (bT a),Z P.toD,Z Q.toD]=Z (aB ps h a.1):=aN (aE 'e' t1);cases u:aB ps h a.1 with|false=>rw[u]at c;rw[iV (ρ':=[Z 'g',Z (.int h),Z (eI K),Z (bT a),Z P.toD,Z Q.toD]) (by rw[oe (EI c)];rfl)];exact⟨.aD,W,.inl ⟨W,W⟩⟩|true=>rw[u]at c;have ev:=ev (p u) (r z2);have i:g_ (cB (aw (Tab k .fj) (ag [aa 4,aa 5,aa 1]))) [Z 'g',Z (.int h),Z (eI K),Z (bT a),Z P.toD,Z Q.toD]=Z (!pK k h P Q):=n8 (aN (aE (by rfl) ev));cases z5:pK k h P Q with|false=>rw[z5]at i;exact⟨_,pH (by rw[pI (zG c i)];rfl),.inr ⟨⟨_,W⟩,W⟩⟩|true=>rw[z5]at i;rw[iV (ρ':=[Z 'g',Z (.int h),Z (eI K),Z (bT a),Z P.toD,Z Q.toD]) (by rw[oe (zG c i)];rfl)];exact⟨.aD,W,.inl ⟨W,W⟩⟩
abbrev So:=Option (Str×Kd)
noncomputable def ra:So->D|none=>.aD|some s=>.tup [.str s.1,s.2.toD]
def rb:So->Prop|none=>True|some s=>s.2.WF/\s.2.dp<=2
abbrev rd:=jU×So×So
def wJ(s:So×So):D:=.tup [ra s.1,ra s.2]
def ou(e:rd):D:=.tup [bT e.1,wJ e.2]
structure Oe(L:List rd)(P:List jU):Prop where
 eq:L.map (·.1)=P
 le:L.length<=5
 ok:∀e∈L,rb e.2.1/\rb e.2.2
theorem Of:∀{cs:List Ch},(cs.map (·.1)).Nodup->atK (cs.map kW) (cs.map nW) (.inr w)=(jw w (cs.map λc:Ch=>(c.1,c.2.2))).map .int
 |[],_=>rfl|c::cs,hn=>by
  rw[bG,d8]at hn;have h:=Of (w:=w) hn.2;show(if(.inr c.1:Key)=.inr w then Z (D.int c.2.2)else atK (cs.map kW) (cs.map nW) (.inr w))=(match jw w (cs.map λc:Ch=>(c.1,c.2.2))with|some y=>Z y|none=>if c.1=w then Z c.2.2 else am).map .int;by_cases e:c.1=w
  ·rw[if_pos (by rw[e])];have:jw w (cs.map λc:Ch=>(c.1,c.2.2))=am:=by cases z:jw w (cs.map λc:Ch=>(c.1,c.2.2))with
    |none=>rfl|some y=>have:=wF z;obtain⟨d,f,g⟩:=aX.mp this;exact(hn.1 (aX.mpr ⟨d,f,by rw[e];exact(kA g).1⟩)).elim
   simp_all
  grind
def ub(cs':List Ch)(c:Ch):Option rd:=(jw c.1 (cs'.map λc:Ch=>(c.1,c.2.2))).map λz=>((c.2.2,z),Z (c.1,c.2.1),Z (c.1,c.2.1))
theorem Og{cs':List Ch}(hn:(cs'.map (·.1)).Nodup):∀(cs:List Ch)(e f o2:Option D),cn (lQ 3 (dF (gN 0) (dF (gN 1) (dF (gN 2) (lP))))) (cB (ab iQ (aa 0) (aa 3))) (aH (ag [aH (ag [aa 2,ab iP (aa 3) (aa 0)]),aH (ag [aH (ag [aa 0,aa 1]),aH (ag [aa 0,aa 1])])])) [e,f,o2,Z (.aW 't' (cs'.map nW))] (cs.map cg)=Z ((cs.filterMap (ub cs')).map ou)|[],_,_,_=>rfl|c::cs,e,f,o2=>by have h:=Og hn cs (Z (.str c.1)) (Z c.2.1.toD) (Z (.int c.2.2));have g:=Of (w:=c.1) hn;have d:iQ (.str c.1) (.aW 't' (cs'.map nW))=Z (.bl (atK 't' (cs'.map nW) (.inr c.1)).isSome):=rfl;rw[g]at d;rw[FY,bG];unfold ub;cases z:jw c.1 (cs'.map λc:Ch=>(c.1,c.2.2))with|none=>rw[z]at d;have i:cB (ab iQ (aa 0) (aa 3)) [Z (.str c.1),Z c.2.1.toD,Z (.int c.2.2),Z (.aW 't' (cs'.map nW))]=Z bi:=aN (ak W W d);have j:lQ 3 (dF (gN 0) (dF (gN 1) (dF (gN 2) (lP)))) (cg c) [e,f,o2,Z (.aW 't' (cs'.map nW))]=Z [Z (.str c.1),Z c.2.1.toD,Z (.int c.2.2),Z (.aW 't' (cs'.map nW))]:=rfl;simp only[cn,j,bb,i,lC,if_false];exact h|some y=>rw[z]at d g;exact jr (ρ':=[Z (.str c.1),Z c.2.1.toD,Z (.int c.2.2),Z (.aW 't' (cs'.map nW))]) W (aN (ak W W d)) (bc (ae (bc (ae W (ae (ak W W (qZ W g)) W))) (by rfl))) h
theorem Zmz(s:So):gE (ra s)=be:=by cases s with|none=>rfl|some s=>simp[ra,gE,iD,z6]
def ZmA(e:rd):gE (ou e)=be:=by simp[ou,wJ,bT,gE,iD,Zmz]
def ZmB{n:Nat}(hn:1<=n){cs:List Ch}(m:oq cs)(d:oq cs'):Tab n .fq [(Pl.say a b cs).toD,(Pl.say h j cs').toD]=Z (.lst ((cs.filterMap (ub cs')).map ou)):=by
 obtain⟨k,rfl,q⟩:=bB (c:=0) hn;refine Ev.eq ?_;rw[tab];refine l8 (np:=2) (n:=6) (gb:=Eo (Tab k)) ?_;unfold Eo;refine bx (zY (bo (bx (oi (by rfl) ?_))));refine N3 (g:=nW) d (pre:=[nr ((Pl.say a b cs).toD),nr ((Pl.say h j cs').toD)]) (i:=2) W (i1:=0) (i2:=0) (i3:=0) (fv:=λ_=>am) (post:=λe o2 f=>[e,o2,f]) (λc ks ds e o2 f r p=>?_) (λe o2 f=>?_) am am am;·exact⟨_,W,zS W W W W (fo p) ⟨nr (.str c.1),nr c.2.1.toD,nr (.int c.2.2),W⟩⟩
 ·refine bo (NJ (NF (iT (cap:=[am,am,am,Z 2]) (by rfl) (small (by rw[aG];have:=m.le;exact fo this)) (Og d.nd cs am am am)) ?_) (mY W));simp[gE,NV ZmA]
noncomputable def rf(K:List Int)(x:Int):Bool:=decide (((x.toNat:Nat):Int)∈K)
theorem Fi(h:0<=x):rf K x=decide (x∈K):=by unfold rf;rw[jY h]
def Oh(a:Ah (bf ps) 'k' x):(aC ps x).ki=be:=by cases a with|t q=>exact wI q|s q k=>obtain⟨w,q⟩:=q;unfold bf at q;cases e:aC ps x with|fin=>rw[e]at q;cases q|say _ _ _=>rfl
def uc{p:Pl}(h:p.ki=be):∃a b cs,p=.say a b cs:=by cases p with|fin=>injection h|say a b cs=>exact⟨a,b,cs,W⟩
theorem Oi{b:Int}(d:ar y (.int 1)=Z (.int b)):∀(cs:List Ch)(e f o2:Option D),cn (lQ 3 (dF (gN 0) (dF (gN 1) (dF (gN 2) (lP))))) (λ_=>Z be) (aH (ag [aH (ag [aa 2,ab ar (aa 3) 'a']),aH (ag [aH (ag [aa 0,aa 1]),cC .aD])])) [e,f,o2,Z y] (cs.map cg)=Z ((cs.map λc=>(((c.2.2,b),Z (c.1,c.2.1),am):rd)).map ou)|[],_,_,_=>rfl|c::cs,e,f,o2=>jr (ρ':=[Z (.str c.1),Z c.2.1.toD,Z (.int c.2.2),Z y]) W W (bc (ae (bc (ae W (ae (ak W W d) W))) (ae (bc (ae (bc 'e') 'x')) W))) (Oi d cs _ _ _)
theorem Oj{b:Int}(d:ar y (.int 0)=Z (.int b)):∀(cs:List Ch)(e f o2:Option D),cn (lQ 3 (dF (gN 0) (dF (gN 1) (dF (gN 2) (lP))))) (λ_=>Z be) (aH (ag [aH (ag [ab ar (aa 3) 'h',aa 2]),aH (ag [cC .aD,aH (ag [aa 0,aa 1])])])) [e,f,o2,Z y] (cs.map cg)=Z ((cs.map λc=>(((b,c.2.2),am,Z (c.1,c.2.1)):rd)).map ou)|[],_,_,_=>rfl|c::cs,e,f,o2=>jr (ρ':=[Z (.str c.1),Z c.2.1.toD,Z (.int c.2.2),Z y]) W W (bc (ae (bc (ae (ak W W d) 'x')) (ae (bc (ae W (ae (bc 'e') W))) W))) (Oj d cs _ _ _)
def Zqo{k:Nat}(O:1<=k){ps:List Pl}(N:G2 m ps)(w:WT ps h K []){a:jU}(C:0<=a.1/\a.1<ps.length)(E:0<=a.2/\a.2<ps.length)(v:mZ k' ps h K a.1 a.2=bi):∃L,Tab (k+1) .fp [.tup (ps.map Pl.toD),.int h,eI K,bT a]=Z (.lst (L.map ou))/\Oe L (kj ps h (rf K) a.1 a.2):=by
 have Q:=kf (m:=m) C.1 C.2;have T:=kf (m:=m) E.1 E.2;have t1:=q9 (n:=k) (by omega) (aC ps a.1) h;have t2:=q9 (n:=k) (by omega) (aC ps a.2) h;have f:=og N a.1;have o2:=og N a.2;rw[<-wG]at t1 t2;suffices H:∃L,zx (Tab k) [Z 'g',Z (.int h),Z (eI K),Z (bT a),am,am]=Z (.ret (.lst (L.map ou)))/\Oe L (kj ps h (rf K) a.1 a.2) by obtain⟨d,e,q⟩:=H;refine⟨d,?_,q⟩;rw[tab];show((zx (Tab k) [Z 'g',Z (.int h),Z (eI K),Z (bT a),am,am]).bind _)=_;rw[e];rfl
 unfold zx;rw[iV (qV (ak W (ak W W (aY gj)) (aY Q))),iV (qV (ak W (ak W W (aY ei)) (aY T)))];show ∃L:List rd,a7 _ _ [Z 'g',Z (.int h),Z (eI K),Z (bT a),Z (aC ps a.1).toD,Z (aC ps a.2).toD]=Z (.ret (.lst (L.map ou)))/\_;unfold kj;rw[Fi C.1,Fi E.1];have A:cB (ab mN (ab ar (aa 3) 'a') (aa 2)) [Z 'g',Z (.int h),Z (eI K),Z (bT a),Z (aC ps a.1).toD,Z (aC ps a.2).toD]=Z (!decide (a.2∈K)):=aN (ak (ak W W (aY ei)) W Od);cases z2:decide (a.2∈K)with|false=>rw[z2]at A;exact⟨[],pH (by rw[pI A];rfl),W,dZ _,by simp⟩|true=>
  rw[z2]at A;rw[if_neg 'o'];have U:=w.ka _ (of_decide_eq_true z2);rw[iV (ρ':=[Z 'g',Z (.int h),Z (eI K),Z (bT a),Z (aC ps a.1).toD,Z (aC ps a.2).toD]) (by rw[oe A];rfl)];have i:iI (cB (ab iQ (ab ar (aa 3) 'h') (aa 2))) (g_ (cB (aw (Tab k .fg) (ag [aa 4,aa 1])))) [Z 'g',Z (.int h),Z (eI K),Z (bT a),Z (aC ps a.1).toD,Z (aC ps a.2).toD]=Z (decide (a.1∈K)&&!aB ps h a.1):=MV (aN (ak (ak W W (aY gj)) W ZuW)) (n8 (aN (aE 'e' t1)));by_cases g:decide (a.1∈K)=be/\aB ps h a.1=bi;·rw[if_pos g];rw[g.1,g.2]at i;refine aU (uc (Oh (w.ka _ (of_decide_eq_true g.1)))) λx y cs j=>?_;unfold bf;rw[j]at f i⊢;refine⟨cs.map λc=>((c.2.2,a.2),Z (c.1,c.2.1),am),pH (by rw[pI i];exact dH (iT (cap:=[am,am,am,Z 3]) (kg (ak W W (aY jS)) W) (small (by rw[aG];have:=f.2.2.2.2.2.2.1;exact fo this)) (Oi (aY ei) cs am am am))),by rw[gX];show _=Rf _ (cs.map _);rw[gX];rfl,by rw[aG];exact f.2.2.2.2.2.2.1,λe p=>?_⟩;obtain⟨c,r,rfl⟩:=aX.mp p;have:=f.2.2.2.2.2.2.2.1 c r;exact⟨⟨this.2.1,this.2.2.1⟩,trivial⟩
  ·rw[if_neg g];have I:(decide (a.1∈K)&&!aB ps h a.1)=bi:=by cases B:decide (a.1∈K)<;>cases J:aB ps h a.1<;>first|rfl|exact(g ⟨B,J⟩).elim
   rw[I]at i;rw[iV (ρ':=[Z 'g',Z (.int h),Z (eI K),Z (bT a),Z (aC ps a.1).toD,Z (aC ps a.2).toD]) (by rw[oe i];rfl)];have t:g_ (cB (aw (Tab k .fg) (ag [aa 5,aa 1]))) [Z 'g',Z (.int h),Z (eI K),Z (bT a),Z (aC ps a.1).toD,Z (aC ps a.2).toD]=Z (!aB ps h a.2):=n8 (aN (aE 'e' t2));cases z3:aB ps h a.2 with|false=>rw[z3]at t;rw[if_pos W];refine aU (uc (Oh U)) λx y cs j=>?_;unfold bf;rw[j]at o2 t⊢;refine⟨cs.map λc=>((a.1,c.2.2),am,Z (c.1,c.2.1)),pH (by rw[pI t];exact dH (iT (cap:=[am,am,am,Z 3]) (kg (ak W W (aY jS)) W) (small (by rw[aG];have:=o2.2.2.2.2.2.2.1;exact fo this)) (Oj (aY gj) cs am am am))),by rw[gX];show _=Rf _ (cs.map _);rw[gX];rfl,by rw[aG];exact o2.2.2.2.2.2.2.1,λe p=>?_⟩;obtain⟨c,r,rfl⟩:=aX.mp p;have:=o2.2.2.2.2.2.2.2.1 c r;exact⟨trivial,⟨this.2.1,this.2.2.1⟩⟩|true=>
    rw[z3]at t;rw[if_neg 'o'];rw[iV (ρ':=[Z 'g',Z (.int h),Z (eI K),Z (bT a),Z (aC ps a.1).toD,Z (aC ps a.2).toD]) (by rw[oe t];rfl)];have Y:aB ps h a.1=be:=by unfold mZ at v;rw[z3]at v;cases B:decide (a.1∈K)with|false=>rw[B]at v;simp at v|true=>cases J:aB ps h a.1 with|true=>rfl|false=>exact(g ⟨B,J⟩).elim
    refine aU (uc (wI Y)) λx y cs j=>aU (uc (wI z3)) λx' y' cs' u=>?_;unfold bf;rw[j]at f⊢;rw[u]at o2⊢;have M:(cs.filterMap (ub cs')).length<=5:=c3 (List.length_filterMap_le _ _) f.2.2.2.2.2.2.1;refine⟨cs.filterMap (ub cs'),dH (aE 'e' (ZmB O (pJ f) (pJ o2))),?_,M,λe p=>?_⟩;·show _=List.filterMap _ (cs.map _);rw[List.map_filterMap,Zwm];congr 1;funext c;unfold ub;rw[Option.map_map];rfl
    ·obtain⟨c,r,q⟩:=xb.mp p;obtain⟨z,_,rfl⟩:=bQ.mp q;have:=f.2.2.2.2.2.2.2.1 c r;exact⟨⟨this.2.1,this.2.2.1⟩,⟨this.2.1,this.2.2.1⟩⟩
abbrev Ent:=jU×Option (jU×So×So)
def wK:Option (jU×So×So)->D|none=>.aD|some q=>.tup [bT q.1,wJ q.2]
def dJ(E:List Ent):List D:=E.map λe=>bT e.1
def hH(E:List Ent):List D:=E.map λe=>wK e.2
structure CM(E:List Ent):Prop where
 nd:(E.map (·.1)).Nodup
 hd:E[0]?=Z ((0,0),am)
 bk:∀(i:Nat)(e:Ent),E[i]?=Z e->0<i->∃q s,e.2=Z (q,s)/\rb s.1/\rb s.2/\∃(j:Nat)(e':Ent),j<i/\E[j]?=Z e'/\e'.1=q
def Ol(h:bT a=bT b):a=b:=by obtain⟨c,d⟩:=a;obtain⟨e,f⟩:=b;simp[bT]at h;rw[h.1,h.2]
def Om{E:List Ent}:bT a∈dJ E↔a∈E.map (·.1):=by
 unfold dJ;constructor;·intro h;obtain⟨e,c,q⟩:=aX.mp h;exact aX.mpr ⟨e,c,Ol q⟩
 ·intro h;obtain⟨e,c,rfl⟩:=aX.mp h;exact aX.mpr ⟨e,c,W⟩
theorem Oo:∀{E:List Ent}{e:Ent},(E.map (·.1)).Nodup->e∈E->atT (dJ E) (hH E) (bT e.1)=Z (wK e.2)
 |[],_,_,h=>nomatch h|x::E,e,hn,h=>by
  rw[bG,d8]at hn;show(if bT x.1=bT e.1 then Z (wK x.2)else atT (dJ E) (hH E) (bT e.1))=_;rcases a6.mp h with q|q;·rw[q,if_pos W]
  ·rw[if_neg λz=>hn.1 (by rw[Ol z];exact aX.mpr ⟨e,q,W⟩)];exact Oo hn.2 q
def Oq(a:jU):dQ 8 (bT a)=be:=rfl
def Zqp(c:CM E)(h:e∈E):mO (.tab (dJ E) (hH E)) (bT e.1)=Z (wK e.2):=by show(if dQ 8 (bT e.1)=be/\(dJ E).length=(hH E).length then atT (dJ E) (hH E) (bT e.1)else am)=_;rw[if_pos ⟨Oq _,by simp[dJ,hH]⟩,Oo c.nd h]
def ZmC{E:List Ent}:tw (bT a) (.tab (dJ E) (hH E))=Z (.bl (!decide (a∈E.map (·.1)))):=by show(if dQ 8 (bT a)=be/\(dJ E).length=(hH E).length then Z (D.bl (!decide (bT a∈dJ E)))else am)=_;rw[if_pos ⟨Oq _,by simp[dJ,hH]⟩,decide_eq_decide.mpr Om]
section
variable {i:Nat}{r:aj}{Q:aK->Prop}{ks ds kk:List D}{fk fv:Zaf}{fi fo:Zaj}{d:D}
def Zvv(h:fk (pv r)=Z (.tup kk))(c:fv (pv r)=Z d)(e:dQ 8 (.tup kk)=be)(f:b9 d=be)(hn:r.all lW=be)(k:Q (.aF (r.set i (Z (.xt (.t am [.tup kk]) [d]))))):Ev (yW i fk fv r) Q:=⟨_,by unfold yW yV;rw[h,bb,c,bb,if_pos ⟨e,f⟩];show(if r.all lW=be then _ else _)=_;rw[if_pos hn],k⟩
def Ot(c:fo r=Z d)(e:fi r=Z (.tup kk))(f:r[i]?=Z (Z (.xt (.t g ks) ds)))(h:dQ 8 (.tup kk)=be)(hn:.tup kk∉ks)(j:ks.length<aA)(k:Q (.aF (r.set i (Z (.xt (.t g (ks++[.tup kk])) (ds++[d])))))):Ev (v8 i fi fo r) Q:=⟨_,by unfold v8;rw[c,bb,e,bb,f];simp only[if_pos (And.intro h (And.intro hn j))],k⟩
end
def Ou{n:Nat}(hn:4<=n){E:List Ent}(x:CM E)(Q:E.length<=20000){i:Nat}(B:E[i]?=Z e){side:Int}(hs:side=0\/side=1):∃ds,Tab n .fr [.tab (dJ E) (hH E),bT e.1,.int side]=Z (.tup ds):=by
 obtain⟨k,rfl,T⟩:=bB (c:=3) hn;suffices C:Ev (Tab (k+1) .fr [.tab (dJ E) (hH E),bT e.1,.int side]) λd=>∃ds,d=.tup ds from ax C λ_ e z=>hZ z λds h=>⟨ds,h▸e⟩;rw[tab];refine l8 (np:=3) (n:=5) (gb:=Er (Tab k)) ?_;unfold Er;refine bx (mX (wu W) (bo (bx ?_)));show Ev (ig _ _ _ [_,_,_,_,_]) _;have H:=(bt.mp B).1;refine tY (λn r=>∃(i:Nat)(e:Ent)(ad:List D)(f:Option SD),r=[nr (.tab (dJ E) (hH E)),nr (bT e.1),nr (.int side),Z (.own ad),f]/\E[i]?=Z e/\i+1<=n/\ad.length+n<=99999) ?_ ?_ 99999 _ ⟨i,e,[],_,W,B,by lia,by simp⟩;·rintro r ⟨i,e,ad,f,rfl,g,I,J⟩;lia
 rintro n r ⟨i,e,ad,f,rfl,g,I,J⟩;have m:=Zqp x (cu g);cases i with|zero=>
  rw[x.hd]at g
  exists g;exact .inl ⟨aN (ak (ak W W m) W W),bo (pG (show y0 (aa 3) _=Z (.tup ad.reverse) from W) (mY ⟨_,W⟩))⟩|succ i=>
  refine bV (x.bk _ _ g 'c') λq s L M o2 z=>ay z λj N U O y=>?_;clear z;subst y;rw[L]at m;refine .inr ⟨aN (ak (ak W W m) W W),?_⟩;obtain⟨v,A,t⟩:∃v,b4 [ra s.1,ra s.2] side=Z (ra v)/\rb v:=by
   rcases hs with rfl|rfl;·exact⟨s.1,gj,M⟩
   ·exact⟨s.2,ei,o2⟩
  refine bx (f_ (bN (ak (ak (ak W W m) W (aY ei)) W (aY A))) (bo (bx ?_)));have u:∀(w:List D)(f:Option SD),w.length<=ad.length+1->Ev (bE 1 (vH (ab ar (ab mO (aa 0) (aa 1)) 'h')) [nr (.tab (dJ E) (hH E)),nr (bT e.1),nr (.int side),Z (.own w),f]) (kL (λr=>∃(i:Nat)(e:Ent)(ad:List D)(f:Option SD),r=[nr (.tab (dJ E) (hH E)),nr (bT e.1),nr (.int side),Z (.own ad),f]/\E[i]?=Z e/\i+1<=n/\ad.length+n<=99999) (kS (eW (y0 (aa 3))) (kR λd=>∃ds,d=.tup ds))):=λw f hw=>f_ (bN (ak (ak W W m) W (aY gj))) (iF ⟨j,N,w,f,W,O,by lia,by lia⟩);cases v with|none=>exact eG (aN (ak W W W)) (hE W (gU (bo (u ad _ (jC _)))))|some p=>refine eG (aN (ak W W W)) (js W (wz W (bN (bc (ae (ak W W (aY gj)) (ae (aE (ae (ak W W (aY ei)) W) (Zp7 p.2 (tT t.1) (by have:=t.2;lia))) W)))) (big 'c') (bo (u (ad++[_]) _ 'o'))))
def iW(k:Nat)(ps:List Pl)(h x y:Int):Bool:=aB ps h x&&aB ps h y&&pK k h (aC ps x) (aC ps y)
abbrev m2(ps:List Pl)(h:Int):Int->Int->Prop:=Cs (bf ps) 'k' 0
abbrev iX(k:Nat)(ps:List Pl)(h:Int):Int->Int->Prop:=Ft (bf ps) 'k' (iW k ps h)
theorem Fj{k:Nat}(c:GW ps)(w:WT ps h K [])(d:0<=x):mZ k ps h K x y=be↔iX k ps h x y:=by have e:=Ob c w x;rw[show decide (((x.toNat:Nat):Int)∈K)=decide (x∈K) from Fi d]at e;unfold mZ iX Ft iW;grind
def ZmD{N:Nat}{l:List jU}(hn:l.Nodup)(hr:∀a∈l,(0<=a.1/\a.1<N)/\0<=a.2/\a.2<N):l.length<=N*N:=by
 have i:∀a b:jU,(0<=a.2/\a.2<(N:Int))->(0<=b.2/\b.2<(N:Int))->a.1*N+a.2=b.1*N+b.2->a=b:=λa b f j e=>by
  have m:(N:Int)≠0:=by lia
  have d:∀c:jU,0<=c.2/\c.2<(N:Int)->(c.1*N+c.2) / N=c.1:=λc h=>by rw[Int.add_comm,Int.add_mul_ediv_right _ _ m,Int.ediv_eq_zero_of_lt h.1 h.2,Rr]
  grind
 have p:(l.map λa=>a.1*(N:Int)+a.2).Nodup:=by unfold rO at hn⊢;rw[Rq];exact hn.imp_of_mem λ{a b} f j t e=>'m'
 have:=zX (N*N) p λx q=>by refine ax (aX.mp q) λa f g=>?_;subst g;obtain⟨⟨r,u⟩,v,w⟩:=hr a f;have y:0<=a.1*(N:Int):=Zx0 r 'c';have z:a.1*(N:Int)<=((N:Int)-1)*N:=Int.mul_le_mul_of_nonneg_right 'c' (by omega);grind
 rwa [aG]at this
structure RS(k:Nat)(ps:List Pl)(h:Int)(K:List Int)(E:List Ent)(l:Nat):Prop where
 cm:CM E
 rg:∀e∈E,(0<=e.1.1/\e.1.1<ps.length)/\0<=e.1.2/\e.1.2<ps.length
 rc:∀e∈E,m2 ps h e.1.1 e.1.2
 nf:∀e∈E.take l,mZ k ps h K e.1.1 e.1.2=bi
 cl:∀e∈E.take l,∀b∈kj ps h (rf K) e.1.1 e.1.2,b∈E.map (·.1)
 le:l<=E.length
def Ov{k:Nat}{ps:List Pl}{E:List Ent}(s:RS k ps h K E l):E.length<=ps.length*ps.length:=by
 have:=ZmD (N:=ps.length) s.cm.nd λa d=>by refine ax (aX.mp d) λe f c=>?_;subst c;exact s.rg e f
 rwa [aG]at this
def Zqq{m:Int}{ps:List Pl}(q:GW ps){ah:Int->Bool}{a:jU}(t:0<=a.1/\a.1<(ps.length:Int))(u:0<=a.2/\a.2<(ps.length:Int)):∀b∈kj ps h ah a.1 a.2,(0<=b.1/\b.1<(ps.length:Int))/\0<=b.2/\b.2<(ps.length:Int):=λb g=>by
 have p:∀{i:Int}{c:Str×Int},c∈bf ps i->0<=c.2/\c.2<(ps.length:Int):=λ{i c} j=>by refine ax (aX.mp j) λd r f=>?_;subst f;exact NS q i d.2.2 (aX.mpr ⟨d,r,W⟩)
 unfold kj at g;split at g;·cases g
 split at g;·grind
 split at g;·grind
 ·refine ax (xb.mp g) λc j e=>ax (bQ.mp e) λz hz f=>?_;subst f;exact⟨p j,p (wF hz)⟩
def Zs9{E:List Ent}(h:CM E){i:Nat}(p:E[i]?=Z e)(r:a∉E.map (·.1))(u:rb s.1)(v:rb s.2):CM (E++[(a,Z (e.1,s))]):=by
 have w:=(bt.mp p).1;refine⟨?_,by rw[gL (fu w)];exact h.hd,λj x d A=>?_⟩;·rw[cz];exact mr.mpr ⟨h.nd,by simp,λb m c B q=>by rw[q,aZ.mp B]at m;exact r m⟩
 ·by_cases f:j<E.length;·rw[gL f]at d;refine bV (h.bk j x d A) λq t C H o2 y=>ay y λI J g M L=>?_;clear y;exact⟨q,t,C,H,o2,I,J,g,by grind,L⟩
  ·rw[ku 'c']at d;have:j-E.length=0:=by cases q:j-E.length with|zero=>rfl|succ z=>simp_all
   rw[this]at d
   exists d;exact⟨e.1,s,W,u,v,i,e,by lia,by grind,W⟩
def Zvw(a:jU):b9 (bT a)=be:=rfl
def Ow{k:Nat}(hk:3<=k)(hG:G2 m ps)(h:Int):∃d,Tab (k+2) .fm [aT m ps,.int h]=Z d/\(d=.aD/\(∀x y,m2 ps h x y->¬iX k ps h x y)\/(∃xs,d=.tup xs)/\∃x y,m2 ps h x y/\iX k ps h x y):=by
 have B:=t_ hG;have Q:=B.n2;have hN:=B.n1;have hsq:ps.length*ps.length<=16900:=G7 Q Q;refine ax (Zqm (n:=k+1) 'c' B h) λK hK w=>?_;have ha:=Ob B w;have T:RS k ps h K [((0,0),am)] 0:=by
  refine⟨⟨by simp,W,λi e q hi=>?_⟩,λe g=>?_,λe g=>?_,by simp,by simp,dZ _⟩;·cases i with|zero=>lia|succ i=>simp at q
  ·rw[aZ.mp g];exact⟨⟨uS _,by show(0:Int)<_;lia⟩,uS _,by show(0:Int)<_;omega⟩
  ·rw[aZ.mp g];exact .z
 show Ev _ _;rw[tab];refine l8 (np:=2) (n:=11) (gb:=En (Tab (k+1))) ?_;unfold En;refine bx (f_ (bN (ak W W (aY ei))) (bo (bx (f_ (bN (aE 'e' hK)) (bo (bx (Zvv (bc 'e') W W W W (bo (bx (mX (wu (ae (bc 'e') W)) (bo (bx (f_ W (bo (bx ?_)))))))))))))));show Ev (ig _ _ _ [_,_,_,_,_,_,_,_,_,_,_]) _;refine tY (λn r=>∃(E:List Ent)(l:Nat)(o7 o8 I p:Option SD),r=[nr 'q',nr (.int h),nr 'g',nr (eI K),Z (.xt (.t am (dJ E)) (hH E)),Z (.own (dJ E)),nr (.int (l:Int)),o7,o8,I,p]/\RS k ps h K E l/\16901<=l+n) ?_ ?_ 99999 _ ⟨[((0,0),am)],0,_,_,_,_,W,T,by lia⟩;·rintro r ⟨E,l,o7,o8,I,p,rfl,s,J⟩;have:=Ov s;have:=s.le;lia
 rintro n r ⟨E,l,o7,o8,I,p,rfl,s,J⟩;have hEl:=Ov s;have hlen:cS [.lst (dJ E)]=Z (.int (E.length:Nat)):=by show Z (D.int ((dJ E).length:Nat))=_;rw[show(dJ E).length=E.length from aG ..]
 by_cases M:l<E.length
 ·refine .inr ⟨aN (ak W (aE 'x' hlen) (by show Z (D.bl (decide _))=_;rw[decide_eq_true 'c'])),?_⟩;obtain⟨e,g⟩:∃e,E[l]?=Z e:=⟨_,cF M⟩;have N:=cu g;have q8:b4 (dJ E) (l:Int)=Z (bT e.1):=by rw[pq (by rw[show(dJ E).length=E.length from aG ..];exact M)];have:=(bt.mp g).2;simp[dJ,this]
  obtain⟨U,g2⟩:=s.rg e N;refine ax (Zqn (k:=k) (fu hk) hG (h:=h) (K:=K) U g2) λd hd C=>bx (f_ (mW (ak W W (oj q8)) (Zvw _)) (bo (bx (f_ (bN (aE (ae W (ae W 'e')) hd)) (bo (bx ?_))))));rcases C with⟨rfl,C⟩|⟨⟨str,rfl⟩,C⟩
  ·refine eG (aN (ak W W W)) (hE W (gU (bo (bx ?_))));refine ax (Zqo (k:=k) (fu hk) hG w U g2 C) λL hL Y=>oi (kg (aE (ae W (ae W 'e')) hL) W) ?_;have nfp:¬iX k ps h e.1.1 e.1.2:=λz=>by rw[(Fj B w U.1).mpr z]at C;injection C
   have scs:=Zqh (ev:=iW k ps h) ha (s.rc e N) nfp;have srg:=Zqq (m:=m) B (h:=h) (ah:=rf K) U g2;show Ev (c9 _ _ _ [_,_,_,_,_,_,_,_,_,_,_]) _;refine l6 (λR (t:Nat) r=>∃(X:List Ent)(I p:Option SD),r=[nr 'q',nr (.int h),nr 'g',nr (eI K),Z (.xt (.t am (dJ (E++X))) (hH (E++X))),Z (.own (dJ (E++X))),nr (.int (l:Int)),nr (bT e.1),nr .aD,I,p]/\CM (E++X)/\(∀x∈X,((0<=x.1.1/\x.1.1<(ps.length:Int))/\0<=x.1.2/\x.1.2<(ps.length:Int))/\m2 ps h x.1.1 x.1.2)/\(∀x∈L.take t,x.1∈(E++X).map (·.1))/\X.length<=t) ⟨[],_,_,by first|(rw[eS];done)|(rw[eS];rfl),by rw[eS];exact s.cm,by simp,by simp,dZ _⟩ ?_ ?_
   ·rintro t d r O ⟨X,I,p,rfl,c,q1,q2,q3⟩;rw[bJ,bQ]at O;refine ax O λst u f=>?_;clear O;subst f;have v:=cu u;have H:st.1∈kj ps h (rf K) e.1.1 e.1.2:=by rw[<-Y.eq];exact aX.mpr ⟨st,v,W⟩
    have htl:=(bt.mp u).1;have hL5:=Y.le;refine⟨_,W,eG (aN (ak W W ZmC)) ?_⟩;by_cases A:st.1∈(E++X).map (·.1)
    ·refine hE (by simpa using A) (gU (iF ⟨X,_,_,W,c,q1,λx j=>?_,by lia⟩));rw[lD,u]at j;rcases bU.mp j with z|z
     ·exact q2 x z
     ·have:x=st:=by simpa using z
      rw[this];exact A
    ·have D1:(E++X).length<=16905:=by rw[bH];lia
     have hkl:(dJ (E++X)).length=(E++X).length:=aG ..;have eK:dJ (E++X)++[bT st.1]=dJ (E++(X++[(st.1,Z (e.1,st.2))])):=by simp[dJ]
     have eV:hH (E++X)++[.tup [bT e.1,wJ st.2]]=hH (E++(X++[(st.1,Z (e.1,st.2))])):=by simp[hH,wK]
     refine js (by simpa using A) (bx (Ot (kk:=[.int st.1.1,.int st.1.2]) (bN (bc 'e')) W W W (λz=>A (Om.mp z)) (big 'c') (bo (wz W W (big (by omega)) (iF ⟨X++[(st.1,Z (e.1,st.2))],nr (bT st.1),nr (wJ st.2),?_,?_,λx j=>?_,λx j=>?_,by simp<;>omega⟩)))))
     ·rw[<-eK,<-eV];rfl
     ·rw[<-jX];exact Zs9 c (by rw[gL M];exact g) A (Y.ok st v).1 (Y.ok st v).2
     ·rcases bU.mp j with z|z
      ·exact q1 x z
      ·rw[aZ.mp z];exact⟨srg st.1 H,scs st.1 H⟩
     ·rw[<-jX,cz];rw[lD,u]at j;rcases bU.mp j with z|z
      ·exact gf _ (q2 x z)
      ·have:x=st:=by simpa using z
       rw[this];exact dr _ 'o'
   ·rintro r ⟨X,I,p,rfl,c,q1,q2,q3⟩;rw[aG,m8]at q2;have Ox:(E++X).take (l+1)=E.take l++[e]:=by rw[List.take_append_of_le_length (by assumption),lD,g];rfl
    refine bo (ZuQ W W (iF ⟨E++X,l+1,_,_,_,_,W,⟨c,λx j=>?_,λx j=>?_,λx j=>?_,λx j b H=>?_,by rw[bH];lia⟩,by lia⟩))
    ·exact(bU.mp j).elim (s.rg x) λz=>(q1 x z).1
    ·exact(bU.mp j).elim (s.rc x) λz=>(q1 x z).2
    ·rw[Ox]at j;rcases bU.mp j with z|z
     ·exact s.nf x z
     ·rw[aZ.mp z];exact C
    ·rw[Ox]at j;rcases bU.mp j with z|z
     ·rw[cz];exact gf _ (s.cl x z b H)
     ·rw[aZ.mp z,<-Y.eq]at H;refine ax (aX.mp H) λst u f=>?_;subst f;exact q2 st u
  ·refine eG (aN (ak W W W)) (js W ?_);obtain⟨b0,Ad⟩:=Ou (n:=k+1) 'c' s.cm 'c' g (side:=0) (.inl W);obtain⟨b1,yh⟩:=Ou (n:=k+1) (by omega) s.cm (by omega) g (side:=1) (.inr W);exact pG (bc (ae W (ae (aE (ae W 'e') Ad) (ae (aE (ae W 'e') yh) W)))) (Nu (l_r (Nu (mY (.inr ⟨⟨_,W⟩,e.1.1,e.1.2,s.rc e N,(Fj B w U.1).mp C⟩)))))
 ·refine .inl ⟨aN (ak W (aE 'x' hlen) (by show Z (D.bl (decide _))=_;rw[decide_eq_false 'c'])),bo (pG W (mY (.inl ⟨W,?_⟩)))⟩;have hle:l=E.length:=by have:=s.le;lia
  have Oy:=s.nf;have jM:=s.cl;rw[hle,m8]at Oy jM;refine Zqj (L:=E.map (·.1)) ha (λi=>?_) ⟨aX.mpr ⟨_,cu s.cm.hd,W⟩,λa J=>?_,λa J b H=>?_⟩ λa J=>?_
  ·have:=og hG i;unfold bf;rw[gX];cases z:aC ps i with|fin=>exact .nil|say x y cs=>rw[z]at this;exact this.2.2.2.2.2.2.2.2
  ·refine ax (aX.mp J) λe g f=>?_;subst f;exact s.rc e g
  ·refine ax (aX.mp J) λe g f=>?_;subst f;exact jM e g b H
  ·refine ax (aX.mp J) λe g f=>?_;subst f;intro z;have:=Oy e g;rw[(Fj B w (s.rg e g).1.1).mpr z]at this;injection this
def Oz(k:Nat)(m:Int)(ps:List Pl):Prop:=∀h:Nat,(h:Int)<m->∀x y,m2 ps h x y->¬iX k ps h x y
theorem OA{k:Nat}(f:3<=k){m:Int}(g:G2 m ps):∀(t a:Nat)(o:Option D),∃bs:List Bool,cn (gN 0) (λ_=>Z be) (ab lN (aw (Tab (k+2) .fm) (ag [aa 1,aa 0])) (cC .aD)) [o,Z 'q'] ((oI a t).map λ(i:Nat)=>D.int (i:Int))=Z (bs.map .bl)/\(bs.all id=be↔∀h:Nat,a<=h->h<a+t->∀x y,m2 ps h x y->¬iX k ps h x y)
 |0,a,o=>⟨[],W,'m'⟩|t+1,a,o=>by
  refine ax (OA f g t (a+1) (Z (.int (a:Int)))) λbs e q=>ax (Ow f g (a:Int)) λd j hr=>?_;rw[xE,bG];have one:∀b:Bool,lM d .aD=b->(b=be↔∀x y,m2 ps a x y->¬iX k ps a x y)->∃bs:List Bool,cn (gN 0) (λ_=>Z be) (ab lN (aw (Tab (k+2) .fm) (ag [aa 1,aa 0])) (cC .aD)) [o,Z 'q'] (D.int (a:Int)::(oI (a+1) t).map λ(i:Nat)=>D.int (i:Int))=Z (bs.map .bl)/\(bs.all id=be↔∀h:Nat,a<=h->h<a+(t+1)->∀x y,m2 ps h x y->¬iX k ps h x y):=λb c p=>by refine⟨b::bs,jr (ρ':=[Z (.int (a:Int)),Z 'q']) W W (ak (aE 'e' j) W (by rw[Zp0,c])) e,?_⟩;grind
  rcases hr with⟨rfl,hr⟩|⟨⟨xs,rfl⟩,x,y,r,u⟩;·exact one be W ⟨λ_=>hr,λ_=>rfl⟩
  ·exact one bi W 'm'
def Ztb{k:Nat}(d:3<=k)(c:G2 m ps):∃b:Bool,Tab (k+3) .fx [aT m ps]=Z (.bl b)/\(b=be↔Oz k m ps):=by
 refine ax (OA d c m.toNat 0 am) λbs e f=>?_;have g:=c.1;have h:=c.2.1;rw[<-xF,<-k6]at e;refine⟨bs.all id,?_,?_⟩
 ·rw[tab];have h8:nO [.lst (bs.map D.bl)]=Z (.bl (bs.all id)):=by have:=all_map id bs;simpa using this
  have:Ew (Tab (k+2)) [Z 'q']=Z (.ret (.bl (bs.all id))):=dH (aE (ae (iT (cap:=[am,Z 0]) (kZ (ak W W (aY gj)) 'c' 'c') (small (by rw[k6,aG,kz];grind)) e) W) h8);show((Ew (Tab (k+2)) [Z 'q']).bind _)=_;simp_all
 simp_all[Oz,dZ]
end PM
namespace PM
section
variable {α:Type}{nx:Int->List (α × Int)}{tu:Int->Bool}{ev:Int->Int->Bool}{p:Int}
def OB(h:Sy nx tu p x y)(e:Ep nx tu x c)(g:Ep nx tu y f):Sy nx tu p c f:=by
 have i:Sy nx tu p c y:=by induction e with|z=>exact h|s _ n s d=>exact .l d n s
 induction g with|z=>exact i|s _ n s d=>exact .r d n s
structure Gk(nx:Int->List (α×Int))(tu:Int->Bool)(ev:Int->Int->Bool)(Ks:List 'u')(i:Nat):Prop where
 hd:∃G,Ks[0]?=Z G/\∀z,Ep nx tu 0 z->z∈G
 sd:∀G∈Ks,∀p∈G,∀q∈G,Sy nx tu 0 p q
 cl:∀G∈Ks,∀p∈G,tu p=bi->∀y,Sc nx p y->y∈G
 on:∀j,j<i->∀G,Ks[j]?=Z G->∀w,∃G'∈Ks,∀p∈G,tu p=be->∀y,(w,y)∈nx p->y∈G'
 ev:∀j,j<i->∀G,Ks[j]?=Z G->∀p∈G,∀q∈G,tu q=be->Ah nx tu p/\(tu p=be->ev p q=be)
def Zqr{G:List Int}(sd:∀p∈G,∀q∈G,Sy nx tu 0 p q){w:α}{x y d e z:Int}(g:x∈G)(h:y∈G)(i:tu x=be)(j:tu y=be)(m:(w,d)∈nx x)(sy:(w,e)∈nx y)(r:Ep nx tu d z)(c:Ep nx tu e f):Sy nx tu 0 z f:=OB (.b (sd x g y h) i j m sy) r c
end
noncomputable def subs{c:Type}:List c->List (List c)|[]=>[[]]|x::l=>subs l++(subs l).map (x:: ·)
theorem OC{c:Type}:∀l:List c,(subs l).length=2^l.length|[]=>rfl|x::l=>by simp[subs,OC l,Nat.pow_succ];lia
def Zqs{d:Type}{T l:List d}(h:T.Sublist l):T∈subs l:=by induction h with|slnil=>exact aZ.mpr W|cons a _ c=>exact gf _ c|cons_cons a _ c=>exact dr _ (aX.mpr ⟨_,c,W⟩)
theorem Fl{d:Type}:∀{l m:List d},l.Nodup->(∀x∈l,x∈m)->l.length<=m.length
 |[],_,_,_=>dZ _|x::l,m,hn,hs=>by
  rw[d8]at hn;obtain⟨a,b,rfl⟩:=Bi (hs x bZ);have:=Fl (l:=l) (m:=a++b) hn.2 λy c=>by
   rcases bU.mp (hs y (b8 _ c))with q|q;·exact gf _ q
   ·rcases a6.mp q with rfl|q;·exact(hn.1 c).elim
    ·exact dr _ q
  simp at this⊢;lia
end PM
namespace PM
open PySem L2 DL PT
theorem wL{c:Type}{g h:c->D}{fe:Zaf}{tl:ai}:∀(l:List c)(o:Option D),(∀a∈l,fe (Z (g a)::tl)=Z (h a))->cn (gN 0) (λ_=>Z be) fe (o::tl) (l.map g)=Z (l.map h)|[],_,_=>rfl|a::r,o,d=>jr (ρ':=Z (g a)::tl) W W (d a bZ) (wL r (Z (g a)) λx e=>d x (b8 _ e))
def pL(h:Int):Pl->D|.say a b _=>if(a==h||b==h)=be then cy h a b else .aD|.fin=>.aD
def gH(ps:List Pl)(h:Int)(S:List Int):List Int:=((gd ps.length).map λ(i:Nat)=>(i:Int)).filter λz=>@decide (∃s∈S,Ep (bf ps) 'k' s z) (Gs _)
def iY{ps:List Pl}:z∈gH ps h S↔(0<=z/\z<ps.length)/\∃s∈S,Ep (bf ps) 'k' s z:=by
 unfold gH;rw[eR,aX];constructor;·rintro⟨⟨i,d,rfl⟩,c⟩;exact⟨⟨by simp,by have:=rP.mp d;lia⟩,@of_decide_eq_true _ (Gs _) c⟩
 ·rintro⟨e,c⟩;exact⟨⟨z.toNat,rP.mpr (by omega),by exact jY e.1⟩,@decide_eq_true _ (Gs _) c⟩
def Ztd(n:Nat):((gd n).map λ(i:Nat)=>(i:Int)).Pairwise (· < ·):=Rq.mpr ((List.pairwise_lt_range (n:=n)).imp λh=>by lia)
def OD(ps:List Pl)(h:Int)(S:List Int):(gH ps h S).Pairwise (· < ·):=(Ztd _).filter _
def ZuX(ps:List Pl)(h:Int)(S:List Int):(gH ps h S).Nodup:=(OD ps h S).imp λh=>by lia
def Zqt{F:List Int}(hn:F.Nodup)(c:∀z,z∈F↔z∈gH ps h S):nX F=gH ps h S:=DC (DB F) ((OD ps h S).imp λh=>by exact Int.le_of_lt h) ((y8 F).trans ((List.perm_ext_iff_of_nodup hn (ZuX ps h S)).mpr c))
def Fm{m:Int}{ps:List Pl}(d:G2 m ps){h x y:Int}(f:0<=x/\x<ps.length)(e:Ep (bf ps) 'k' x y):0<=y/\y<ps.length:=by induction e with|z=>exact f|@s u v _ _ s i=>obtain⟨w,s⟩:=s;obtain⟨c,g,e⟩:=aX.mp s;cases e;have:=(ua (t_ d) u).2 c g;exact⟨this.2.2.2.1,this.2.2.2.2⟩
structure AI(ps:List Pl)(h:Int)(S F L:List Int):Prop where
 n:F.Nodup
 f:∀z∈F,z∈gH ps h S
 l:∀z∈L,z∈gH ps h S
 s:∀s∈S,s∈F\/s∈L
 c:∀z∈F,aB ps h z=bi->∀y,Sc (bf ps) z y->y∈F\/y∈L
def oy(ps:List Pl)(h y:Int):List Int:=if aB ps h y=be then []else kh ps y
section
variable {ps:List Pl}{h y m:Int}{S F L:List Int}
def Zvx(c:∀s∈S,0<=s/\s<ps.length):AI ps h S [] S:=⟨.nil,by simp,λz hz=>iY.mpr ⟨c z hz,z,hz,.z⟩,λs hs=>.inr hs,by simp⟩
theorem AI.end(a:AI ps h S F []):nX F=gH ps h S:=Zqt a.n λz=>⟨a.f z,λhz=>by refine aM (iY.mp hz) λd y=>ax y λs hs e=>?_;clear y;clear hz d;induction e with|z=>exact(a.s s hs).resolve_right 'o'|s _ n s g=>exact(a.c _ g n _ s).resolve_right 'o'⟩
theorem AI.len(a:AI ps h S F L):F.length<=ps.length:=by
 have:=Fl a.n (m:=(gd ps.length).map λ(i:Nat)=>(i:Int)) λz hz=>by have:=(iY.mp (a.f z hz)).1;exact aX.mpr ⟨z.toNat,rP.mpr 'c',by exact jY this.1⟩
 simpa using this
def AI.old(a:AI ps h S F (L++[y]))(d:y∈F):AI ps h S F L:=have g:∀{x},x∈F\/x∈L++[y]->x∈F\/x∈L:=λq=>q.elim .inl λq=>(bU.mp q).elim .inr λq=>.inl (aZ.mp q▸d)
 ⟨a.n,a.f,λz hz=>a.l z (gf _ hz),λs hs=>g (a.s s hs),λz hz e v i=>g (a.c z hz e v i)⟩
def AI.new(w:G2 m ps)(a:AI ps h S F (L++[y]))(A:y∉F):AI ps h S (F++[y]) (L++oy ps h y)/\(oy ps h y).length<=5:=by
 have p:=a.l y 'o';have g:∀{x},x∈F\/x∈L++[y]->x∈F++[y]\/x∈L++oy ps h y:=λq=>q.elim (λq=>.inl (gf _ q)) λq=>(bU.mp q).elim (λq=>.inr (gf _ q)) λq=>.inl (dr _ q);have B:aB ps h y=bi->oy ps h y=kh ps y:=λq=>if_neg (by rw[q];exact dg);have r:=ua (t_ w) y;refine⟨⟨mr.mpr ⟨a.n,by simp,λu C v E e=>A (by rw[<-aZ.mp E,<-e];exact C)⟩,λz hz=>(bU.mp hz).elim (a.f z) λq=>aZ.mp q▸p,λz hz=>(bU.mp hz).elim (λq=>a.l z (gf _ q)) λq=>?_,λs hs=>g (a.s s hs),λz hz d v i=>(bU.mp hz).elim (λq=>g (a.c z q d v i)) λq=>?_⟩,?_⟩
 ·unfold oy at q;split at q;·cases q
  ·rename_i t;obtain⟨_,s,hs,es⟩:=iY.mp p;obtain⟨c,j,rfl⟩:=aX.mp q;exact iY.mpr ⟨(r.2 c j).2.2.2,s,hs,.s es (by simpa using t) (Ac.mpr q)⟩
 ·rw[aZ.mp q]at d i;rw[B d];exact .inr (dr _ (Ac.mp i))
 ·unfold oy;split;·exact dZ _
  ·unfold kh;rw[aG];exact r.1
end
def Ae:∀{a b:Kd},a.toD=b.toD->a=b:=by intro a;induction a with
 |none=>intro b h;cases b<;>simp[Kd.toD]at h<;>rfl|num lo g=>intro b h;cases b<;>simp[Kd.toD]at h<;>first|exact absurd h.1 'b'|simp[h]
 |name ns=>intro b h;cases b<;>simp[Kd.toD]at h<;>first|(rw[Ri λ_ _ e=>D.str.inj e]at h;rw[h])|skip
 |pair a b d f=>intro c h;cases c<;>simp[Kd.toD]at h<;>first|exact absurd h.1 'b'|rw[d h.1,f h.2]
 |row a m d=>intro c h;cases c<;>simp[Kd.toD]at h<;>first|exact absurd h.1 'b'|rw[d h.1,h.2]
def Ztf{a b:Kd}(f:a.dp<=2)(g:b.dp<=2):E2 (cY 64 a.toD b.toD) (a=b):=by exact ax (tU 64 a.toD b.toD (zN a 'c') (zN b 'c')) λe c d=>⟨e,c,d.trans ⟨Ae,λh=>by rw[h]⟩⟩
def Zqv(h a b c d:Int):E2 (cY 64 (cy h a b) (cy h c d)) (cy h a b=cy h c d):=tU 64 _ _ (Aa h a b) (Aa h c d)
noncomputable def wk(c:Ch):Str×Kd:=(c.1,c.2.1)
def oz(h:Int):Pl->Pl->Prop|.say a b cs,.say e f cs'=>cy h a b≠cy h e f\/(a=h/\cs.map wk≠cs'.map wk)\/∃c∈cs,∃d∈cs',d.1=c.1/\d.2.1≠c.2.1|_,_=>False
def kq(a b:Kd):Bool:=(cY 64 a.toD b.toD).getD bi
def OE{a b:Kd}(c:a.dp<=2)(d:b.dp<=2):cY 64 a.toD b.toD=Z (kq a b)/\(kq a b=be↔a=b):=by refine ax (Ztf c d) λe f g=>?_;unfold kq;rw[f];exact⟨W,g⟩
def Zqw(h a b c d:Int):∃e:Bool,eU 64 (cy h a b) (cy h c d)=Z (.bl (!e))/\(e=be↔cy h a b=cy h c d):=by exact ax (Zqv h a b c d) λe f g=>⟨e,by show(cY 64 _ _).map _=_;rw[f];rfl,g⟩
theorem pM:∀{cs:List Ch},(cs.map (·.1)).Nodup->∀c∈cs,c.1=w->atK (cs.map kW) (cs.map vW) (.inr w)=Z (vW c)
 |[],_,_,d,_=>nomatch d|x::cs,hn,c,d,e=>by
  rw[bG,d8]at hn;show(if kW x=.inr w then Z (vW x)else atK (cs.map kW) (cs.map vW) (.inr w))=_;rcases a6.mp d with q|q;·rw[if_pos (by rw[<-q,<-e];rfl),q]
  ·rw[if_neg λz=>hn.1 (by rw[show x.1=w from xG z,<-e];exact aX.mpr ⟨c,q,W⟩)];exact pM hn.2 c q e
theorem Fo:∀{cs:List Ch},(¬ ∃d∈cs,d.1=w)->atK (cs.map kW) (cs.map vW) (.inr w)=am|[],_=>rfl|x::cs,q=>by show(if kW x=.inr w then Z (vW x)else atK (cs.map kW) (cs.map vW) (.inr w))=am;rw[if_neg λz:kW x=.inr w=>q ⟨x,bZ,xG z⟩];exact Fo λy=>ax y λd c e=>q ⟨d,b8 _ c,e⟩
theorem OF{cs':List Ch}(hn:(cs'.map (·.1)).Nodup)(d':∀c∈cs',c.2.1.dp<=2):∀{cs:List Ch},(∀c∈cs,c.2.1.dp<=2)->∃r,lU 64 't' (cs'.map vW) (cs.map kW) (cs.map vW)=Z r/\(r=be↔∀c∈cs,wk c∈cs'.map wk)
 |[],_=>⟨be,W,⟨λ_ c p=>(nomatch p),λ_=>rfl⟩⟩|c::cs,h=>by
  obtain⟨r,e,hr⟩:=OF hn d' (cs:=cs) λx t=>h x (b8 _ t);show ∃r,(match atK 't' (cs'.map vW) (kW c)with|none=>Z bi|some y=>(cY 64 (vW c) y).bind λe=>(lU 64 't' (cs'.map vW) (cs.map kW) (cs.map vW)).map (e&& ·))=Z r/\_;have m:(∀x∈c::cs,wk x∈cs'.map wk)↔wk c∈cs'.map wk/\∀x∈cs,wk x∈cs'.map wk:=Zx6;by_cases q:∃d∈cs',d.1=c.1
  ·obtain⟨d,f,q⟩:=q;have z:=pM hn d f q;obtain⟨k1,u⟩:=OE (h c bZ) (d' d f);refine⟨kq c.2.1 d.2.1&&r,?_,?_⟩;·rw[show atK 't' (cs'.map vW) (kW c)=_ from z];show(cY 64 c.2.1.toD d.2.1.toD).bind _=_;rw[k1,e];rfl
   ·rw[cV,u,hr,m];refine and_congr_left λ_=>⟨λw=>aX.mpr ⟨d,f,by unfold wk;rw[q,w]⟩,λw=>?_⟩;obtain⟨i,j,g⟩:=aX.mp w;have g:(i.1,i.2.1)=(c.1,c.2.1):=g;rw[Bj]at g;have:=pM hn i j g.1;rw[z]at this;rw[<-g.2];exact(Ae (ao this)).symm
  ·refine⟨bi,by rw[show atK 't' (cs'.map vW) (kW c)=am from Fo q],⟨λw=>(nomatch w),λw=>?_⟩⟩;obtain⟨d,f,e⟩:=aX.mp (m.mp w).1;have e:(d.1,d.2.1)=(c.1,c.2.1):=e;rw[Bj]at e;exact(q ⟨d,f,e.1⟩).elim
theorem OG{C cs':List Ch}(m:(C.map (·.1)).Nodup)(hn:(cs'.map (·.1)).Nodup)(d':∀c∈cs',c.2.1.dp<=2):∀(cs:List Ch)(o:Option D),(∀c∈cs,c∈C/\c.2.1.dp<=2)->∃bs:List Bool,cn (gN 0) (cB (ab iQ (aa 0) (aa 2))) (ab (bg 64) (ab iP (aa 1) (aa 0)) (ab iP (aa 2) (aa 0))) [o,Z (.aW (C.map kW) (C.map vW)),Z (.aW 't' (cs'.map vW))] ((cs.map kW).map kD)=Z (bs.map D.bl)/\(bs.all id=be↔∀c∈cs,∀d∈cs',d.1=c.1->d.2.1=c.2.1)
 |[],_,_=>⟨[],W,⟨λ_ c r=>(nomatch r),λ_=>rfl⟩⟩|c::cs,o,h=>by
  obtain⟨bs,e,p⟩:=OG m hn d' cs (Z (.str c.1)) λx t=>h x (b8 _ t);have f:iQ (.str c.1) (.aW 't' (cs'.map vW))=Z (.bl (atK 't' (cs'.map vW) (kW c)).isSome):=rfl;have u:(∀x∈c::cs,∀d∈cs',d.1=x.1->d.2.1=x.2.1)↔(∀d∈cs',d.1=c.1->d.2.1=c.2.1)/\∀x∈cs,∀d∈cs',d.1=x.1->d.2.1=x.2.1:=Zx6;show ∃bs:List Bool,cn _ _ _ _ (.str c.1::(cs.map kW).map kD)=Z (bs.map D.bl)/\_;rw[u];by_cases q:∃d∈cs',d.1=c.1
  ·obtain⟨d,g,q⟩:=q;have z:=pM hn d g q;rw[show atK 't' (cs'.map vW) (kW c)=_ from z]at f;obtain⟨k1,v⟩:=OE (h c bZ).2 (d' d g);refine⟨kq c.2.1 d.2.1::bs,jr (ρ':=[Z (.str c.1),Z (.aW (C.map kW) (C.map vW)),Z (.aW 't' (cs'.map vW))]) W (aN (ak W W f)) (ak (ak W W (qZ W (pM m c (h c bZ).1 W))) (ak W W (qZ W z)) ?_) e,?_⟩;·show(cY 64 c.2.1.toD d.2.1.toD).map D.bl=_;rw[k1];rfl
   ·rw[cW,cV,p];refine and_congr_left λ_=>(show id (kq c.2.1 d.2.1)=be↔_ from v).trans ⟨λw y i j=>?_,λw=>(w d g q).symm⟩;have:=pM hn y i j;rw[z]at this;rw[w];exact(Ae (ao this)).symm
  ·have A:cB (ab iQ (aa 0) (aa 2)) [Z (.str c.1),Z (.aW (C.map kW) (C.map vW)),Z (.aW 't' (cs'.map vW))]=Z bi:=aN (ak W W (by rw[f,show atK 't' (cs'.map vW) (kW c)=am from Fo q];rfl));refine⟨bs,?_,p.trans ⟨λw=>⟨λd g j=>(q ⟨d,g,j⟩).elim,w⟩,λw=>w.2⟩⟩;simp only[cn,gN,Be,bb,A,lC,if_false];exact e
theorem OH{p g:Type}{f:p->g}{lt:g->g->Prop}(c:∀x,¬lt x x)(as:∀x y,lt x y->lt y x->False):∀{xs ys:List p},(xs.map f).Pairwise lt->(ys.map f).Pairwise lt->(∀x∈xs,x∈ys)->ys.length<=xs.length->xs=ys
 |[],[],_,_,_,_=>rfl|[],y::ys,_,_,_,h=>by simp at h|x::xs,[],_,_,h,_=>nomatch h x bZ|x::xs,y::ys,i,j,h,t=>by
  rw[bG,iw]at i j;have d:∀z∈xs,lt (f x) (f z):=λz hz=>i.1 _ (aX.mpr ⟨z,hz,W⟩);have m:∀z∈ys,lt (f y) (f z):=λz hz=>j.1 _ (aX.mpr ⟨z,hz,W⟩);have u:∀z∈xs,z∈ys:=λz hz=>by
   rcases a6.mp (h z (b8 _ hz))with q|q
   ·subst q;rcases a6.mp (h x bZ)with r|r;·exact(c _ (r▸d z hz)).elim
    ·exact(as _ _ (d z hz) (m x r)).elim
   ·exact q
  have e:=OH c as i.2 j.2 u (by simpa using t);subst e;rcases a6.mp (h x bZ)with r|r;·rw[r]
  ·exact(c _ (d x r)).elim
def ZmE{cs cs':List Ch}(r:eF (cs.map (·.1))=be)(r':eF (cs'.map (·.1))=be)(d:cs.length=cs'.length)(h:∀c∈cs,wk c∈cs'.map wk):cs.map wk=cs'.map wk:=by
 have hw:∀l:List Ch,(l.map wk).map (·.1)=l.map (·.1):=λl=>by rw[gX];rfl
 refine OH (f:=(·.1)) (lt:=λa b=>bM a b=be) (λx h=>E3 h W) (λx y e g=>E3 (oW e g) W) (by rw[hw];exact tV r) (by rw[hw];exact tV r') (λx i=>?_) (by rw[aG,aG];exact uw d.symm);obtain⟨c,j,rfl⟩:=aX.mp i;exact h c j
theorem Fp{n:Nat}(hn:2<=n){p q:Pl}(I:p.OK m N)(y:q.OK m N)(sp:p.ki=be)(Q:q.ki=be):pK n h p q=be↔¬oz h p q:=by cases p with|fin=>injection sp|say a b cs=>cases q with|fin=>injection Q|say v A cs'=>
 have j:=pJ I.o2;have B:=pJ y.o2;have d1:∀c∈cs,c.2.1.dp<=2:=λc f=>(j.ok c f).2;have J:∀c∈cs',c.2.1.dp<=2:=λc f=>(B.ok c f).2;have T:=I.2.2.2.2.2.2.2.2;have U:=y.2.2.2.2.2.2.2.2;obtain⟨e,n1,n2⟩:=Zqw h a b v A;have E:∃r,wH (cy h a b) (cy h v A) (.aW (cs.map kW) (cs.map vW)) (.aW 't' (cs'.map vW)) (a==h)=Z (.bl r)/\(r=be↔¬oz h (.say a b cs) (.say v A cs')):=by unfold wH;rw[n1,bb];show ∃r,_/\(r=be↔¬(cy h a b≠cy h v A\/(a=h/\cs.map wk≠cs'.map wk)\/∃c∈cs,∃g∈cs',g.1=c.1/\g.2.1≠c.2.1));cases e with|false=>exact⟨bi,W,⟨λw=>(nomatch w),λw=>(w (.inl λz=>nomatch n2.mpr z)).elim⟩⟩|true=>
   have L:=n2.mp W;simp only[QP];by_cases z:(a==h)=be
   ·rw[if_pos z];have z:=beq_iff_eq.mp z;obtain⟨r,e,hr⟩:=OF B.nd J d1;have Y:v5 64 (.aW (cs.map kW) (cs.map vW)) (.aW 't' (cs'.map vW))=(if(cs.map kW).length='t'.length then(lU 64 't' (cs'.map vW) (cs.map kW) (cs.map vW)).map D.bl else Z (.bl bi)):=rfl;rw[Y,e,aG,aG];by_cases l:cs.length=cs'.length
    ·rw[if_pos l];refine⟨r,W,hr.trans ⟨λw=>?_,λw c f=>?_⟩⟩
     ·have w:=ZmE T U l w;rintro(q|⟨_,q⟩|⟨c,f,g,i,H,t⟩);·exact q L
      ·exact q w
      ·have:wk g∈cs.map wk:=w▸aX.mpr ⟨g,i,W⟩;obtain⟨x,hx,u⟩:=aX.mp this;have u:(x.1,x.2.1)=(g.1,g.2.1):=u;rw[Bj]at u;have M:=pM j.nd x hx (u.1.trans H);rw[pM j.nd c f W]at M;exact t (u.2▸(Ae (ao M)).symm)
     ·have w:cs.map wk=cs'.map wk:=xH λq=>w (.inr (.inl ⟨z,q⟩));exact w▸aX.mpr ⟨c,f,W⟩
    ·rw[if_neg l];refine⟨bi,W,⟨λw=>(nomatch w),λw=>(w (.inr (.inl ⟨z,λq=>l ?_⟩))).elim⟩⟩;have:=congrArg uB q;simpa using this
   ·rw[if_neg z];obtain⟨bs,e,hb⟩:=OG (C:=cs) j.nd B.nd J cs am λc O=>⟨O,d1 c O⟩
    refine⟨bs.all id,?_,hb.trans ⟨λw=>?_,λw c f d hd q=>xH λt=>w (.inr (.inr ⟨c,f,d,hd,q,t⟩))⟩⟩;·rw[iT (by rfl) (small (by simp;have:=j.le;exact fo this)) e,bb];have:=all_map id bs;simpa using this
    ·rintro(q|⟨q,_⟩|⟨c,f,g,i,H,t⟩)
     ·exact q L
     ·exact z (beq_iff_eq.mpr q)
     ·exact t (w c f g i H)
 obtain⟨r,e,hr⟩:=E;rw[N9 (N5 hn j B e)];exact hr
structure OI{α:Type}(nx:Int->List (α×Int))(tu:Int->Bool)(ev:Int->Int->Bool)(Lb:Int->Int×Nat->Prop):Prop where
 z:∃l,Lb 0 l
 o:∀{x y l},tu x=bi->Lb x l->Sc nx x y->Lb y l
 t:∀{x y l},tu x=be->tu y=be->Lb x l->Lb y l->ev x y=be/\∀w x' y',(w,x')∈nx x->(w,y')∈nx y->∃l',Lb x' l'/\Lb y' l'
 a:∀{x y l},tu y=be->Lb x l->Lb y l->Ah nx tu x
section
variable {α:Type}{nx:Int->List (α × Int)}{tu:Int->Bool}{ev:Int->Int->Bool}{Lb:Int->Int × Nat->Prop}
def Ztg(h:OI nx tu ev Lb)(s:Sy nx tu 0 x y):∃l,Lb x l/\Lb y l:=by induction s with|z=>obtain⟨l,e⟩:=h.z;exact⟨l,e,e⟩|l _ n s c=>refine ax c λl a b=>?_;exact⟨l,h.o n a s,b⟩|r _ n s c=>refine ax c λl a b=>?_;exact⟨l,a,h.o n b s⟩|b _ n m s t c=>refine ax c λl a b=>?_;exact(h.t n m a b).2 _ _ _ s t
end
abbrev Tm:=Int×Int×Bool
noncomputable def kl(x0 x:Sd)(t:Tm):Sd:=if t.2.2 then x0 else x
def ik(x0 x:Sd)(g:Int):Int->List Tm->List Pl|_,[]=>[]|b,t::r=>.say t.1 t.2.1 [((kl x0 x t).1,(kl x0 x t).2,if r.isEmpty then g else b+1)]::ik x0 x g (b+1) r
def hP(x0:Sd)(τ:List Tm):Int->List (Sd×Int)->List Pl|_,[]=>[]|b,x::r=>ik x0 x.1 x.2 b τ++hP x0 τ (b+τ.length) r
noncomputable def iG(τ:List Tm):Int->List (Sd×Int)->List Ch|_,[]=>[]|b,x::r=>(x.1.1,x.1.2,if τ.isEmpty then x.2 else b)::iG τ (b+τ.length) r
structure Rn where
 one:Int
 o0:Int
 τ:List Tm
 x0:Sd
 xs:List (Sd×Int)
noncomputable def Rn.pn(r:Rn)(s:Int)(l1:List (Sd×Int))(t1:List Tm):Int:=s+1+((l1.length*r.τ.length+t1.length:Nat):Int)
theorem OJ(r:Rn)(s:Int)(l1:List (Sd×Int))(t1:List Tm)(t:Tm):r.pn s l1 t1+1=r.pn s l1 (t1++[t]):=by unfold Rn.pn;rw[bH,xy];lia
structure Zvy(ps:List Pl)(s:Int)(r:Rn):Prop where
 st:aC ps s=.say r.one r.o0 (iG r.τ (s+1) r.xs)
 ch:∀{l1 x l2 t1 t t2},r.xs=l1++x::l2->r.τ=t1++t::t2->aC ps (r.pn s l1 t1)=.say t.1 t.2.1 [((kl r.x0 x.1 t).1,(kl r.x0 x.1 t).2,if t2.isEmpty then x.2 else r.pn s l1 t1+1)]
 sp:∀t∈r.τ,t.1=r.one\/t.1=r.o0
 nd:(r.xs.map (·.1.1)).Nodup
 ne:r.xs≠[]
noncomputable def inv(h:Int)(t:Tm):Bool:=t.1==h||t.2.1==h
structure GR(ps:List Pl)(m E:Int)(ρ:Int->Option Rn)(α:Int->Option (Int×Int×Int)):Prop where
 b:(ρ 0).isSome\/0=E
 e:aC ps E=.fin
 r:∀{s r},ρ s=Z r->Zvy ps s r
 g:∀{s r},ρ s=Z r->∀x∈r.xs,(ρ x.2).isSome\/x.2=E\/(α x.2).isSome
 t:∀{s r},ρ s=Z r->∀h,0<=h->h<m->r.one=h\/r.o0=h\/∃t∈r.τ,inv h t=be/\t.2.2=bi
 a:∀{a u v f},α a=Z (u,v,f)->(∃cs,aC ps a=.say u v cs/\(∀c∈cs,c.2.2=a\/c.2.2=f)/\∃c∈cs,c.2.2=f)/\((ρ f).isSome\/f=E)
 k:∀i,(aC ps i).OK m ps.length
def nl(h:Int)(kn fs:Bool)(s:Int)(c:Int):Int->List Tm->Int×Nat|_,[]=>(c,0)|b,t::r=>if inv h t then(if kn then(b,0)else if fs then(s,0)else(s,r.length+1))else nl h kn fs s c (b+1) r
def kn(h:Int)(r:Rn)(t1:List Tm):Bool:=r.one==h||r.o0==h||t1.any λt=>inv h t&&!t.2.2
def fs(h:Int)(t1:List Tm):Bool:=!t1.any (inv h)
section
variable {ps:List Pl}{m E:Int}{ρ:Int->Option Rn}{α:Int->Option (Int × Int × Int)}{h:Int}
def Gl(ρ:Int->Option Rn)(α:Int->Option (Int×Int×Int))(E h g c:Int):Prop:=c=g/\((ρ g).isSome\/g=E)\/∃u v f,α g=Z (u,v,f)/\c=if u=h\/v=h then g else f
inductive Lb(ρ:Int->Option Rn)(α:Int->Option (Int×Int×Int))(E h:Int):Int->Int×Nat->Prop|e:Lb ρ α E h E (E,0)|s {s:Int} (hr:(ρ s).isSome):Lb ρ α E h s (s,0)|i {a u v f:Int} (ha:α a=Z (u,v,f)) (hi:u=h\/v=h):Lb ρ α E h a (a,0)|n {a u v f:Int} (ha:α a=Z (u,v,f)) (hn:¬(u=h\/v=h)):Lb ρ α E h a (f,0)|c {s γ:Int} {r:Rn} {l1 l2:List (Sd×Int)} {x:Sd×Int} {t1 t2:List Tm} {t:Tm} (hr:ρ s=Z r) (hx:r.xs=l1++x::l2) (ht:r.τ=t1++t::t2) (hg:Gl ρ α E h x.2 γ):Lb ρ α E h (r.pn s l1 t1) (nl h (kn h r t1) (fs h t1) s γ (r.pn s l1 t1) (t::t2))
def OL(q:Gl ρ α E h g c):Lb ρ α E h g (c,0):=by
 rcases q with⟨rfl,q|rfl⟩|⟨u,v,f,q,rfl⟩;·exact .s q
 ·exact .e
 ·split;·exact .i q ‹_›
  ·exact .n q ‹_›
def OM(q:(ρ g).isSome\/g=E\/(α g).isSome):∃c,Gl ρ α E h g c:=by
 rcases q with q|q|q;·exact⟨g,.inl ⟨W,.inl q⟩⟩
 ·exact⟨g,.inl ⟨W,.inr q⟩⟩
 ·obtain⟨⟨u,v,f⟩,e⟩:=xf.mp q;exact⟨_,.inr ⟨u,v,f,e,W⟩⟩
theorem ZuY{kn fs:Bool}{s:Int}{t2:List Tm}(f:kn=bi)(q:t2.any (inv h)=be):nl h kn fs s e b t2=nl h kn fs s c d t2:=by subst f;induction t2 generalizing b d with|nil=>injection q|cons t r g=>
  simp only[nl];split;·rfl
  ·rename_i hn;rw[jE,pW.mpr hn]at q;exact g q
def ZuZ{s:Int}{t2:List Tm}(q:t2.any (inv h)=be):nl h bi be s c b t2=(s,0):=by induction t2 generalizing b with|nil=>injection q|cons t r d=>
  simp only[nl];split;·rfl
  ·rename_i hn;rw[jE,pW.mpr hn]at q;exact d q
theorem Zvz{kn fs:Bool}{s:Int}{t2:List Tm}(q:t2.any (inv h)=bi):nl h kn fs s c b t2=(c,0):=by induction t2 generalizing b with|nil=>rfl|cons t r d=>rw[jE,G8]at q;simp only[nl,q.1,d q.2];rfl
def Fq{τ:List Tm}:∀{xs:List (Sd×Int)}{b:Int},c∈iG τ b xs->∃l1 x l2,xs=l1++x::l2/\c=(x.1.1,x.1.2,if τ.isEmpty then x.2 else b+((l1.length*τ.length:Nat):Int)):=by intro xs;induction xs with|nil=>intro b q;cases q|cons x r f=>
  intro b q;rcases a6.mp q with rfl|q;·exact⟨[],x,r,W,by simp⟩
  ·refine eM (f q) λl1 y l2 d e=>?_;subst d;subst e;refine⟨x::l1,y,l2,W,?_⟩;rw[bz,oJ];congr 2;split;·rfl
   ·lia
theorem m3(e:aC ps x=.say a b cs):aB ps h x=(a==h||b==h):=by unfold aB;rw[e]
theorem Af{cs:List Ch}(e:aC ps x=.say a b cs):bf ps x=cs.map λc=>(c.1,c.2.2):=by unfold bf;rw[e];rfl
def rh(e:aC ps x=.say a b cs)(q:Sc (bf ps) x y):∃c∈cs,y=c.2.2:=by obtain⟨w,q⟩:=q;rw[Af e]at q;exact ax (aX.mp q) λc d e=>⟨c,d,(kA e).2.symm⟩
def Ag{c:Ch}(e:aC ps x=.say a b cs)(d:c∈cs):Sc (bf ps) x c.2.2:=⟨c.1,by rw[Af e];exact aX.mpr ⟨c,d,W⟩⟩
variable (G:GR ps m E ρ α)
include G
theorem GR.aF{s d:Int}{r:Rn}{l1 l2:List (Sd×Int)}{x:Sd×Int}{t1 t2:List Tm}{t:Tm}(hr:ρ s=Z r)(g:r.xs=l1++x::l2)(i:r.τ=t1++t::t2)(f:Gl ρ α E h x.2 d):Lb ρ α E h (if t2.isEmpty then x.2 else r.pn s l1 t1+1) (nl h (kn h r (t1++[t])) (fs h (t1++[t])) s d (r.pn s l1 t1+1) t2):=by cases t2 with|nil=>exact OL f|cons t' t2=>
  have e:r.τ=(t1++[t])++t'::t2:=by rw[i,jX];rfl
  have:=Lb.c hr g e f;rw[<-OJ]at this;exact this
theorem GR.told{s:Int}{r:Rn}(hr:ρ s=Z r)(e:0<=h)(f:h<m){t2:List Tm}(g:r.τ=t1++t2)(c:kn h r t1=bi):t2.any (λt=>inv h t&&!t.2.2)=be:=by
 simp only[kn,G8,beq_eq_false_iff_ne]at c;rcases G.t hr h e f with q|q|⟨t,hm,q,d⟩;·exact absurd q c.1.1
 ·exact absurd q c.1.2
 ·rw[g]at hm;rcases bU.mp hm with hm|hm;·have:=Qo.mp c.2 t hm;rw[q,d]at this;exact absurd W this
  ·exact G9.mpr ⟨t,hm,by rw[q,d];rfl⟩
end
section
variable {ps:List Pl}{m E:Int}{ρ:Int->Option Rn}{α:Int->Option (Int × Int × Int)}{h:Int}
def Fs{t1 t2:List Tm}(q:t2.any (λt=>inv h t&&!t.2.2)=be):t2.any (inv h)=be:=by refine ax (G9.mp q) λt c q=>?_;rw[cV]at q;exact G9.mpr ⟨t,c,q.1⟩
theorem ON{t:Tm}:kn h r (t1++[t])=(kn h r t1||(inv h t&&!t.2.2)):=by simp[kn,Bool.or_assoc]
theorem ZvA:fs h (t1++[t])=(fs h t1&&!inv h t):=by simp[fs]
theorem OO(r:Rn)(s:Int)(l1:List (Sd×Int)):r.pn s l1 []=s+1+((l1.length*r.τ.length:Nat):Int):=rfl
variable (G:GR ps m E ρ α)
include G
theorem GR.o(C:0<=h)(H:h<m)(n:aB ps h x=bi)(q:Lb ρ α E h x l)(s:Sc (bf ps) x y):Lb ρ α E h y l:=by induction q using Lb.casesOn with
 |e=>obtain⟨w,s⟩:=s;simp[bf,G.e,Pl.bK]at s|s hr=>
  obtain⟨r,hr⟩:=xf.mp hr;have R:=G.r hr;rw[m3 R.st]at n;refine ax (rh R.st s) λc p d=>?_;subst d;refine eM (Fq p) λl1 x l2 j v=>?_;subst v;have B:kn h r []=bi:=by simp[kn,n]
  have f:r.τ.any (inv h)=be:=Fs (t1:=[]) (G.told hr C H (t1:=[]) W B);obtain⟨I,z⟩:=OM (h:=h) (G.g hr x (by rw[j];simp));cases e:r.τ with|nil=>rw[e]at f;cases f|cons t t2=>have:=Lb.c hr j (t1:=[]) e z;rw[<-e,B,show fs h []=be from W,ZuZ f,OO,e]at this;exact this
 |i u J=>obtain⟨⟨cs,e,_⟩,_⟩:=G.a u;rw[m3 e]at n;simp at n;lia|n u hn=>
  obtain⟨⟨cs,e,k,_⟩,A⟩:=G.a u;refine ax (rh e s) λc p d=>?_;subst d;rcases k c p with e|e<;>rw[e];·exact .n u hn
  ·rcases A with A|rfl;·exact .s A
   ·exact .e
 |@c s' I r l1 l2 x t1 t2 t hr j f z=>have R:=G.r hr;rw[m3 (R.ch j f)]at n;refine ax (rh (R.ch j f) s) λc p d=>?_;subst d;cases aZ.mp p;have:=G.aF hr j f z;have e:inv h t=bi:=n;rw[ON,ZvA,e]at this;simpa [nl,e]using this
theorem GR.own(n:aB ps h x=be)(q:Lb ρ α E h x l):l=(x,0)\/∃(s d:Int)(r:Rn)(l1 l2:List (Sd×Int))(y:Sd×Int)(t1 t2:List Tm)(t:Tm),ρ s=Z r/\r.xs=l1++y::l2/\r.τ=t1++t::t2/\Gl ρ α E h y.2 d/\kn h r t1=bi/\inv h t=be/\x=r.pn s l1 t1/\l=if fs h t1 then(s,0)else(s,t2.length+1):=by induction q using Lb.casesOn with|e=>simp[aB,G.e]at n|s hr=>exact .inl W|i f u=>exact .inl W|n f hn=>obtain⟨⟨cs,e,_⟩,_⟩:=G.a f;rw[m3 e]at n;simp at n;exact absurd n hn|@c s' d r l1 l2 x t1 t2 t hr g j p=>have R:=G.r hr;rw[m3 (R.ch g j)]at n;have e:inv h t=be:=n;cases k:kn h r t1 with|true=>exact .inl (by simp[nl,e])|false=>exact .inr ⟨s',d,r,l1,l2,x,t1,t2,t,hr,g,j,p,k,e,W,by simp[nl,e]⟩
theorem GR.ZvB(q:Lb ρ α E h x l)(s:(w,y)∈bf ps x):∃B,Lb ρ α E h y B:=by have s':Sc (bf ps) x y:=⟨w,s⟩;induction q using Lb.casesOn with
 |e=>simp[bf,G.e,Pl.bK]at s|s hr=>obtain⟨r,hr⟩:=xf.mp hr;have R:=G.r hr;refine ax (rh R.st s') λc f d=>?_;subst d;refine eM (Fq f) λl1 x l2 p z=>?_;subst z;obtain⟨C,v⟩:=OM (h:=h) (G.g hr x (by rw[p];simp));cases e:r.τ with
  |nil=>exact⟨_,OL v⟩|cons t t2=>have:=Lb.c hr p (t1:=[]) e v;rw[OO,e]at this;exact⟨_,this⟩
 |i u H=>
  obtain⟨⟨cs,e,k,_⟩,j⟩:=G.a u;refine ax (rh e s') λc f d=>?_;subst d;rcases k c f with e|e<;>rw[e];·exact⟨_,.i u H⟩
  ·rcases j with j|rfl;·exact⟨_,.s j⟩
   ·exact⟨_,.e⟩|n u hn=>
  obtain⟨⟨cs,e,k,_⟩,j⟩:=G.a u;refine ax (rh e s') λc f d=>?_;subst d;rcases k c f with e|e<;>rw[e];·exact⟨_,.n u hn⟩
  ·rcases j with j|rfl
   ·exact⟨_,.s j⟩
   ·exact⟨_,.e⟩
 |@c s' C r l1 l2 x t1 t2 t hr p A v=>have R:=G.r hr;refine ax (rh (R.ch p A) ‹_›) λc f d=>?_;subst d;cases aZ.mp f;exact⟨_,G.aF hr p A v⟩
end
section
def Ztj{d:Type}{p:d->Bool}{t t':d}{t2 f:List d}(k:p t=be)(k':p t'=be):∀{t1 c:List d},t1++t::t2=c++t'::f->t1.any p=bi->c.any p=bi->t1=c:=by intro t1;induction t1 with
 |nil=>intro c e _ q;cases c with
  |nil=>rfl|cons a r=>cases e;rw[jE,k]at q;cases q
 |cons a r h=>intro c e q g;cases c with|nil=>cases e;rw[jE,k']at q;cases q|cons b r'=>cases(rN e).1;rw[jE,G8]at q g;rw[h (rN e).2 q.2 g.2]
def Fu{d i:Type}{f:d->i}{y g:d}{l2 h:List d}:∀{l1 c:List d},l1++y::l2=c++g::h->((l1++y::l2).map f).Nodup->f y=f g->l1=c/\y=g:=by intro l1;induction l1 with
 |nil=>intro c e n k;cases c with
  |nil=>cases e;exact⟨W,W⟩|cons a r=>cases(rN e).1;rw[show l2=_ from(rN e).2]at n;simp[k]at n
 |cons a r j=>intro c e n k;cases c with|nil=>cases(rN e).1;simp[k]at n|cons b r'=>cases(rN e).1;obtain⟨m,p⟩:=j (rN e).2 (d8.mp n).2 k;exact⟨by rw[m],p⟩
def ow2{s:Int}{n:Nat}(e:(if a=be then(s,0)else(s,n+1))=(if b=be then(s',0)else(s',c+1))):s=s'/\(a=be/\b=be\/n=c):=by
 cases a<;>cases b;·exact⟨(kA e).1,.inr (rK (kA e).2)⟩
 ·exact absurd (kA e).2 (Rz _)
 ·exact absurd (kA e).2.symm (Rz _)
 ·exact⟨(kA e).1,.inl ⟨W,W⟩⟩
def OP{x s':Int}{c:Nat}{b:Bool}(e:(x,0)=if b=be then(s',0)else(s',c+1)):x=s':=by
 cases b;·exact absurd (kA e).2.symm (Rz _)
 ·exact(kA e).1
variable {ps:List Pl}{m E:Int}{ρ:Int->Option Rn}{α:Int->Option (Int × Int × Int)}{h:Int}
def ZmG{p:Pl}(n:(p.bK.map (·.1)).Nodup):¬oz h p p:=by cases p with|fin=>exact id|say a b cs=>
  rintro(q|⟨_,q⟩|⟨c,i,u,d,e,k⟩);·exact q W
  ·exact q W
  ·obtain⟨l1,l2,g⟩:=Bi i;obtain⟨j,r,t⟩:=Bi d;have:=Fu (f:=λc:Ch=>c.1) (g.symm.trans t) (by rw[<-g];exact n) e.symm;exact k (by rw[this.2])
variable (G:GR ps m E ρ α)
include G
theorem GR.nd(x:Int):((aC ps x).bK.map (·.1)).Nodup:=by have:=G.k x;cases e:aC ps x with|fin=>simp[Pl.bK]|say a b cs=>rw[e]at this;exact zP this.2.2.2.2.2.2.2.2
theorem GR.say(t:aB ps h x=be):(aC ps x).ki=be:=by unfold aB at t;cases e:aC ps x with|fin=>rw[e]at t;cases t|say a b cs=>rfl
theorem GR.OQ{k:Nat}(e:2<=k)(c:aB ps h x=be)(d:aB ps h y=be)(u:¬oz h (aC ps x) (aC ps y)):iW k ps h x y=be:=by unfold iW;rw[c,d,(Fp e (G.k x) (G.k y) (G.say c) (G.say d)).mpr u];rfl
theorem GR.clm(M:aB ps h x=be)(I:aB ps h y=be)(Q:Lb ρ α E h x l)(N:Lb ρ α E h y l):x=y\/∃(s J d:Int)(r:Rn)(l1 l2 c g:List (Sd×Int))(b v:Sd×Int)(t1 t2:List Tm)(t:Tm),ρ s=Z r/\r.xs=l1++b::l2/\r.xs=c++v::g/\r.τ=t1++t::t2/\Gl ρ α E h b.2 J/\Gl ρ α E h v.2 d/\kn h r t1=bi/\x=r.pn s l1 t1/\y=r.pn s c t1:=by
 have one:∀{s r t1 l1 l2 y t t2},ρ s=Z r->r.xs=l1++y::l2->r.τ=t1++t::t2->kn h r t1=bi->¬aB ps h s=be:=by intro s r t1 l1 l2 y t t2 hr _ _ k q;rw[m3 (G.r hr).st]at q;simp[kn,q]at k
 rcases G.own M Q with e|⟨s,J,r,l1,l2,b,t1,t2,t,hr,O,H,T,kx,ix,rfl,e⟩
 ·rcases G.own I N with j|⟨s',d,r',c,g,v,w,L,t',p,u,i,A,B,C,rfl,j⟩;·exact .inl (kA (e.symm.trans j)).1
  ·exact(one p u i B (OP (e.symm.trans j)▸M)).elim
 ·rcases G.own I N with j|⟨s',d,r',c,g,v,w,L,t',p,u,i,A,B,C,rfl,j⟩;·exact(one hr O H kx (OP (j.symm.trans e)▸I)).elim
  ·obtain⟨rfl,U⟩:=ow2 (e.symm.trans j);exists (hr.symm.trans p);obtain rfl:t1=w:=U.elim (λz=>aM z λf Y=>Ztj ix C (H.symm.trans i) (by simpa [fs]using f) (by simpa [fs]using Y)) λq=>(List.append_inj' (H.symm.trans i) (congrArg (· +1) q)).1;exact .inr ⟨s,J,d,r,l1,l2,c,g,b,v,t1,t2,t,hr,O,u,H,T,A,kx,W,W⟩
theorem GR.two{k:Nat}(O:2<=k)(h0:0<=h)(h1:h<m)(H:aB ps h x=be)(Q:aB ps h y=be)(T:Lb ρ α E h x l)(qy:Lb ρ α E h y l):iW k ps h x y=be/\∀w z A,(w,z)∈bf ps x->(w,A)∈bf ps y->∃I,Lb ρ α E h z I/\Lb ρ α E h A I:=by
 rcases G.clm H Q T qy with rfl|⟨s,γ,γ',r,l1,l2,B,J,b,U,t1,t2,t,hr,j,e,d,L,M,kx,rfl,rfl⟩
 ·refine⟨G.OQ O H H (ZmG (G.nd x)),λw z A a b=>?_⟩;have:z=A:=by have n:=G.nd x;obtain⟨c,N,u⟩:=aX.mp a;obtain⟨c',g,v⟩:=aX.mp b;obtain⟨l1,l2,Y⟩:=Bi N;obtain⟨B,J,e4⟩:=Bi g;have:=Fu (f:=λc:Ch=>c.1) (Y.symm.trans e4) (by rw[<-Y];exact n) ((kA u).1.trans (kA v).1.symm);rw[this.2]at u;exact(kA (u.symm.trans v)).2
  subst this;obtain⟨I,q⟩:=G.ZvB T a;exact⟨I,q,q⟩
 ·have R:=G.r hr;have p:=R.ch j d;have p':=R.ch e d;have same:t.2.2=bi->b.1.1=U.1.1->l1=B/\b=U:=λ_ k=>Fu (f:=λx:Sd×Int=>x.1.1) (j.symm.trans e) (by rw[<-j];exact R.nd) k;have hn:t.1≠h:=λq=>by
   simp only[kn,G8,beq_eq_false_iff_ne]at kx;rcases R.sp t (by rw[d];simp)with k|k;·exact kx.1.1 (k.symm.trans q)
   ·exact kx.1.2 (k.symm.trans q)
  refine⟨G.OQ O H Q ?_,λw z A a c=>?_⟩
  ·rw[p,p'];rintro(q|⟨q,_⟩|⟨c,N,c',g,u,v⟩);·exact q W
   ·exact hn q
   ·cases aZ.mp N;cases aZ.mp g;cases i:t.2.2 with|true=>simp[kl,i]at v|false=>simp only[kl,i]at u v;exact v (by rw[(same i u.symm).2])
  ·rw[Af p]at a;rw[Af p']at c;simp only[bG,uF,aZ,Bj]at a c;obtain⟨a1,rfl⟩:=a;obtain⟨c1,rfl⟩:=c;cases i:t.2.2 with|true=>
    have C:kn h r (t1++[t])=bi:=by rw[ON,kx,i];simp
    have ti:=Fs (t1:=[]) (G.told hr h0 h1 (t1:=t1++[t]) (t2:=t2) (by rw[d,jX];rfl) C);refine⟨_,G.aF hr j d L,?_⟩;rw[ZuY C ti];exact G.aF hr e d M|false=>have:=same i (by simpa [kl,i]using a1.symm.trans c1);obtain⟨rfl,rfl⟩:=this;exact⟨_,G.aF hr j d L,G.aF hr j d L⟩
variable (G:GR ps m E ρ α)
include G
theorem GR.Fv{s:Int}{r:Rn}(hr:ρ s=Z r){x:Sd×Int}(d:r.xs=l1++x::l2):∀{t2 t1:List Tm}{t:Tm},r.τ=t1++t::t2->(t::t2).any (inv h)=be\/Ah (bf ps) 'k' x.2->Ah (bf ps) 'k' (r.pn s l1 t1):=by
 intro t2;induction t2 with|nil=>intro t1 t c q;have p:=(G.r hr).ch d c;cases e:inv h t with|true=>exact .t (by rw[m3 p];exact e)|false=>
   rcases q with q|q;·simp[e]at q
   ·exact .s (Ag p (aZ.mpr W)) q|cons t' t2 f=>intro t1 t c q;have p:=(G.r hr).ch d c;cases e:inv h t with|true=>exact .t (by rw[m3 p];exact e)|false=>refine .s (Ag p (aZ.mpr W)) ?_;show Ah _ _ (r.pn s l1 t1+1);rw[OJ r s l1 t1 t];refine f (by rw[c,jX];rfl) (q.imp_left λq=>?_);rw[jE,e]at q;exact q
theorem GR.Fw(g:0<=h)(i:h<m){s:Int}(q:(ρ s).isSome):Ah (bf ps) 'k' s:=by obtain⟨r,hr⟩:=xf.mp q;have R:=G.r hr;cases n:aB ps h s with|true=>exact .t n|false=>
  rw[m3 R.st]at n;have j:kn h r []=bi:=by simp[kn,n]
  have d:r.τ.any (inv h)=be:=Fs (t1:=[]) (G.told hr g i (t1:=[]) W j);obtain⟨x,l2,f⟩:=G3 R.ne;cases e:r.τ with|nil=>rw[e]at d;injection d|cons t t2=>
   have:=G.Fv (h:=h) hr (l1:=[]) f (t1:=[]) e (.inl (by rw[<-e];exact d));refine .s (Ag R.st (c:=(x.1.1,x.1.2,s+1)) ?_) ?_;·rw[f,e];exact .head _
   ·simpa [Rn.pn]using this
theorem GR.Fx(d:0<=h)(j:h<m){g:Int}(q:Gl ρ α E h g p):Ah (bf ps) 'k' g\/p=E:=by
 rcases q with⟨rfl,q|q⟩|⟨u,v,f,q,rfl⟩;·exact .inl (G.Fw d j q)
 ·exact .inr q
 ·obtain⟨⟨cs,e,_,c,r,k⟩,k2⟩:=G.a q;split;·rename_i i;exact .inl (.t (by rw[m3 e];simpa using i))
  ·rcases k2 with k2|k2;·exact .inl (.s (by rw[<-k];exact Ag e r) (G.Fw d j k2))
   ·exact .inr k2
theorem GR.ahE(d:0<=h)(f:h<m)(q:Lb ρ α E h x l):Ah (bf ps) 'k' x\/l=(E,0):=by induction q using Lb.casesOn with|e=>exact .inr W|s hr=>exact .inl (G.Fw d f hr)|i g r=>exact(G.Fx d f (.inr ⟨_,_,_,g,W⟩)).imp_right λe=>by rw[if_pos r]at e;rw[e]|n g hn=>exact(G.Fx d f (.inr ⟨_,_,_,g,W⟩)).imp_right λe=>by rw[if_neg hn]at e;rw[e]|c hr j p u=>rename_i t1 t2 t;cases e:(t::t2).any (inv h)with|true=>exact .inl (G.Fv hr j p (.inl e))|false=>rw[Zvz e];exact(G.Fx d f u).imp (λq=>G.Fv hr j p (.inr q)) λe=>by rw[e]
theorem GR.Fy{k:Nat}(f:2<=k)(c:0<=h)(d:h<m):OI (bf ps) 'k' (iW k ps h) (Lb ρ α E h) where
 z:=G.b.elim (λq=>⟨_,.s q⟩) λq=>⟨(E,0),by rw[q];exact .e⟩
 o:=G.o c d
 t:=G.two f c d
 a:=λ{x y l} t g i=>(G.ahE c d g).elim id λe=>by
  subst e;rcases G.own t i with e|⟨s,j,r,l1,l2,b,t1,t2,t',hr,p,u,v,kx,ix,rfl,e⟩;·cases e;simp[aB,G.e]at t
  ·split at e;·cases e;have:=(G.r hr).st;rw[G.e]at this;injection this
   ·cases e
theorem GR.ZvC{k:Nat}(c:2<=k)(d:0<=h)(e:h<m)(s:Sy (bf ps) 'k' 0 x y):¬iX k ps h x y:=by
 refine ax (Ztg (G.Fy c d e) s) λl a b=>?_;rintro⟨m,f|⟨n,f⟩⟩;·exact f ((G.Fy c d e).a m a b)
 ·rw[((G.Fy c d e).t n m a b).1]at f;injection f
end
structure Rt where
 r:Rn
 ap:Option (Int×Int×List Ch×Int)
def Rn.cU(r:Rn)(s:Int):List Pl:=.say r.one r.o0 (iG r.τ (s+1) r.xs)::hP r.x0 r.τ (s+1) r.xs
noncomputable def Rt.ri(e:Rt):List Pl:=(e.ap.map λa=>Pl.say a.1 a.2.1 a.2.2.1).toList
noncomputable def Rt.cU(e:Rt)(s:Int):List Pl:=e.r.cU s++e.ri
noncomputable def Rn.n(r:Rn):Nat:=1+r.xs.length*r.τ.length
noncomputable def Rt.n(e:Rt):Nat:=e.r.n+e.ri.length
theorem Ai:∀{τ:List Tm}{b:Int},(ik x0 x g b τ).length=τ.length:=by intro τ;induction τ with|nil=>intro b;rfl|cons t r c=>intro b;simp[ik,c]
theorem Aj{τ:List Tm}:∀{xs:List (Sd×Int)}{b:Int},(hP x0 τ b xs).length=xs.length*τ.length:=by intro xs;induction xs with|nil=>intro b;simp[hP]|cons x r c=>intro b;simp[hP,c,Ai,oJ,Bg]
theorem pP(e:Rt)(s:Int):(e.cU s).length=e.n:=by simp[Rt.cU,Rn.cU,Aj,Rt.n,Rn.n];lia
def Ztk{t:Tm}{t2:List Tm}:∀{t1:List Tm}{b:Int},(ik x0 x g b (t1++t::t2))[t1.length]?=Z (.say t.1 t.2.1 [((kl x0 x t).1,(kl x0 x t).2,if t2.isEmpty then g else b+(t1.length:Int)+1)]):=by intro t1;induction t1 with|nil=>intro b;simp[ik]|cons a r c=>intro b;show(ik x0 x g (b+1) (r++t::t2))[r.length]?=_;rw[c,bz,show b+1+(r.length:Int)+1=b+((r.length+1:Nat):Int)+1 by lia]
def Ztl{τ:List Tm}{x:Sd×Int}:∀{l1:List (Sd×Int)}{b:Int},i<τ.length->(ik x0 x.1 x.2 (b+((l1.length*τ.length:Nat):Int)) τ)[i]?=Z p->(hP x0 τ b (l1++x::l2))[l1.length*τ.length+i]?=Z p:=by intro l1;induction l1 with|nil=>intro b c q;simp at q;show(ik x0 x.1 x.2 b τ++_)[_]?=_;rw[lz,Nat.zero_mul,oH,gL (by rw[Ai];exact c)];exact q|cons a r d=>intro b c q;show(ik x0 a.1 a.2 b τ++hP x0 τ (b+τ.length) (r++x::l2))[_]?=_;rw[bz,oJ,ku (by rw[Ai];lia),Ai,show r.length*τ.length+τ.length+i-τ.length=r.length*τ.length+i by lia];refine d c ?_;rw[bz,oJ]at q;rw[show b+(τ.length:Int)+((r.length*τ.length:Nat):Int)=b+((r.length*τ.length+τ.length:Nat):Int) by lia];exact q
structure wM(m:Int)(st:List Int)(s:Int)(e:Rt):Prop where
 sp:∀t∈e.r.τ,t.1=e.r.one\/t.1=e.r.o0
 nd:(e.r.xs.map (·.1.1)).Nodup
 ne:e.r.xs≠[]
 t:∀h,0<=h->h<m->e.r.one=h\/e.r.o0=h\/∃t∈e.r.τ,inv h t=be/\t.2.2=bi
 g:∀x∈e.r.xs,x.2∈st\/e.ap.isSome/\x.2=s+e.r.n
 a:∀{u v cs f},e.ap=Z (u,v,cs,f)->f∈st/\(∀c∈cs,c.2.2=s+e.r.n\/c.2.2=f)/\∃c∈cs,c.2.2=f
noncomputable def bL:Int->List Rt->List Pl|_,[]=>[]|s,e::L=>e.cU s++bL (s+e.n) L
noncomputable def aR:Int->List Rt->List Int|s,[]=>[s]|s,e::L=>s::aR (s+e.n) L
def ud(m:Int)(st:List Int):Int->List Rt->Prop|_,[]=>True|s,e::L=>wM m st s e/\ud m st (s+e.n) L
inductive EA:Int->List Rt->Int->Rt->Prop|h {s:Int} {e:Rt} {L:List Rt}:EA s (e::L) s e|t {s s':Int} {e e':Rt} {L:List Rt} (q:EA (s+e.n) L s' e'):EA s (e::L) s' e'
def Ak{st:List Int}{s:Int}(q:EA s L s' e):ud m st s L->wM m st s' e:=by induction q with|h=>exactλq=>q.1|t _ c=>exactλq=>c q.2
def OR{s:Int}{e:Rt}(q:EA s L s' e):∀{pre post:List Pl},(pre.length:Int)=s->∃c d,pre++bL s L++post=c++e.cU s'++d/\(c.length:Int)=s':=by induction q with|@h s e L=>intro pre post f;exact⟨pre,bL (s+e.n) L++post,by simp[bL],f⟩|@t s s' e r L q g=>intro pre post f;obtain⟨i,j,m,p⟩:=g (pre:=pre++e.cU s) (post:=post) (by rw[bH,pP];lia);exact⟨i,j,by rw[<-m];simp[bL],p⟩
def Zu0:∀{L:List Rt}{s:Int},x∈aR s L->(∃e,EA s L x e)\/x=(aR s L).getLastD 0:=by intro L;induction L with|nil=>intro s q;exact .inr (aZ.mp q)|cons e L c=>
  intro s q;rcases a6.mp q with rfl|q;·exact .inl ⟨e,.h⟩
  ·rcases c q with⟨d,q⟩|q;·exact .inl ⟨d,.t q⟩
   ·refine .inr (q.trans ?_);cases L<;>exact W
theorem ZmI:∀{L:List Rt}{s:Int},(aR s L).getLastD 0=s+((bL s L).length:Int):=by intro L;induction L with|nil=>intro s;simp[aR,bL]|cons e L c=>
  intro s;have:(aR s (e::L)).getLastD 0=(aR (s+e.n) L).getLastD 0:=by cases L<;>exact W
  rw[this,c];simp[bL,pP];lia
def Fz{pre post l:List Pl}{s:Int}{i:Nat}{p:Pl}(hs:(pre.length:Int)=s)(q:l[i]?=Z p):aC (pre++l++post) (s+(i:Int))=p:=by have c:=(bt.mp q).1;unfold aC;rw[<-hs,show(pre.length+(i:Int)).toNat=pre.length+i by exact W,jX,ku (by exact Nat.le_add_right ..),Nat.add_sub_cancel_left,gL c,q];rfl
open Classical in
noncomputable def ue{c:Type}(P:c->Prop):Option c:=if h:∃b,P b then Z (choose h)else am
def Am{c:Type}{P:c->Prop}{b:c}(q:ue P=Z b):P b:=by
 unfold ue at q;split at q;·rename_i h;exists q;exact Ba h
 ·injection q
def OS{c:Type}{P:c->Prop}{b:c}(q:P b):(ue P).isSome:=by unfold ue;rw[dif_pos ⟨b,q⟩];rfl
def OT(L:List Rt)(s:Int):Option Rn:=ue λr=>∃e,EA 0 L s e/\e.r=r
def ZvD(L:List Rt)(a:Int):Option (Int×Int×Int):=ue λt=>∃s e cs,EA 0 L s e/\e.ap=Z (t.1,t.2.1,cs,t.2.2)/\a=s+e.r.n
def FA(q:x∈aR 0 L):(OT L x).isSome\/x=((bL 0 L).length:Int):=by
 rcases Zu0 q with⟨e,q⟩|q;·exact .inl (OS ⟨e,q,W⟩)
 ·rw[ZmI]at q;exact .inr 'm'
def Zu1{s:Int}{e:Rt}(d:EA 0 L s e)(g:e.ap=Z (u,v,cs,f)):aC (bL 0 L++[.fin]) (s+e.r.n)=.say u v cs:=by
 obtain⟨i,j,c,h⟩:=OR d (pre:=[]) (post:=[Pl.fin]) W;rw[RA]at c;rw[c];refine Fz h ?_;show(e.r.cU s++e.ri)[_]?=_;have:(e.r.cU s).length=e.r.n:=by simp[Rn.cU,Aj,Rn.n,Bg]
 rw[ku (by exact uw this),this,Bc];unfold Rt.ri;rw[g];rfl
def Zu2(q:ud m (aR 0 L) 0 L)(C:∀i,(aC (bL 0 L++[.fin]) i).OK m (bL 0 L++[Pl.fin]).length):GR (bL 0 L++[.fin]) m ((bL 0 L).length:Int) (OT L) (ZvD L) where
 b:=FA (by cases L<;>exact .head _)
 e:=by simp[aC]
 r:=λ{s r} h=>by
  obtain⟨e,d,rfl⟩:=Am h;have K:=Ak d q;obtain⟨J,w,y,z⟩:=OR d (pre:=[]) (post:=[Pl.fin]) W;rw[RA]at y;rw[y];refine⟨?_,λ{l1 x l2 t1 t t2} j A=>?_,K.sp,K.nd,K.ne⟩;·have:=Fz (post:=w) z (l:=e.cU s) (i:=0) W;rw[show s+((0:Nat):Int)=s by simp]at this;exact this
  ·have E:t1.length<e.r.τ.length:=by rw[A];simp
   have c:=Ztk (x0:=e.r.x0) (x:=x.1) (g:=x.2) (t:=t) (t2:=t2) (t1:=t1) (b:=s+1+((l1.length*e.r.τ.length:Nat):Int));rw[<-A]at c;have:=Ztl (l1:=l1) (l2:=l2) (b:=s+1) E c;rw[<-j]at this;have:=Fz (post:=w) z (l:=e.cU s) (i:=l1.length*e.r.τ.length+t1.length+1) (p:=_) (by show(Pl.say _ _ _::hP e.r.x0 e.r.τ (s+1) e.r.xs++e.ri)[_]?=_;rw[gL (by rw[bz];have:=(bt.mp this).1;grind),Bb];exact this);rw[show s+((l1.length*e.r.τ.length+t1.length+1:Nat):Int)=e.r.pn s l1 t1 by unfold Rn.pn;lia]at this;rw[this,show s+1+((l1.length*e.r.τ.length:Nat):Int)+(t1.length:Int)+1=e.r.pn s l1 t1+1 by unfold Rn.pn;lia]
 g:=λ{s r} h x j=>by
  obtain⟨e,d,rfl⟩:=Am h;rcases(Ak d q).g x j with k|⟨k,k'⟩;·exact(FA k).imp_right .inl
  ·obtain⟨⟨u,v,cs,f⟩,k⟩:=xf.mp k;exact .inr (.inr (OS (b:=(u,v,f)) ⟨s,e,cs,d,k,k'⟩))
 t:=λ{s r} h=>by obtain⟨e,d,rfl⟩:=Am h;exact(Ak d q).t
 a:=λ{a u v f} h=>by obtain⟨s,e,cs,d,B,rfl⟩:=Am h;obtain⟨k1,H,I⟩:=(Ak d q).a B;exact⟨⟨cs,Zu1 d B,H,I⟩,FA k1⟩
 k:=C
theorem ZmJ{τ:List Tm}{x:Sd×Int}:∀{l:List (Sd×Int)}{b:Int},hP x0 τ b (l++[x])=hP x0 τ b l++ik x0 x.1 x.2 (b+((l.length*τ.length:Nat):Int)) τ:=by intro l;induction l with|nil=>intro b;simp[hP]|cons y r c=>intro b;show ik _ _ _ _ _++hP x0 τ (b+τ.length) (r++[x])=_;rw[c,bz,oJ,show b+(τ.length:Int)+((r.length*τ.length:Nat):Int)=b+((r.length*τ.length+τ.length:Nat):Int) by lia];simp[hP]
theorem ZkC{τ:List Tm}{x:Sd×Int}:∀{l:List (Sd×Int)}{b:Int},iG τ b (l++[x])=iG τ b l++[(x.1.1,x.1.2,if τ.isEmpty then x.2 else b+((l.length*τ.length:Nat):Int))]:=by intro l;induction l with|nil=>intro b;simp[iG]|cons y r c=>intro b;show _::iG τ (b+τ.length) (r++[x])=_;rw[c,bz,oJ,show b+(τ.length:Int)+((r.length*τ.length:Nat):Int)=b+((r.length*τ.length+τ.length:Nat):Int) by lia];exact W
def oA(x0:Sd)(τ:List Tm)(s:Int)(xs:List (Sd×Int)):List D:=(hP x0 τ (s+1) xs).map Pl.toD
def oB(τ:List Tm)(s:Int)(xs:List (Sd×Int)):List D:=(iG τ (s+1) xs).map cg
noncomputable def wN:List D->List Pl->List D|rs,[]=>rs|rs,p::l=>wN (rs++[p.toD]) l
theorem Zqz:∀{l:List Pl}{c:List D},wN c l=c++l.map Pl.toD:=by intro l;induction l with|nil=>intro c;simp[wN]|cons p l d=>intro c;simp[wN,d]
theorem OU{τ:List Tm}{s:Int}{xs:List (Sd×Int)}{x:Sd×Int}(h:xs[i]?=Z x):oA x0 τ s (xs.take (i+1))=wN (oA x0 τ s (xs.take i)) (ik x0 x.1 x.2 (s+1+((i*τ.length:Nat):Int)) τ):=by rw[Zqz];unfold oA;rw[lD,h];show(hP x0 τ (s+1) (xs.take i++[x])).map _=_;rw[ZmJ,cz,ly,G_ (gK (bt.mp h).1)]
theorem OV{τ:List Tm}{s:Int}{xs:List (Sd×Int)}{x:Sd×Int}(h:xs[i]?=Z x):oB τ s (xs.take (i+1))=oB τ s (xs.take i)++[cg (x.1.1,x.1.2,if τ.isEmpty then x.2 else s+1+((i*τ.length:Nat):Int))]:=by unfold oB;rw[lD,h];show(iG τ (s+1) (xs.take i++[x])).map _=_;rw[ZkC,cz,ly,G_ (gK (bt.mp h).1)];rfl
def OW{s:Int}{xs:List (Sd×Int)}(h:i<=xs.length):(oB τ s (xs.take i)).length=i:=by
 have:∀(l:List (Sd×Int))(b:Int),(iG τ b l).length=l.length:=by intro l;induction l with|nil=>intro b;rfl|cons x r c=>intro b;simp[iG,c]
 unfold oB;rw[aG,this,ly,G_ h]
def FC{τ:List Tm}{s:Int}{xs:List (Sd×Int)}(h:i<=xs.length):(oA x0 τ s (xs.take i)).length=i*τ.length:=by unfold oA;rw[aG,Aj,ly,G_ h]
def OY{c:Type}{ws:List c}{gs:List Int}{i:Nat}{x:c}(h:ws[i]?=Z x)(d:ws.length<=3)(e:gs.length=3):∃g,gs[i]?=Z g/\(ws.zip gs)[i]?=Z (x,g):=by have f:=(bt.mp h).1;have:gs[i]?=Z gs[i]:=cF 'c';exact⟨_,this,by rw[Rh];exact⟨h,this⟩⟩
noncomputable def jx(one a:Int)(bs:List Int):List Tm:=(one,bs.headD 0,be)::bs.map λb=>(a,b,bi)
def ZgM{n:Nat}(hn:1<=n){s one:Int}{bs gs:List Int}(B:bs.length=1\/bs.length=2)(w:gs.length=3)(m:(x0::e).length<=3):Ev (Tab n .fQ [.int s,.lst (gs.map .int),.int one,.lst ((a::bs).map .int),.lst ((x0::e).map dC)]) λd=>d=.lst ((Rn.cU ⟨one,a,jx one a bs,x0,(x0::e).zip gs⟩ s).map Pl.toD):=by
 obtain⟨k,rfl,M⟩:=bB (c:=0) hn;rw[tab];refine l8 (np:=5) (n:=13) (gb:=EB (Tab k)) ?_;unfold EB
 ac_nf;show Ev (c9 _ _ _ [_,_,_,_,_,_,_,_,_,_,_,_,_]) _;refine l6 (λR i r=>∃t u f h j,r=R.take 5++Z (.own (oA x0 (jx one a bs) s (((x0::e).zip gs).take i)))::Z (.own (oB (jx one a bs) s (((x0::e).zip gs).take i)))::((R.drop 7).take 1++[t,u,f,h,j])) ⟨_,_,_,_,_,W⟩ ?_ ?_;·rintro i d r C ⟨t,u,f,h,j,rfl⟩;obtain⟨y,z,rfl⟩:=zU _ _ _ _ C;rw[bJ,bQ]at z;obtain⟨x,A,rfl⟩:=z;obtain⟨g,v,hz⟩:=OY A m w;have E:=wB v;have H:=(bt.mp A).1;simp only[bz]at H m;have p:=gK (bt.mp hz).1;rw[OU hz,OV hz,oH];have I:=OW (τ:=jx one a bs) (s:=s) p;have q:=FC (x0:=x0) (τ:=jx one a bs) (s:=s) p;generalize oA x0 (jx one a bs) s (((x0::e).zip gs).take i)=N at*;generalize oB (jx one a bs) s (((x0::e).zip gs).take i)=cs at*;refine⟨_,W,?_⟩;match bs,B with
  |[b],_=>
   simp only[jx,bz,aG,lz]at q
   ac_nf;exact⟨_,_,_,_,_,W⟩|[b,c],_=>
   simp only[jx,bz,aG,lz]at q
   ac_nf;exact⟨_,_,_,_,_,W⟩
 ·rintro r ⟨t,u,f,h,j,rfl⟩;have J:((x0::e).zip gs).take ((x0::e).map dC).length=(x0::e).zip gs:=Bh (by rw[rE,aG];exact Zx7 ..);rw[sM,J];have L:=FC (x0:=x0) (τ:=jx one a bs) (s:=s) (xs:=(x0::e).zip gs) (a9 _);rw[m8]at L;have hz:((x0::e).zip gs).length*(jx one a bs).length<=3*3:=G7 (by rw[rE,w];exact Zx8 ..) (by simp only[jx,bz,aG];lia)
  ac_nf
structure RK(m:Int)(gs:List Int)(nw lt:Int)(r:Rn):Prop where
 w:∃ws:List Sd,r.xs=ws.zip gs/\(ws.length:Int)=nw/\(∀x∈ws,oh x)/\eF (ws.map (·.1))=be/\oh r.x0
 l:(r.τ.length:Int)=m-2+lt
 h0:om m r.one r.o0
 ht:∀t∈r.τ,om m t.1 t.2.1
 sp:∀t∈r.τ,t.1=r.one\/t.1=r.o0
 t:∀h,0<=h->h<m->r.one=h\/r.o0=h\/∃t∈r.τ,inv h t=be/\t.2.2=bi
 nd:((r.one,r.o0)::r.τ.map λt=>(t.1,t.2.1)).Nodup
def OZ{one c h:Int}{τ:List Tm}{bs:List Int}(d:∀b∈bs,(u,b,bi)∈τ)(q:one=h\/c=h\/h∈bs):one=h\/c=h\/∃t∈τ,inv h t=be/\t.2.2=bi:=q.imp_right λq=>q.imp_right λq=>⟨_,d _ q,by simp[inv],W⟩
noncomputable def d7(m one q:Int)(k:Int):Int:=(one+1+(k+q)%(m-1))%m
def Ztn{one:Int}(f:2<=m)(i:0<=one)(j:one<m)(a:0<=h)(b:h<m):one=h\/∃k,0<=k/\k<m-1/\d7 m one q k=h:=by
 by_cases e:one=h;·exact .inl e
 obtain⟨d,d0,d1,c⟩:∃d,0<=d/\d<m-1/\(one+1+d=h\/one+1+d=h+m):=by
  by_cases g:one<h;·exact⟨h-one-1,by lia,by lia,.inl 'c'⟩
  ·exact⟨h-one-1+m,by lia,by lia,.inr 'c'⟩
 refine .inr ⟨(d-q)%(m-1),rL _ 'c',rM _ 'c',?_⟩;unfold d7;rw[Int.emod_add_emod,Int.sub_add_cancel,RB d0 d1];rcases c with e|e<;>rw[e];·exact RB a b
 ·rw[Int.add_emod_right];exact RB a b
def O0{one:Int}{bs:List Int}(c:0<=one)(d:one<m)(a:0<=h)(b:h<m)(e:m=2/\bs=[]\/m=3/\bs=[d7 m one q (0+1)]\/m=4/\bs=[d7 m one q (0+1),d7 m one q (0+1+1)]):one=h\/d7 m one q 0=h\/h∈bs:=by
 refine(Ztn (q:=q) 'c' c d a b).imp_right ?_;rintro⟨k,f,k1,rfl⟩;rcases e with⟨rfl,rfl⟩|⟨rfl,rfl⟩|⟨rfl,rfl⟩;·exact .inl (by rw[show k=0 by lia])
 ·obtain rfl|rfl:k=0\/k=0+1:=by lia
  ·exact .inl W
  ·exact .inr (by exact .head _)
 ·obtain rfl|rfl|rfl:k=0\/k=0+1\/k=0+1+1:=by lia
  ·exact .inl W
  ·exact .inr (by exact .head _)
  ·exact .inr (by exact .tail _ (.head _))
def rj{one k:Int}(c:m=3\/m=4)(e:(k+q)%(m-1)≠(k'+q)%(m-1)):d7 m one q k≠d7 m one q k':=(zW c ⟨rL _ 'c',rM _ 'c'⟩ ⟨rL _ 'c',rM _ 'c'⟩ e).2.2.2.2
def Zu3{one:Int}{bs:List Int}(p:0<=one)(r:one<m)(f:m=2/\bs=[]\/m=3/\bs=[d7 m one q (0+1)]\/m=4/\bs=[d7 m one q (0+1),d7 m one q (0+1+1)])(v:((x0::e).length:Int)=j)(d:∀x∈x0::e,oh x)(hr:eF ((x0::e).map (·.1))=be):RK m gs j 0 ⟨one,d7 m one q 0,bs.map λb=>(one,b,bi),x0,(x0::e).zip gs⟩:=by
 have g:∀k,om m one (d7 m one q k):=λk=>NM 'c' p r;refine⟨⟨_,W,v,d,hr,d x0 'o'⟩,?_,g 0,λt i=>?_,λt i=>?_,λh a b=>OZ (bs:=bs) (u:=one) (λb c=>aX.mpr ⟨b,c,W⟩) ?_,?_⟩;·rcases f with⟨rfl,rfl⟩|⟨rfl,rfl⟩|⟨rfl,rfl⟩<;>rfl
 ·obtain⟨b,c,rfl⟩:=aX.mp i;rcases f with⟨rfl,rfl⟩|⟨rfl,rfl⟩|⟨rfl,rfl⟩;·cases c
  ·cases aZ.mp c;exact g _
  ·simp only[a6,uO,or_false]at c;rcases c with rfl|rfl<;>exact g _
 ·obtain⟨b,c,rfl⟩:=aX.mp i;exact .inl W
 ·exact O0 p r a b f
 ·rcases f with⟨rfl,rfl⟩|⟨rfl,rfl⟩|⟨rfl,rfl⟩;·simp
  ·simpa using rj (.inl W) 'c'
  ·have w:=rj (m:=4) (one:=one) (q:=q) (k:=0) (k':=0+1) (.inr W) 'c';have y:=rj (m:=4) (one:=one) (q:=q) (k:=0) (k':=0+1+1) (.inr W) 'c';have z:=rj (m:=4) (one:=one) (q:=q) (k:=0+1) (k':=0+1+1) (.inr W) 'c';simp_all
def ZqA{one:Int}{bs:List Int}(j:0<=one)(p:one<m)(d:m=3/\bs=[d7 m one q (0+1)]\/m=4/\bs=[d7 m one q (0+1),d7 m one q (0+1+1)])(r:((x0::f).length:Int)=i)(e:∀x∈x0::f,oh x)(hr:eF ((x0::f).map (·.1))=be):RK m gs i 1 ⟨one,d7 m one q 0,jx one (d7 m one q 0) bs,x0,(x0::f).zip gs⟩:=by
 have c:∀k,om m one (d7 m one q k):=λk=>NM 'c' j p;have v:∀b∈bs,om m one b/\om m (d7 m one q 0) b:=by
  rcases d with⟨rfl,rfl⟩|⟨rfl,rfl⟩;·simp only[a6,uO,or_false,forall_eq];exact⟨c _,zW (.inl W) 'c' 'c' 'c'⟩
  ·simp only[a6,uO,or_false,forall_eq_or_imp,forall_eq];exact⟨⟨c _,zW (.inr W) 'c' 'c' 'c'⟩,c _,zW (.inr W) 'c' 'c' 'c'⟩
 refine⟨⟨_,W,r,e,hr,e x0 'o'⟩,?_,c 0,λt ht=>?_,λt ht=>?_,λh a b=>OZ (bs:=bs) (u:=d7 m one q 0) (λb g=>b8 _ (aX.mpr ⟨b,g,W⟩)) ?_,?_⟩;·rcases d with⟨rfl,rfl⟩|⟨rfl,rfl⟩<;>rfl
 ·rcases a6.mp ht with rfl|ht;·rcases d with⟨rfl,rfl⟩|⟨rfl,rfl⟩<;>exact c _
  ·obtain⟨b,g,rfl⟩:=aX.mp ht;exact(v b g).2
 ·rcases a6.mp ht with rfl|ht;·exact .inl W
  ·obtain⟨b,g,rfl⟩:=aX.mp ht;exact .inr W
 ·exact O0 j p a b (.inr d)
 ·rcases d with⟨rfl,rfl⟩|⟨rfl,rfl⟩
  ·have w:=rj (m:=3) (one:=one) (q:=q) (k:=0) (k':=0+1) (.inl W) 'c';have y:=(c 0).2.2.2.2;simp_all[jx]
  ·have w:=rj (m:=4) (one:=one) (q:=q) (k:=0) (k':=0+1) (.inr W) 'c';have z:=rj (m:=4) (one:=one) (q:=q) (k:=0+1) (k':=0+1+1) (.inr W) 'c';have y:=(c 0).2.2.2.2;simp_all[jx]
def O3{n:Nat}(hn:9<=n){s:Int}{gs:List Int}(hg:gs.length=3)(hm:m=2\/m=3\/m=4):Ev (Tab n .fR [.int c,.int s,.int m,.lst (gs.map .int)]) λd=>∃r:Rn,d=.lst ((r.cU s).map Pl.toD)/\RK m gs (jT c) (jv c m) r:=by
 refine ax (bB (c:=8) hn) λk q7 M=>?_;subst q7;have N:=e_ (c:=c) (p:=9929) (m:=m) 'c';have O:=f9 (c:=c) (p:=9929) (m:=m) 'c';have hmx:=ej (n:=k) (fu M) (c:=c) (p:=9929) (m:=m) 'b' (by exact ZxY N O);generalize mix c 9929 m=one at N O hmx;have hmq:=ej (n:=k) (fu M) (c:=c) (p:=9901) (m:=m-1) 'b' 'm';generalize mix c 9901 (m-1)=q at hmq;have hmn:=ej (n:=k) (fu M) (c:=c) (p:=9949) (m:=3) 'b' 'b';have hw:=zV c;refine aJ (Nt (k:=k) (fu M) (c:=c) (jT c).toNat 0 am 'c') λT h1 h2 h3=>?_;have hlen:T.length=(jT c).toNat:=by simpa using congrArg uB h2
 refine bh (Nr (ws:=T) 'm' (by rw[h2];exact ZgK 'c')) λws s1 s2 s3 hr=>?_;have B:=λx hx=>h3 x (s3 x hx);have t:=NL (n:=k) (fu M) c m;rw[tab];refine l8 (np:=4) (n:=13) (gb:=EC (Tab k)) ?_;unfold EC;have u:∀{r Q q},r=nr (.int c)::r.tail->kS q Q (.aF (r.set 6 (nr (.lst (ws.map dC)))))->Ev (bE 6 (vH (aw nQ (ag [d2 [am,Z 0] (dm (ag [ab aP 'a' (aw (Tab k .fK) (ag [aa 0,cC (.int 9949),cC (.int 3)]))])) (gN 0) (λ_=>Z be) (aw (Tab k .fN) (ag [aa 1,aa 0]))]))) r) (kS q Q):=λ{r Q q} e h=>by refine f_ (bN (aE (ae (iT (ds:=(oI 0 (jT c).toNat).map λ(i:Nat)=>D.int (i:Int)) ?_ (small (by simp;lia)) (by rw[e];exact h1)) W) s1)) h;rw[<-xF,<-k6,e];exact kZ (by ac_nf) 'c' 'c'
 have w:(ws.length:Int)=jT c:=by grind
 refine gO (G3 (l:=ws) (by intro e;rw[e]at w;simp at w;lia)) λx0 j v=>?_;subst v;have C:(x0::j).length<=3:=by grind
 cases E:wA c m with|true=>
  rw[E]at t;have e1:jv c m=1:=by unfold jv;rw[E];rfl
  have hm':m=3\/m=4:=by simp[wA]at E;lia
  have f:∀bs,(m=3/\bs=[d7 m one q (0+1)]\/m=4/\bs=[d7 m one q (0+1),d7 m one q (0+1+1)])->Ev (Tab k .fQ [.int s,.lst (gs.map .int),.int one,.lst ((d7 m one q 0::bs).map .int),.lst ((x0::j).map dC)]) λd=>∃r:Rn,d=.lst ((r.cU s).map Pl.toD)/\RK m gs (jT c) (jv c m) r:=λbs A=>(ZgM (fu M) (by rcases A with⟨_,rfl⟩|⟨_,rfl⟩;exact .inl W;exact .inr W) hg C).imp λd e=>⟨_,e,by rw[e1];exact ZqA N O A w B hr⟩;obtain rfl|rfl:=hm'
  ·refine ax (f _ (.inl ⟨W,W⟩)) λd U hp=>?_
   ac_nf;refine u W ?_
   ac_nf;exact pG (aE (by ac_nf) U) hp
  ·refine ax (f _ (.inr ⟨W,W⟩)) λd U hp=>?_
   ac_nf;refine u W ?_
   ac_nf;exact pG (aE (by ac_nf) U) hp|false=>
  rw[E]at t;have e1:jv c m=0:=by unfold jv;rw[E];rfl
  have f:=λbs A=>Zu3 (m:=m) (one:=one) (q:=q) (gs:=gs) (bs:=bs) N O A w B hr;clear B hr s1 s2 s3 h1 h2 h3 N O;have NX:=rE (l₁:=x0::j) (l₂:=gs);rw[hg]at NX;obtain⟨bs,A⟩:∃bs,m=2/\bs=[]\/m=3/\bs=[d7 m one q (0+1)]\/m=4/\bs=[d7 m one q (0+1),d7 m one q (0+1+1)]:=by
   rcases hm with rfl|rfl|rfl
   ·exact⟨_,.inl ⟨W,W⟩⟩
   ·exact⟨_,.inr (.inl ⟨W,W⟩)⟩
   ·exact⟨_,.inr (.inr ⟨W,W⟩)⟩
  have f:=f bs A;obtain⟨τ,H⟩:∃τ:List Tm,τ=bs.map λb=>(one,b,bi):=⟨_,W⟩
  rw[<-H]at f;have ht:((x0::j).zip gs).take ((x0::j).map dC).length=(x0::j).zip gs:=Bh (by rw[rE,aG];exact Zx7 ..);have Y:=λi=>OW (τ:=τ) (s:=s) (xs:=(x0::j).zip gs) (i:=i);have z:=λi=>FC (x0:=x0) (τ:=τ) (s:=s) (xs:=(x0::j).zip gs) (i:=i);have ZvE:τ.length<=2:=by rw[H,aG];rcases A with⟨_,rfl⟩|⟨_,rfl⟩|⟨_,rfl⟩<;>exact gW ..
  clear hm;rcases A with⟨rfl,rfl⟩|⟨rfl,rfl⟩|⟨rfl,rfl⟩;all_goals
   ac_nf
   refine u W ?_
   ac_nf;show Ev (c9 _ _ _ [_,_,_,_,_,_,_,_,_,_,_,_,_]) _;refine l6 (λR i r=>∃o9 I J L,r=R.take 7++Z (.own (oA x0 τ s (((x0::j).zip gs).take i)))::[Z (.own (oB τ s (((x0::j).zip gs).take i))),o9,I,J,L]) ⟨_,_,_,_,W⟩ ?_ ?_
   ·rintro i d r U ⟨o9,I,J,L,rfl⟩;refine ax (zU _ _ _ _ U) λy hy v=>?_;subst v;rw[bJ,bQ]at hy;refine ax hy λx hx v=>?_;clear hy;subst v;refine ax (OY hx C hg) λg Co hz=>?_;have hga:=wB Co;have hi:=(bt.mp hx).1;have hle:=gK (bt.mp hz).1;have Y:=Y i hle;have z:=z i hle;simp only[bz]at hi C;rw[OU hz,OV hz,oH];generalize oA x0 τ s (((x0::j).zip gs).take i)=rs at*;generalize oB τ s (((x0::j).zip gs).take i)=cs at*;subst H;simp only[bz,aG,lz]at z;refine⟨_,W,?_⟩
    ac_nf;simp only[Int.add_zero,Rr];exact⟨_,_,_,_,W⟩
   ·rintro r ⟨o9,I,J,L,rfl⟩;rw[sM,ht];have E:=z _ (a9 _);rw[m8]at E;have hz:((x0::j).zip gs).length*τ.length<=3*2:=G7 (by rw[rE,hg];exact Zx8 ..) ZvE
    ac_nf;exact⟨_,W,by rw[e1];exact f⟩
def ZmK{n:Nat}(hn:8<=n){c:Int}(hm:m=2\/m=3\/m=4)(h1:0<=w/\w<N)(I:0<=f/\f<N):∃u v cs,Tab n .fS [.int c,.int w,.int m,.int f]=Z (Pl.say u v cs).toD/\(Pl.say u v cs).OK m N/\cs.length<=2/\(∀c∈cs,c.2.2=w\/c.2.2=f)/\∃c∈cs,c.2.2=f:=by
 refine ax (bB (c:=7) hn) λk L B=>?_;subst L;have M:=e_ (c:=c) (p:=9871) (m:=m) 'c';have O:=f9 (c:=c) (p:=9871) (m:=m) 'c';have b0:=e_ (c:=c) (p:=9859) (m:=m-1) 'c';have b1:=f9 (c:=c) (p:=9859) (m:=m-1) 'c';have C:=ej (n:=k) (fu B) (c:=c) (p:=9871) (m:=m) 'b' 'c';have E:=ej (n:=k) (fu B) (c:=c) (p:=9859) (m:=m-1) 'b' 'c';have z:=ej (n:=k) (fu B) (c:=c) (p:=9931) (m:=3) 'b' 'b';generalize mix c 9871 m=one at M O C;generalize mix c 9859 (m-1)=q at b0 b1 E;generalize mix c 9931 3=r at z;refine ax (E6 (n:=k) B (c+1) 0 ⟨by decide,by decide⟩) λQ s0 w0=>ax (E6 (n:=k) B (c+1) 1 ⟨by decide,by decide⟩) λT s1 w1=>?_;have U:(([(gF (c+1) 0,Q),(gF (c+1) 1,T)]:List Sd).map (·.1)).Nodup:=by simp;intro e;have:=Nd (c:=c+1) (i:=0) (j:=1) ⟨by decide,by decide⟩ ⟨by decide,by decide⟩ e;lia
 refine bh (Nr (ws:=[(gF (c+1) 0,Q),(gF (c+1) 1,T)]) 'o' U) λws e1 e2 e3 e4=>?_;have H:∀x∈ws,oh x:=λx A=>by
  have:=e3 x A;simp at this;rcases this with rfl|rfl;·exact w0
  ·exact w1
 obtain⟨x,y,rfl⟩:∃x y,ws=[x,y]:=by match ws,e2 with|[x,y],_=>exact⟨x,y,W⟩
 have A:=H x 'o';have Y:=H y 'o';have e1':nQ [.lst [dC (gF (c+1) 0,Q),dC (gF (c+1) 1,T)]]=Z (.lst [dC x,dC y]):=e1;have t:0<=(one+1+q)%m/\(one+1+q)%m<m/\one≠(one+1+q)%m:=by rcases hm with rfl|rfl|rfl<;>refine⟨by lia,by lia,by lia⟩
 have hmd:iK (.int (one+1+q)) (.int m)=Z (.int ((one+1+q)%m)):=kd 'c';have go:=λ(d:D)(q:_=Z (Out.ret d))=>dB (n:=7) (ds:=[.int c,.int w,.int m,.int f]) (g:=MO (Tab k)) (dS (eQ (aE (ae W 'e') C)) (dS (eQ (ak (ak W (aE (ae W 'e') E) W) W hmd)) (dS (eQ (aE (ae (wt (ae (aE 'e' s0) (ae (aE 'e' s1) W))) W) e1')) q))) (np:=4) W;by_cases hr:r=1
 ·subst hr;refine⟨one,(one+1+q)%m,[(x.1,x.2,f)],?_,⟨M,O,t.1,t.2.1,t.2.2,by simp,by simp,λch J=>?_,W⟩,by simp,by simp,by simp⟩;·exact go _ (rt (aN (ak (aE (ae W 'e') z) W (M0 W))) (bc (ae W (ae W (ae W (ae (bc (ae (ak W W (tZ x f)) W)) W))))))
  ·have:ch=(x.1,x.2,f):=by simpa using J
   subst this;exact⟨A.1,A.2.1,A.2.2,I.1,I.2⟩
 ·have Js:(r==1)=bi:=by simpa using hr
  have main:∀u v:Int,(0<=u/\u<N)->(0<=v/\v<N)->(Pl.say one ((one+1+q)%m) [(x.1,x.2,u),(y.1,y.2,v)]).OK m N:=λu v hu hv=>by
   refine⟨M,O,t.1,t.2.1,t.2.2,by simp,by simp,λch J=>?_,e4⟩;simp at J;rcases J with rfl|rfl
   ·exact⟨A.1,A.2.1,A.2.2,hu.1,hu.2⟩
   ·exact⟨Y.1,Y.2.1,Y.2.2,hv.1,hv.2⟩
  rcases mod2 c with h|h
  ·refine⟨_,_,_,?_,main w f h1 I,by simp,by simp,by simp⟩;exact go _ (sk (aN (ak (aE (ae W 'e') z) W (zJ hr))) (dH (bc (ae W (ae W (ae W (ae (bc (ae (ak W (bc (ae (ak W (ak W W (kd 'b')) (by rw[h];rfl)) W)) (tZ x _)) (ae (ak W (bc (ae (ak W (ak W W (kd 'b')) (by rw[h];rfl)) W)) (tZ y _)) W))) W)))))))
  ·refine⟨_,_,_,?_,main f w I h1,by simp,by simp,by simp⟩;exact go _ (sk (aN (ak (aE (ae W 'e') z) W (zJ hr))) (dH (bc (ae W (ae W (ae W (ae (bc (ae (ak W (bc (ae (ak W (ak W W (kd 'b')) (by rw[h];rfl)) W)) (tZ x _)) (ae (ak W (bc (ae (ak W (ak W W (kd 'b')) (by rw[h];rfl)) W)) (tZ y _)) W))) W)))))))
def O4:∀{τ:List Tm}{b:Int},p∈ik x0 x g b τ->∃t1 t t2,τ=t1++t::t2/\p=.say t.1 t.2.1 [((kl x0 x t).1,(kl x0 x t).2,if t2.isEmpty then g else b+(t1.length:Int)+1)]:=by intro τ;induction τ with|nil=>intro b q;cases q|cons t r e=>
  intro b q;rcases a6.mp q with rfl|q;·exact⟨[],t,r,W,by simp⟩
  ·refine eM (e q) λt1 u t2 c d=>?_;subst c;subst d;exact⟨t::t1,u,t2,W,by rw[bz,show b+1+(t1.length:Int)+1=b+((t1.length+1:Nat):Int)+1 by lia]⟩
def O5{τ:List Tm}:∀{xs:List (Sd×Int)}{b:Int},p∈hP x0 τ b xs->∃x∈xs,∃c,b<=c/\c+τ.length<=b+((xs.length*τ.length:Nat):Int)/\p∈ik x0 x.1 x.2 c τ:=by intro xs;induction xs with|nil=>intro b q;cases q|cons x r d=>
  intro b q;rw[bz,oJ];rcases bU.mp q with q|q;·exact⟨x,bZ,b,uS b,by lia,q⟩
  ·refine ax (d q) λy e z=>aJ z λc f g q=>?_;clear z;exact⟨y,b8 _ e,c,by lia,by grind,q⟩
noncomputable def wO(t:Tm):Int×Int:=(t.1,t.2.1)
theorem ZqB:∀{τ:List Tm}{b:Int},(ik x0 x g b τ).countP (sy u v)=(τ.map wO).count (u,v):=by intro τ;induction τ with|nil=>intro b;rfl|cons t r c=>intro b;show Zx9 _ (_::ik x0 x g (b+1) r)=_;rw[Zx_,c,bG,Zya];congr 1
theorem ZqC{τ:List Tm}:∀{xs:List (Sd×Int)}{b:Int},(hP x0 τ b xs).countP (sy u v)=xs.length*(τ.map wO).count (u,v):=by intro xs;induction xs with|nil=>intro b;simp[hP]|cons x r c=>intro b;show Zx9 _ (ik _ _ _ _ _++_)=_;rw[Ru,c,ZqB,bz,oJ,Bg]
theorem Zu4{l:List Pl}(h:∀p∈l,p.bK.length=1):(l.flatMap Pl.bK).length=l.length:=by induction l with|nil=>rfl|cons p l c=>rw[uQ,bH,h p (by exact .head _),c λq z=>h q (by simp[z]),bz,Bg]
theorem FD:∀{xs:List (Sd×Int)}{b:Int},(iG τ b xs).map (·.1)=xs.map (·.1.1):=by intro xs;induction xs with|nil=>intro b;rfl|cons x r c=>intro b;simp[iG,c]
section
variable {m:Int}{gs:List Int}{nw lt:Int}{r:Rn}
def An(K:RK m gs nw lt r)(i:gs.length=3)(hn:1<=nw/\nw<=3):(r.xs.length:Int)=nw/\(∀x∈r.xs,oh x.1/\x.2∈gs)/\eF (r.xs.map (·.1.1))=be:=by
 refine bh K.w λws e h c z=>aM z λhr _=>?_;clear z;have d:ws.length<=gs.length:=by lia
 have f:r.xs.map (·.1)=ws:=by rw[e];exact List.map_fst_zip d
 refine⟨by rw[<-h,<-f,aG],λx g=>⟨c _ (by rw[<-f];exact aX.mpr ⟨x,g,W⟩),?_⟩,?_⟩;·rw[e]at g;exact(rz g).2
 ·rw[<-f,gX]at hr;exact hr
def O6(K:RK m gs nw lt r)(I:gs.length=3)(hn:1<=nw/\nw<=3){s:Int}(M:0<=s)(j:s+r.n<=N)(h:∀g∈gs,0<=g/\g<N):∀p∈r.cU s,p.OK m N:=by
 refine aQ (An K I hn) λO C hr=>bh K.w λ_ _ _ _ z=>aM z λ_ q=>?_;clear z;unfold Rn.n at j;intro p hp;rcases a6.mp hp with rfl|hp
 ·have J:(iG r.τ (s+1) r.xs).length=r.xs.length:=by have:=congrArg uB (FD (τ:=r.τ) (xs:=r.xs) (b:=s+1));simpa using this
  refine⟨K.h0.1,K.h0.2.1,K.h0.2.2.1,K.h0.2.2.2.1,K.h0.2.2.2.2,by lia,by lia,λc u=>?_,by rw[FD];exact hr⟩;refine eM (Fq u) λl1 x l2 e d=>?_;subst d;obtain⟨v,f⟩:=C x (by rw[e];simp);refine ck v ?_;cases E:r.τ with|nil=>exact h _ f|cons t t2=>show 0<=s+1+((l1.length*(t::t2).length:Nat):Int)/\s+1+((l1.length*(t::t2).length:Nat):Int)<N;have:(l1.length+1)*r.τ.length<=r.xs.length*r.τ.length:=Zyb _ (by rw[e];simp);rw[E,oJ,bz]at this;rw[E,bz]at j;rw[bz];lia
 ·refine ax (O5 hp) λx A z=>aJ z λH L B hp=>?_;clear z;refine eM (O4 hp) λt1 t t2 e d=>?_;subst d;obtain⟨v,f⟩:=C x A;have i:=K.ht t (by rw[e];simp);refine⟨i.1,i.2.1,i.2.2.1,i.2.2.2.1,i.2.2.2.2,by exact a9 _,by exact gW ..,λc u=>?_,W⟩;cases aZ.mp u;refine ck (y:=(kl r.x0 x.1 t)) ?_ ?_
  ·unfold kl;split;·exact q
   ·exact v
  ·cases t2 with|nil=>exact h _ f|cons t' t2=>show 0<=H+(t1.length:Int)+1/\H+(t1.length:Int)+1<N;rw[e,bH,bz,bz]at B;rw[e,bH,bz,bz]at j;lia
def O7(K:RK m gs nw lt r)(g:gs.length=3)(hn:1<=nw/\nw<=3)(j:m<=4)(h:lt<=1){s:Int}:BK 3 12 (r.cU s):=by
 obtain⟨q,_⟩:=An K g hn;have i:=K.l;have hz:r.xs.length*r.τ.length<=3*3:=G7 'c' 'm';refine⟨λu v=>?_,?_⟩
 ·unfold Rn.cU;rw[Zx_,ZqC];have c:=List.nodup_iff_count.mp K.nd (u,v);rw[Zya]at c;have e:(if sy u v (Pl.say r.one r.o0 (iG r.τ (s+1) r.xs))=be then 1 else 0)=if((r.one,r.o0)==(u,v))=be then 1 else 0:=by exact W
  rw[e];have c:(r.τ.map wO).count (u,v)+(if((r.one,r.o0)==(u,v))=be then 1 else 0)<=1:=c;generalize(if((r.one,r.o0)==(u,v))=be then 1 else 0)=z at*;have:(r.τ.map wO).count (u,v)=0\/(r.τ.map wO).count (u,v)=1:=by grind
  rcases this with e|e<;>rw[e]at c⊢ <;>lia
 ·show((Pl.say _ _ _::hP r.x0 r.τ (s+1) r.xs).flatMap Pl.bK).length<=12;rw[uQ,bH,Zu4,Aj];·have:=congrArg uB (FD (τ:=r.τ) (xs:=r.xs) (b:=s+1));rw[aG,aG]at this;show(iG r.τ (s+1) r.xs).length+_<=_;lia
  ·intro p d;refine ax (O5 d) λx _ y=>aJ y λt _ _ d=>?_;clear y;refine eM (O4 d) λ_ _ _ _ f=>?_;subst f;rfl
def O8(K:RK m gs nw lt r)(j:gs.length=3)(hn:1<=nw/\nw<=3){st:List Int}{s:Int}{d:Option (Int×Int×List Ch×Int)}(h:∀g∈gs,g∈st\/d.isSome/\g=s+r.n)(p:∀{u v cs f},d=Z (u,v,cs,f)->f∈st/\(∀c∈cs,c.2.2=s+r.n\/c.2.2=f)/\∃c∈cs,c.2.2=f):wM m st s ⟨r,d⟩:=by exact aQ (An K j hn) λi w hr=>⟨K.sp,zP hr,λe=>by rw[show r.xs=[] from e]at i;simp at i;lia,K.t,λx q=>h _ (w x q).2,p⟩
end
theorem ZmM{e:Rt}:∀{L:List Rt}{s:Int},bL s (L++[e])=bL s L++e.cU (s+((bL s L).length:Int)):=by intro L;induction L with|nil=>intro s;simp[bL]|cons d L c=>intro s;show d.cU s++bL (s+d.n) (L++[e])=(d.cU s++bL (s+d.n) L)++e.cU (s+((d.cU s++bL (s+d.n) L).length:Int));rw[c,bH,pP,jX,show s+(d.n:Int)+((bL (s+d.n) L).length:Int)=s+((d.n+(bL (s+d.n) L).length:Nat):Int) by lia]
theorem ZmN{e:Rt}:∀{L:List Rt}{s:Int},aR s (L++[e])=aR s L++[s+((bL s L).length:Int)+e.n]:=by intro L;induction L with|nil=>intro s;simp[bL,aR]|cons d L c=>intro s;show s::aR (s+d.n) (L++[e])=s::(aR (s+d.n) L++[s+((d.cU s++bL (s+d.n) L).length:Int)+e.n]);rw[c,bH,pP,show s+(d.n:Int)+((bL (s+d.n) L).length:Int)=s+((d.n+(bL (s+d.n) L).length:Nat):Int) by lia]
def ZkI{st:List Int}:∀{L:List Rt}{s:Int},ud m st s L->wM m st (s+((bL s L).length:Int)) e->ud m st s (L++[e]):=by intro L;induction L with|nil=>intro s _ q;exact⟨by simpa [bL]using q,trivial⟩|cons d L c=>
  intro s h q;refine⟨h.1,c h.2 ?_⟩;have:s+((bL s (d::L)).length:Int)=s+d.n+((bL (s+d.n) L).length:Int):=by show s+((d.cU s++bL (s+d.n) L).length:Int)=_;rw[bH,pP];lia
  rw[<-this];exact q
structure IL(m:Int)(st:List Int)(N:Int)(i:Nat)(x:Int)(L:List Rt):Prop where
 s:aR 0 L=st.take (i+1)
 l:((bL 0 L).length:Int)=x
 e:ud m st 0 L
 o:∀p∈bL 0 L,p.OK m N
 b:BK (4*i) (14*i) (bL 0 L)
def IL.snoc{st:List Int}(h:IL m st N i x L){e:Rt}(f:st[i+1]?=Z (x+e.n))(g:wM m st x e)(j:∀p∈e.cU x,p.OK m N)(q:BK 4 14 (e.cU x)):IL m st N (i+1) (x+e.n) (L++[e])/\bL 0 (L++[e])=bL 0 L++e.cU x:=by
 have d:(0:Int)+((bL 0 L).length:Int)=x:=by rw[h.l];simp
 have c:bL 0 (L++[e])=bL 0 L++e.cU x:=by rw[ZmM,d]
 refine⟨⟨?_,?_,ZkI h.e (by rw[d];exact g),?_,?_⟩,c⟩;·rw[ZmN,d,h.s,lD (i:=i+1),f];rfl
 ·rw[c,bH,pP];have:=h.l;lia
 ·rw[c];intro p hp;rcases bU.mp hp with hp|hp;·exact h.o p hp
  ·exact j p hp
 ·rw[c];exact(h.b.app q).mono (by exact a9 _) (by exact a9 _)
theorem wQ{m:Int}{st:List Int}{r:Rn}:(Rt.cU ⟨r,am⟩ x)=r.cU x/\(Rt.n ⟨r,am⟩)=r.n:=⟨by exact eS _,by simp[Rt.n,Rt.ri]⟩
def Zu5{m:Int}{st:List Int}{r:Rn}:(Rt.cU ⟨r,Z (u,v,cs,f)⟩ x)=r.cU x++[.say u v cs]/\(Rt.n ⟨r,Z (u,v,cs,f)⟩)=r.n+1:=⟨by simp[Rt.cU,Rt.ri],by exact W⟩
def ZmO{n:Nat}(hn:8<=n){c:Int}(i:m=2\/m=3\/m=4)(j:0<=g/\g<N)(p:0<=f/\f<N):Ev (Tab n .fS [.int c,.int g,.int m,.int f]) λd=>∃u v cs,d=(Pl.say u v cs).toD/\(Pl.say u v cs).OK m N/\cs.length<=2/\(∀c∈cs,c.2.2=g\/c.2.2=f)/\∃c∈cs,c.2.2=f:=eM (ZmK hn i j p) λu v cs e h=>⟨_,e,u,v,cs,W,h⟩
def O9{gs:List Int}{lt:Int}{r:Rn}(K:RK m gs c lt r)(d:gs.length=3)(hn:1<=c/\c<=3):(r.n:Int)=1+c*(m-2+lt):=by obtain⟨e,_⟩:=An K d hn;rw[<-e,<-K.l];unfold Rn.n;simp
def Zu6{n:Nat}(hn:10<=n)(H:m=2\/m=3\/m=4){cells:List Int}(h3:cells.length<=3):Ev (Tab n .fU [.int m,.lst (cells.map .int)]) (λd=>∃L,d=aT m (bL 0 L++[.fin])/\IL m (aR 0 L) ((bL 0 L).length+1) cells.length ((bL 0 L).length:Int) L/\(bL 0 L).length<=39):=by
 refine ax (bB (c:=9) hn) λk q7 hk=>?_;subst q7;have hle:=NQ H cells 0;have hsl:=q0 m cells 0;generalize hT:(cI m 0 cells).getLastD 0=T at hle;have O:∀(i:Nat)(y:Int),(cI m 0 cells)[i]?=Z y->0<=y/\y<T+1:=λi y Q=>by have:=Fb H cells 0 i y Q;lia
 rw[tab];refine l8 (np:=2) (n:=8) (gb:=ED (Tab k)) ?_;unfold ED
 ac_nf;show Ev (c9 _ _ _ [_,_,_,_,_,_,_,_]) _;refine l6 (λR i r=>∃B st,r=R.take 2++Z (.own st)::B::R.drop 4/\st=(cI m 0 (cells.take i)).map .int) ⟨_,_,W,W⟩ ?_ ?_
 ·rintro i d r U ⟨B,st,rfl,rfl⟩;rw[bJ,bQ]at U;refine ax U λc I w=>?_;clear U;subst w;have hl:=q0 m (cells.take i) 0;have hla:=Zqe (xs:=cI m 0 (cells.take i)) 'c';have hs:=ZsP (n:=k) (fu hk) (c:=c) (m:=m) 'c' 'c';have hz:(cells.take i).length<=3:=by rw[ly];lia
  refine⟨_,W,?_⟩
  ac_nf;refine⟨_,_,W,?_⟩;rw[lD,I];show _=(cI m 0 (cells.take i++[c])).map D.int;rw[NR,cz];rfl
 rintro r ⟨B,st,rfl,rfl⟩;rw[aG,m8];have hnx:=λi c=>NO (m:=m) cells 0 i c;have Y:(cI m 0 cells)[0]?=Z 0:=by cases cells<;>rfl
 have ZvF:=NP (m:=m) cells 0;generalize cI m 0 cells=st at*
 ac_nf;show Ev (c9 _ _ _ [_,_,_,_,_,_,_,_]) _;refine l6 (λR i r=>∃B o5 o6 o7 x L,r=R.take 3++[B,Z (SD.own ((bL 0 L).map Pl.toD)),o5,o6,o7]/\IL m st (T+1) i x L/\st[i]?=Z x) ⟨_,_,_,_,0,[],W,⟨by rw[lD,Y];rfl,W,trivial,by simp[bL],by simp[bL,BK]⟩,Y⟩ ?_ ?_
 ·rintro i d r U ⟨B,o5,o6,o7,x,L,rfl,A,C⟩;refine ax (zU _ _ _ _ U) λy Q w=>?_;subst w;rw[bJ,bQ]at Q;refine ax Q λc I w=>?_;clear Q;subst w;refine ax (hnx i c I) λ_ e q=>?_;rw[C]at e
  exists e;have hi:=(bt.mp I).1;have Ad:=O _ _ C;have yh:=O _ _ q;have Zyx:=wB C;have ZvG:=wB q;rw[show((i+1:Nat):Int)=(i:Int)+1 by rfl]at ZvG;have hsz:=E_ (c:=c) H;have xW:((bL 0 L).map Pl.toD).length=(bL 0 L).length:=aG ..;have Jn:=A.l;rw[oH];have hL:(st.map D.int).length=st.length:=aG ..;have J:=λz=>ZsQ (xs:=st) (v:=mix z 9907 (st.map D.int).length) (e_ 'c') (by have:=f9 (c:=z) (p:=9907) (m:=(st.map D.int).length) 'c';lia);have a0:=(J (c+7*0)).1;have a1:=(J (c+7*(0+1))).1;have a2:=(J (c+7*(0+1+1))).1;have b0:=(J (c+7*0)).2;have b1:=(J (c+7*(0+1))).2;have b2:=(J (c+7*(0+1+1))).2;generalize st.getD (mix (c+7*0) 9907 (st.map D.int).length).toNat 0=g0 at*;generalize st.getD (mix (c+7*(0+1)) 9907 (st.map D.int).length).toNat 0=g1 at*;generalize st.getD (mix (c+7*(0+1+1)) 9907 (st.map D.int).length).toNat 0=g2 at*;refine⟨_,W,?_⟩;have hex:oo c=if decide (0<mix c 9931 3)=be then 1 else 0:=by simp[oo]
  have hsI:dq c m=1+jT c*(m-2+jv c m)+oo c:=rfl;have j:=zV c;have ia:=E9 c m;have c0:=O _ _ b0;have c1:=O _ _ b1;have c2:=O _ _ b2;cases pk:decide (0<mix c 9931 3)
  ·simp only[pk,lC,if_false]at hex
   ac_nf;refine Nz (NA (NB W (E7 (by ac_nf) ?_)));refine(O3 (gs:=[_,_,_]) hk W H).imp ?_;rintro d ⟨r,rfl,K⟩;have hrn:=O9 K W j;obtain⟨E,e2⟩:=wQ (m:=m) (st:=st) (x:=x) (r:=r);obtain⟨M,t⟩:=A.snoc (e:=⟨r,am⟩) (by rw[e2,q];congr 1;lia) (O8 K W j (λg t=>.inl (by
    simp only[a6,uO,or_false]at t;rcases t with rfl|rfl|rfl<;>exact cu ‹_›)) λh=>by injection h) (by rw[E];exact O6 K W j Ad.1 'c' (by simpa using⟨c0,c1,c2⟩)) (by rw[E];exact(O7 K W j 'c' ia.2).mono (by exact jC _) (by exact gW ..));rw[E]at t;rw[e2]at M;refine⟨_,W,?_,by rw[<-cz];exact k7 zT _,?_⟩
   ·rw[<-bH,<-cz,<-t,aG];have:=M.l;lia
   ac_nf
   exact⟨_,_,_,_,_,_,by rw[t,cz];rfl,M,by rw[q];congr 1;lia⟩
  ·simp only[pk,if_true]at hex
   ac_nf;refine Nz (NA (NB W (E7 (by ac_nf) ?_)));refine(O3 (gs:=[_,_,_]) hk W H).imp ?_;rintro d ⟨r,rfl,K⟩;have hrn:=O9 K W j;have hK:=O6 K W j (N:=T+1) Ad.1 'm' (by simpa using⟨by lia,c1,c2⟩);refine⟨_,W,?_,by rw[<-cz];exact k7 zT _,?_⟩
   ·rw[aG,aG];have:(r.cU x).length=r.n:=by rw[<-(wQ (m:=m) (st:=st) (x:=x) (r:=r)).1,pP,(wQ (m:=m) (st:=st) (x:=x) (r:=r)).2]
    lia
   have hl1:((bL 0 L).map Pl.toD++(r.cU x).map Pl.toD).length<1000:=by
    rw[bH,aG,aG];have:(r.cU x).length=r.n:=by rw[<-(wQ (m:=m) (st:=st) (x:=x) (r:=r)).1,pP,(wQ (m:=m) (st:=st) (x:=x) (r:=r)).2]
    lia
   ac_nf
   refine ZsI W (small (by exact gK hl1)) (Zt_ (E7 (by ac_nf) ((ZmO (N:=T+1) (fu hk) H 'c' c0).imp ?_)));rintro d ⟨u,v,cs,rfl,hp,hp2,hp3,hp4⟩;obtain⟨E,e2⟩:=Zu5 (m:=m) (st:=st) (x:=x) (u:=u) (v:=v) (f:=g0) (cs:=cs) (r:=r);obtain⟨M,t⟩:=A.snoc (e:=⟨r,Z (u,v,cs,g0)⟩) (by rw[e2,q];congr 1;lia) (O8 K W j (λg t=>by
    simp only[a6,uO,or_false]at t;rcases t with rfl|rfl|rfl
    ·exact .inr ⟨W,by lia⟩
    ·exact .inl (cu b1)
    ·exact .inl (cu b2)) λh=>by
     cases h;exact⟨cu b0,λc I=>(hp3 c I).imp_left λe=>by grind,hp4⟩) (by
     rw[E];intro p h;rcases bU.mp h with h|h
     ·exact hK p h
     ·cases aZ.mp h;exact hp) (by rw[E];exact((O7 K W j 'c' ia.2).app (show BK 1 2 [Pl.say u v cs] from⟨λu v=>Zx2,by simpa [Pl.bK]using hp2⟩)).mono (by exact a9 _) (by exact a9 _));rw[E]at t;rw[e2]at M;refine⟨zT _,?_⟩
   ac_nf;exact⟨_,_,_,_,_,_,by rw[t,cz,cz,<-jX];rfl,M,by rw[q];congr 1;lia⟩
 ·rintro r ⟨B,o5,o6,o7,x,L,rfl,A,C⟩;rw[sM,aG]at C A;rw[ZvF,hT]at C
  exists C;have es:aR 0 L=st:=A.s.trans (Bh (by exact uw hsl));have hl:=A.l;have xW:((bL 0 L).map Pl.toD).length=(bL 0 L).length:=aG ..
  ac_nf;refine⟨L,by simp[aT,Pl.toD],?_,by lia⟩;rw[es,hl];exact A
noncomputable def gD(G:List Int):D:=.tup (G.map .int)
def c_(ps:List Pl)(T:List Int):List Ch:=T.flatMap λx=>(aC ps x).bK
def jy(ps:List Pl)(T:List Int)(w:Str):List Ch:=(c_ ps T).filter λc=>c.1==w
def dU(ps:List Pl)(h:Int)(T:List Int)(w:Str):List Int:=gH ps h ((jy ps T w).map (·.2.2))
def dc(ps:List Pl)(T:List Int):List Str:=gR (lY ((c_ ps T).map (·.1)))
def b_(ps:List Pl)(h:Int)(T:List Int)(s:List 'u'×List D)(w:Str):List 'u'×List D:=let K:=if dU ps h T w∈s.1 then s.1 else s.1++[dU ps h T w]
 (K,s.2++[.tup [.str w,(((jy ps T w).head?).map vW).getD .aD,.int (K.idxOf (dU ps h T w):Nat)]])
def wR(ps:List Pl)(h t:Int)(cs:List D):D:=match pL h (aC ps t)with|.tup xs=>.tup (xs++[.tup cs])|d=>d
def kM(u:MU)(Q:D×List (Λ×ET)->Prop):aK->Prop|.aF r=>Ev (u r) Q|_=>False
def Ao(h:Ev (u r) Q):kM u Q (.aF r):=h
def Ap(h:Ev (g r) (kM u Q)):Ev (qG g u r) Q:=by obtain⟨o,e,k⟩:=h;cases o with|aF r'=>obtain⟨x,c,q⟩:=k;exact⟨x,by simp[qG,e,c],q⟩|_=>exact k.elim
def Zu7{r:aj}{ds es:List D}(c:iC i r=Z ds)(d:f r=Z es)(e:ds.length+es.length<=aA)(k:Q (.aF (r.set i (Z (.own (ds++es)))))):Ev (yJ i f r) Q:=⟨_,by simp[yJ,c,d,e],k⟩
theorem Di:∀Ks:List 'u',Dz (Ks.map gD)=Z Ks|[]=>rfl|G::Ks=>by show(lT (G.map D.int)).bind (λa=>(Dz (Ks.map gD)).map (a:: ·))=_;rw[N0,Di Ks];rfl
section
variable {ps:List Pl}{h:Int}{T:List Int}
def Ztq(s:List 'u'×List D)(w:Str):s.1.length<=(b_ ps h T s w).1.length:=by
 show _<=(if _ then _ else _:List 'u').length;split;·exact a9 _
 ·rw[bH];lia
theorem O_:∀(ws:List Str)(s:List 'u'×List D),s.1.length<=(ws.foldl (b_ ps h T) s).1.length|[],_=>a9 _|w::ws,s=>c3 (Ztq s w) (O_ ws _)
theorem Pa:∀(ws:List Str)(s:List 'u'×List D),(ws.foldl (b_ ps h T) s).2.length=s.2.length+ws.length|[],_=>rfl|w::ws,s=>by rw[xD,Pa ws];show(s.2++[_]).length+_=_;rw[bH,bz,lz,bz];lia
theorem Pb:∀(xs ys:List D),cf (xs++ys)=(cf xs&&cf ys)|[],_=>rfl|x::xs,ys=>by show(b9 x&&cf (xs++ys))=_;rw[Pb xs ys,<-ZxZ];rfl
theorem FE:∀(ws:List Str)(s:List 'u'×List D),cf s.2=be->cf (ws.foldl (b_ ps h T) s).2=be|[],_,q=>q|w::ws,s,q=>by rw[xD];refine FE ws _ ?_;show cf (s.2++[_])=be;rw[Pb,q,rG];cases(jy ps T w).head? with|none=>rfl|some c=>simp[cf,b9,vW,t9]
def Aq:w∈dc ps T↔∃x∈T,∃c∈(aC ps x).bK,c.1=w:=by unfold dc;rw[(kN _).mem_iff,y2,aX];unfold c_;simp only[ng];exact⟨by rintro⟨c,⟨x,d,f⟩,e⟩;exact⟨x,d,c,f,e⟩,λz=>ax z λx d y=>ax y λc f e=>⟨c,⟨x,d,f⟩,e⟩⟩
def ZqE(d:(c_ ps T).length<64)(hz:((dc ps T).foldl (b_ ps h T) (Ks,[])).1.length<=aA)(hw:(dc ps T)[j]?=Z w):((dc ps T).take (j+1)).foldl (b_ ps h T) (Ks,[])=b_ ps h T 'y' w/\(((dc ps T).take (j+1)).foldl (b_ ps h T) (Ks,[])).1.length<=aA/\'y'.2.length<aA/\cf (((dc ps T).take (j+1)).foldl (b_ ps h T) (Ks,[])).2=be:=by
 have c:((dc ps T).take (j+1)).foldl (b_ ps h T) (Ks,[])=b_ ps h T 'y' w:=by rw[lD,hw,Ry,RC];rfl
 have l1:(((dc ps T).take (j+1)).foldl (b_ ps h T) (Ks,[])).1.length<=aA:=by refine c3 (O_ (ps:=ps) (h:=h) (T:=T) ((dc ps T).drop (j+1)) _) ?_;rw[<-RC,Rw];exact hz
 have l2:'y'.2.length<aA:=by
  rw[Pa];have:=Dt ((c_ ps T).map (·.1));have:=(kN (lY ((c_ ps T).map (·.1)))).length_eq;have:(dc ps T).length=(gR (lY ((c_ ps T).map (·.1)))).length:=rfl;have:64<=aA:=by decide
  simp at*;lia
 exact⟨c,l1,l2,FE _ _ W⟩
def Pc(hw:w∈dc ps T):∃c l,jy ps T w=c::l:=by refine ax (Aq.mp hw) λx d z=>ax z λc f e=>?_;clear z;have:c∈jy ps T w:=eR.mpr ⟨ng.mpr ⟨x,d,f⟩,beq_iff_eq.mpr e⟩;cases q:jy ps T w with|nil=>rw[q]at this;cases this|cons c l=>exact⟨c,l,W⟩
def Pd(e:G2 m ps):∀s:Int,s∈(jy ps T w).map (λc:Ch=>c.2.2)->0<=s/\s<ps.length:=λs hs=>by obtain⟨c,d,rfl⟩:=aX.mp hs;obtain⟨x,_,d⟩:=ng.mp (eR.mp d).1;exact((ua (t_ e) x).2 c d).2.2.2
def Ztt(c:(c_ ps T).length<64):(jy ps T w).length<64:=ml (Zyc _ _) c
end
section
variable {ps:List Pl}{h:Int}{T:List Int}
def Zu8(s:List 'u'×List D)(w:Str)(q:G∈s.1):G∈(b_ ps h T s w).1:=by
 show G∈(if _ then _ else _:List 'u');split;·exact q
 ·exact gf _ q
theorem Ar:∀(ws:List Str)(s:List 'u'×List D){G:List Int},G∈s.1->G∈(ws.foldl (b_ ps h T) s).1|[],_,_,q=>q|w::ws,s,_,q=>Ar ws _ (Zu8 s w q)
theorem Pe:∀(ws:List Str)(s:List 'u'×List D){w:Str},w∈ws->dU ps h T w∈(ws.foldl (b_ ps h T) s).1
 |w::ws,s,x,q=>by
  rcases a6.mp q with rfl|q
  ·refine Ar ws _ ?_;show _∈(if _ then _ else _:List 'u');split;·assumption
   ·simp
  ·exact Pe ws _ q
theorem Pg:∀(ws:List Str)(s:List 'u'×List D){G:List Int},G∈(ws.foldl (b_ ps h T) s).1->G∈s.1\/∃w∈ws,G=dU ps h T w
 |[],_,_,q=>.inl q|w::ws,s,G,q=>by
  rcases Pg ws _ q with q|⟨x,c,e⟩
  ·have q:G∈(if dU ps h T w∈s.1 then s.1 else s.1++[dU ps h T w]):=q;split at q;·exact .inl q
   ·rcases bU.mp q with q|q;·exact .inl q
    ·exact .inr ⟨w,bZ,aZ.mp q⟩
  ·exact .inr ⟨x,b8 _ c,e⟩
theorem uf:∀(ws:List Str)(s:List 'u'×List D){j:Nat}{G:List Int},s.1[j]?=Z G->(ws.foldl (b_ ps h T) s).1[j]?=Z G
 |[],_,_,_,q=>q|w::ws,s,j,G,q=>by
  refine uf ws _ ?_;show(if dU ps h T w∈s.1 then s.1 else s.1++[dU ps h T w])[j]?=_;split;·exact q
  ·rw[gL (bt.mp q).1];exact q
theorem Ph:∀(ws:List Str)(s:List 'u'×List D),s.1.Nodup->(ws.foldl (b_ ps h T) s).1.Nodup
 |[],_,q=>q|w::ws,s,q=>by
  refine Ph ws _ ?_;show(if dU ps h T w∈s.1 then s.1 else s.1++[dU ps h T w]).Nodup;split;·exact q
  ·rename_i z;exact mr.mpr ⟨q,by simp,λa c b d e=>z (by rw[<-aZ.mp d,<-e];exact c)⟩
end
noncomputable def rg(ps:List Pl):List Int:=(gd ps.length).map λ(i:Nat)=>(i:Int)
def sys(ps:List Pl)(a b:Int)(x:Int):Bool:=match aC ps x with|.say c d _=>c==a&&d==b|.fin=>bi
structure GB(ps:List Pl):Prop where
 w:(c_ ps (rg ps)).length<64
 p:∀a b,((rg ps).filter (sys ps a b)).length<=13
noncomputable def As(m h:Int):List (Int×Int):=[(h,0),(h,1),(h,2),(h,3),(0,h),(1,h),(2,h),(3,h)]
def wU(ps:List Pl)(m h:Int):List 'u':=gH ps h [0]::(As m h).flatMap λp=>(subs ((rg ps).filter (sys ps p.1 p.2))).flatMap λT=>((c_ ps (rg ps)).map (·.1)).map λw=>dU ps h T w
theorem FG{d e:Type}{f:d->List e}{c:Nat}:∀(l:List d),(∀x∈l,(f x).length<=c)->(l.flatMap f).length<=l.length*c|[],_=>by exact dZ _|x::l,h=>by rw[uQ,bH,bz,oJ];have:=FG l λy g=>h y (b8 _ g);have:=h x bZ;lia
def ZqF(d:GB ps)(m h:Int):(wU ps m h).length<16777216:=by
 unfold wU;rw[bz];have:=FG (c:=8192*63) (f:=λp:Int×Int=>(subs ((rg ps).filter (sys ps p.1 p.2))).flatMap λT=>((c_ ps (rg ps)).map (·.1)).map λw=>dU ps h T w) (As m h) λp _=>by
  refine c3 (FG (c:=63) _ λT _=>?_) (Zyb 63 ?_);·rw[aG,aG];have:=d.w;lia
  ·rw[OC];exact Nat.pow_le_pow_right (by exact mq _) (d.p p.1 p.2)
 have e:(As m h).length=8:=rfl;rw[e]at this;lia
def ZqG(d:GB ps){T:List Int}(c:T.Sublist (rg ps)):(c_ ps T).length<64:=by refine ml ?_ d.w;unfold c_;generalize rg ps=R at c;induction c with|slnil=>exact a9 _|cons a _ e=>rw[uQ,bH];lia|cons_cons a _ e=>rw[uQ,uQ,bH,bH];lia
def ZkL(t:(a==h||b==h)=be)(t':(d==h||b'==h)=be)(e:cy h a b=cy h d b'):a=d/\b=b':=by
 unfold cy at e;rw[Zyd,beq_iff_eq,beq_iff_eq]at t t';by_cases q:(a==h)=be
 ·rw[if_pos q]at e;by_cases c:(d==h)=be;·rw[if_pos c]at e;simp at e q c;exact⟨q.trans c.symm,e⟩
  ·rw[if_neg c]at e;simp at e;exact absurd e.1 'b'
 ·rw[if_neg q]at e;by_cases c:(d==h)=be;·rw[if_pos c]at e;simp at e;exact absurd e.1 'b'
  ·rw[if_neg c]at e;simp at e q c;exact⟨e,(t.resolve_left q).trans (t'.resolve_left c).symm⟩
def Ztw(j:G2 m ps){T:List Int}(hs:T.Sublist (rg ps))(p:∀s∈T,aB ps h s=be)(A:∀x∈T,∀y∈T,¬oz h (aC ps x) (aC ps y))(hw:w∈dc ps T):dU ps h T w∈wU ps m h:=by refine ax (Aq.mp hw) λx g u=>ax u λc B C=>?_;clear u;have d:=p x g;have i:=og j x;unfold aB at d;cases e:aC ps x with|fin=>rw[e]at d;injection d|say a b cs=>
 rw[e]at d i;have all:∀y∈T,sys ps a b y=be:=λy q=>by have f:=p y q;have:=A x g y q;unfold aB at f;unfold sys;cases r:aC ps y with|fin=>rw[r]at f;injection f|say t v cs'=>rw[r]at f this;rw[e]at this;have E:cy h a b=cy h t v:=xH λz=>this (.inl z);obtain⟨H,I⟩:=ZkL d f E;show(t==a&&v==b)=be;rw[H,I];simp
 have sub:T.Sublist ((rg ps).filter (sys ps a b)):=by have:=hs.filter (sys ps a b);rwa [List.filter_eq_self.mpr all]at this
 unfold wU;refine b8 _ (ng.mpr ⟨(a,b),?_,ng.mpr ⟨T,Zqs sub,aX.mpr ⟨w,aX.mpr ⟨c,ng.mpr ⟨x,hs.subset g,B⟩,C⟩,W⟩⟩⟩);refine jG i λJ L M N _=>?_;clear i;have O:=j.2.1;simp only[Zyd,beq_iff_eq]at d;unfold As;simp only[a6,Bj,uO,or_false];lia
def FH(ps:List Pl)(h:Int)(S:List Int):(gH ps h S).Sublist (rg ps):=RD
def ug(q:aB ps h x=be):(aC ps x).ki=be:=by unfold aB at q;cases e:aC ps x with|fin=>rw[e]at q;injection q|say a b cs=>rfl
def rk{ps:List Pl}(h:gG m ps)(i:Int):(aC ps i).OK m ps.length:=by cases e:ps[i.toNat]? with|none=>rw[show aC ps i=.fin by simp[aC,e]];trivial|some p=>rw[show aC ps i=p by simp[aC,e]];exact h.2.2.2.2 p (cu e)
section
variable {e:Nat}{m:Int}{ps:List Pl}{h:Int}
structure PI(ps:List Pl)(m h:Int)(e:Nat)(Ks:List 'u')(i:Nat):Prop where
 g:Gk (bf ps) 'k' (iW e ps h) Ks i
 n:Ks.Nodup
 c:∀G∈Ks,G∈wU ps m h
 a:∀G∈Ks,∃S,G=gH ps h S
 l:i<=Ks.length
def ZvH(g:G2 m ps):PI ps m h e [gH ps h [0]] 0:=by
 have i:(0:Int)<=0/\(0:Int)<ps.length:=⟨by exact uS _,by have:=g.2.2.1;grind⟩;refine⟨⟨⟨_,W,λz v=>iY.mpr ⟨Fm g i v,0,bZ,v⟩⟩,λG c p d q t=>?_,λG c p d w y x=>?_,λj B=>by grind,λj B=>by omega⟩,by simp,λG c=>?_,λG c=>⟨_,aZ.mp c⟩,dZ _⟩;·rw[aZ.mp c]at d t;refine aM (iY.mp d) λ_ u=>ax u λs hs f=>?_;clear u;refine aM (iY.mp t) λ_ u=>ax u λs' r A=>?_;clear u;rw[aZ.mp hs]at f;rw[aZ.mp r]at A;exact OB .z f A
 ·rw[aZ.mp c]at d⊢;refine aM (iY.mp d) λC u=>ax u λs hs f=>?_;clear u;exact iY.mpr ⟨Fm g C (.s .z w x),s,hs,.s f w x⟩
 ·rw[aZ.mp c];exact bZ
def Au(d:GB ps){Ks:List 'u'}(p:PI ps m h e Ks i):Ks.length<16777216:=ml (Fl p.n p.c) (ZqF d m h)
def ZvI(Q:G2 m ps)(p:PI ps m h e Ks i){G:List Int}(I:Ks[i]?=Z G){s:List D}(hU:∀x∈G.filter 'k',∀y∈G.filter 'k',¬oz h (aC ps x) (aC ps y))(U:∀p∈G,∀q∈G,aB ps h q=be->Ah (bf ps) 'k' p/\(aB ps h p=be->iW e ps h p q=be))(B:r=((dc ps (G.filter 'k')).foldl (b_ ps h (G.filter 'k')) (Ks,[])).1):PI ps m h e r (i+1):=by
 have Y:=cu I;obtain⟨S,hS⟩:=p.a G Y;have J:(G.filter 'k').Sublist (rg ps):=RD.trans (hS▸FH ps h S);have new:∀w,∀z∈dU ps h (G.filter 'k') w,(0<=z/\z<ps.length)/\∃x∈G,aB ps h x=be/\∃y,(w,y)∈bf ps x/\Ep (bf ps) 'k' y z:=λw z hz=>by refine aM (iY.mp hz) λC u=>ax u λs hs L=>?_;clear u;obtain⟨c,f,rfl⟩:=aX.mp hs;obtain⟨f,ew⟩:=eR.mp f;obtain⟨x,v,f⟩:=ng.mp f;obtain⟨v,E⟩:=eR.mp v;exact⟨C,x,v,E,_,aX.mpr ⟨c,f,by rw[beq_iff_eq.mp ew]⟩,L⟩
 have of:∀d∈r,d∈Ks\/∃w∈dc ps (G.filter 'k'),d=dU ps h (G.filter 'k') w:=λd h'=>Pg _ _ (B▸h');have M:∀j d,j<i+1->r[j]?=Z d->Ks[j]?=Z d:=λj d O q=>by
  have hl:j<Ks.length:=by have:=(bt.mp I).1;lia
  have:=uf (ps:=ps) (h:=h) (T:=G.filter 'k') (dc ps (G.filter 'k')) (Ks,[]) (j:=j) (G:=Ks[j]) (cF hl);rw[<-B,q]at this;rw[ao this];exact cF hl
 refine⟨⟨?_,λd h' a N b hb=>?_,λd h' a N ta y A=>?_,λj O d h' w=>?_,λj O d h'=>?_⟩,B▸Ph _ _ p.n,λd h'=>?_,λd h'=>?_,?_⟩;·obtain⟨G0,C,h2⟩:=p.g.hd;exact⟨G0,B▸uf _ _ C,h2⟩
 ·rcases of d h' with q|⟨w,_,rfl⟩;·exact p.g.sd d q a N b hb
  ·refine aM (new w a N) λ_ u=>aJ u λx v E t=>ax t λy A L=>?_;clear u t;refine aM (new w b hb) λ_ u=>aJ u λx' pk tx' t=>ax t λy' hy' e2=>?_;clear u t;exact Zqr (p.g.sd G Y) v pk E tx' A hy' L e2
 ·rcases of d h' with q|⟨w,_,rfl⟩;·exact p.g.cl d q a N ta y A
  ·refine aM (iY.mp N) λC u=>ax u λs hs L=>?_;clear u;exact iY.mpr ⟨Fm Q C (.s .z ta A),s,hs,.s L ta A⟩
 ·have h':=M j d O h';by_cases H:j<i
  ·obtain⟨G2,C,h2⟩:=p.g.on j H d h' w;exact⟨G2,B▸Ar _ _ C,h2⟩
  ·have:j=i:=by lia
   subst this;rw[I]at h'
   exists h';by_cases hw:w∈dc ps (G.filter 'k')
   ·refine⟨_,B▸Pe _ _ hw,λx v E y A=>?_⟩;obtain⟨c,f,ec⟩:=aX.mp A;cases ec;have hr:0<=c.2.2/\c.2.2<ps.length:=by have:=(ua (t_ Q) x).2 c f;exact⟨this.2.2.2.1,this.2.2.2.2⟩
    exact iY.mpr ⟨hr,_,aX.mpr ⟨c,eR.mpr ⟨ng.mpr ⟨x,eR.mpr ⟨v,E⟩,f⟩,beq_iff_eq.mpr W⟩,W⟩,.z⟩
   ·refine⟨G,B▸Ar _ _ Y,λx v E y A=>?_⟩;obtain⟨c,f,ec⟩:=aX.mp A;cases ec;exact(hw (Aq.mpr ⟨x,eR.mpr ⟨v,E⟩,c,f,W⟩)).elim
 ·have h':=M j d O h';by_cases H:j<i
  ·exact p.g.ev j H d h'
  ·have:j=i:=by grind
   subst this;rw[I]at h'
   exists h';exact U
 ·rcases of d h' with q|⟨w,hw,rfl⟩
  ·exact p.c d q
  ·exact Ztw Q J (λs hs=>(eR.mp hs).2) hU hw
 ·rcases of d h' with q|⟨w,hw,rfl⟩
  ·exact p.a d q
  ·exact⟨_,W⟩
 ·have:=(bt.mp (B▸uf (ps:=ps) (h:=h) (T:=G.filter 'k') (dc ps (G.filter 'k')) (Ks,[]) I:r[i]?=Z G)).1;assumption
end
def Pj(m:Int)(ps:List Pl):Prop:=∀h,0<=h->h<m->∀e:Nat,2<=e->∀x y,Sy (bf ps) 'k' 0 x y->¬iX e ps h x y
def ZqH{n:Nat}(hn:10<=n)(g:m=2\/m=3\/m=4){cells:List Int}(i:cells.length<=3):∃ps:List Pl,Tab n .fU [.int m,.lst (cells.map .int)]=Z 'q'/\gG m ps/\BK 12 42 ps/\Pj m ps:=by
 refine ax (Zu6 hn g i) λ_ e z=>aJ z λL c d j=>?_;clear z;subst c;have hz:((bL 0 L++[Pl.fin]).length:Int)=((bL 0 L).length:Int)+1:=by simp
 have f:gG m (bL 0 L++[.fin]):=⟨by lia,by lia,by simp,by simp;exact fo j,λp q=>by
  rw[hz];rcases bU.mp q with h|h;·exact d.o p h
  ·cases aZ.mp h;trivial⟩;exact⟨_,e,f,(d.b.app (show BK 0 0 [Pl.fin] from⟨λu v=>by exact dZ _,by exact dZ _⟩)).mono 'c' 'c',λh r t e w x y s=>(Zu2 d.e (rk f)).ZvC w r t s⟩
theorem ZqI(F:List Int):(F.map kI).map kD=F.map D.int:=by rw[gX];rfl
def ZqJ{ks:List Key}(h:ks.length<64)(e:lT (ks.map kD)=Z ns):nZ [.aW ks vs]=Z (.lst ((nX ns).map .int)):=by simp only[nZ,k1,if_pos h,e]
def ZqK{ks:List Key}(h:ks.length<64)(e:lT (ks.map kD)=am)(c:strsOf (ks.map kD)=Z ns):nZ [.aW ks vs]=Z (.lst ((gR ns).map .str)):=by simp only[nZ,k1,if_pos h,e,c]
def Pk{n:Nat}(hn:2<=n){ps:List Pl}(N:G2 m ps)(O:ps.length<64){S:List Int}(Q:∀s∈S,0<=s/\s<ps.length)(T:S.length<=900):Tab n .ft [.tup (ps.map Pl.toD),.int h,.lst (S.map .int)]=Z (gD (gH ps h S)):=by
 obtain⟨k,rfl,J⟩:=bB (c:=1) hn;refine Ev.eq ?_;rw[tab];refine l8 (np:=3) (n:=6) (gb:=Es (Tab k)) ?_;unfold Es;refine bx (zY (bo (bx (mX (ds:=S.map .int) W (bo (bx ?_))))));show Ev (ig _ _ _ [_,_,_,_,_,_]) _;refine tY (λn r=>∃(F L:List Int)(p:Option SD),r=[nr 'g',nr (.int h),nr (.lst (S.map .int)),Z (.ow (Z (F.map kI)) (F.map λ_=>.bl be)),Z (.own (L.map .int)),p]/\AI ps h S F L/\L.length+6*(ps.length-F.length)+1<=n/\L.length<=900+5*F.length) ?_ ?_ 99999 _ ⟨[],S,am,W,Zvx Q,by simp;lia,by simpa using T⟩;·rintro r ⟨F,L,p,rfl,_,A,_⟩;lia
 rintro n r ⟨F,L,p,rfl,a,A,B⟩;have C:=a.len;rcases Zx3 L with rfl|⟨E,y,rfl⟩
 ·have H:nZ [.aW (F.map kI) (F.map λ_=>.bl be)]=Z (.lst ((gH ps h S).map .int)):=by rw[<-a.end];exact ZqJ (by rw[aG];exact ml C O) (by rw[ZqI];exact N0 F)
  exact .inl ⟨(by rfl),bo (NJ (NF (aE (ae (aE 'x' H) W) W) (NU _)) (mY W))⟩
 rw[Zx4]at a A B⊢;refine .inr ⟨aN (ak (aE 'x' W) W (by show Z (D.bl (decide _))=_;rw[decide_eq_true (by simp<;>omega)])),?_⟩;obtain⟨⟨U,Y⟩,_⟩:=iY.mp (a.l y 'o');rw[bH]at A B;simp only[xy]at A B;have t:=kf (m:=m) U Y;have I:mN (.int y) (.aW (F.map kI) (F.map λ_=>.bl be))=Z (.bl (!decide (y∈F))):=by show Z (D.bl (!(atK (F.map kI) (F.map λ_=>.bl be) (.inl y)).isSome))=_;rw[show(atK (F.map kI) (F.map λ_=>D.bl be) (.inl y)).isSome=decide (y∈F) from rC.mpr (((zZ 'o').trans (by simp[kI])).trans decide_eq_true_iff.symm)]
 refine bx (NI (xs:=E.map .int) (x:=.int y) (by show Z _=_;rw[cz];rfl) (bo (NH (NG (aN (ak W W I))) ?_)));by_cases u:y∈F;·exact hE (by simpa using u) (gU (iF ⟨F,E,nr (.int y),W,a.old u,by lia,by lia⟩))
 obtain⟨M,g⟩:=a.new N u;have v:=M.len;rw[bH]at v;obtain⟨p1,p2⟩:=z4 (d:=.bl be) (j:=.inl y) (ks:=F.map kI) (ds:=F.map λ_=>.bl be) (λz=>ax (aX.mp z) λ_ h e=>u (Zx5 e▸h)) 'o';have f:∃(w L2:List Int)(p:Option SD),[Z (SD.bY 'g'),nr (.int h),nr (.lst (S.map .int)),Z (.ow (Z (gS (F.map kI) (.inl y))) (DL.hq (F.map kI) (F.map λ_=>.bl be) (.inl y) (.bl be))),Z (.own (E.map .int++(oy ps h y).map .int)),nr (.int y)]=[Z (SD.bY 'g'),nr (.int h),nr (.lst (S.map .int)),Z (.ow (Z (w.map kI)) (w.map λ_=>.bl be)),Z (.own (L2.map .int)),p]/\AI ps h S w L2/\L2.length+6*(ps.length-w.length)+1<=n/\L2.length<=900+5*w.length:=⟨F++[y],_,_,by rw[p1,p2];simp only[cz];rfl,M,by simp at v⊢;lia,by simp;lia⟩;refine js (by simpa using u) (bx (zS W W W W (by rw[aG];lia) (bo (eG (n8 (aN (aE (ae (ak W W (aY t)) 'x') (q9 J _ h)))) ?_))));cases q:aB ps h y with|true=>rw[show oy ps h y=[] from if_pos q,uF,eS]at f;exact hE (by rw[<-wG,q];rfl) (gU (iF f))|false=>
  have ex:oy ps h y=kh ps y:=if_neg (by rw[q];exact dg);rw[ex]at f g;unfold kh at g f;rw[aG]at g;have i:cn (gN 0) (λ_=>Z be) (ab ar (aa 0) 'l') [am] ((aC ps y).bK.map cg)=Z (((aC ps y).bK.map λc=>c.2.2).map .int):=by rw[wL (tl:=[]) (h:=λc:Ch=>D.int c.2.2) _ _ λc _=>ak W W (aY at2),gX]<;>rfl
  exact js (by rw[<-wG,q];rfl) (Zu7 W (es:=((aC ps y).bK.map λc:Ch=>c.2.2).map D.int) (wu (qX (kg (aE (ae (ak W W (aY t)) W) (Np J _)) W) (small (by rw[aG];exact fo g)) i)) (gK (big (by simp;lia))) (iF f))
def il(cs:List Ch)(w:Str):D:=.tup [((cs.filter λc=>c.1==w).head?.map vW).getD .aD,.lst ((cs.filter λc=>c.1==w).map λc=>.int c.2.2)]
def hR(cs:List Ch):List Str:=lY (cs.map (·.1))
def ldK(cs:List Ch):List Key:=(hR cs).map .inr
def jz(cs:List Ch):List D:=(hR cs).map (il cs)
theorem Pm(cs:List Ch)(c:Ch):hR (cs++[c])=lX (hR cs) c.1:=by unfold hR lY;rw[cz,RC];rfl
def Pn{c:Ch}(h:c.1≠w):il (cs++[c]) w=il cs w:=by unfold il;rw[Zye,show [c].filter (λc=>c.1==w)=[] by simp[h],eS]
theorem Po{w:Str}{f:Str->D}:∀{l:List Str},w∈l->ij (l.map (lg:Str->Key)) (.inr w)<l.length/\(l.map f)[ij (l.map (lg:Str->Key)) (.inr w)]?=Z (f w)/\(l.Nodup->∀g:Str->D,(∀x∈l,x≠w->g x=f x)->(l.map f).set (ij (l.map (lg:Str->Key)) (.inr w)) (g w)=l.map g)
 |x::l,h=>by
  rw[bG];unfold ij;by_cases e:x=w;·subst e;rw[if_pos W];refine⟨mq _,W,λhn g c=>?_⟩;show g x::l.map f=g x::l.map g;exact congrArg (g x:: ·) (uM λy d=>(c y (.tail _ d) λz=>(d8.mp hn).1 (z▸d)).symm)
  ·rw[if_neg λz=>e (xG z)];exact aQ (Po (f:=f) ((a6.mp h).resolve_left λz=>e z.symm)) λi j m=>⟨ZxI i,j,λhn g c=>by show f x::_=g x::l.map g;rw[<-c x (.head _) e,m (d8.mp hn).2 g λy d=>c y (.tail _ d)]⟩
theorem Pp{w:Str}:∀{l:List Str},w∉l->ij (l.map (lg:Str->Key)) (.inr w)=l.length|[],_=>rfl|x::l,h=>by rw[bG];unfold ij;rw[if_neg λz=>h (by rw[xG z];exact .head _),Pp λz=>h (.tail _ z)];rfl
def ZqL(xs:List Str):(lY xs).Nodup:=by
 have:∀(xs l:List Str),l.Nodup->(xs.foldl lX l).Nodup:=λxs=>by induction xs with|nil=>exactλl h=>h|cons x xs c=>
   intro l h;refine c _ ?_;unfold lX;split;·exact h
   ·rename_i z;exact mr.mpr ⟨h,by simp,λu d v f e=>z (by rw[<-aZ.mp f,<-e];exact d)⟩
 exact this xs [] .nil
def Ztx{cs:List Ch}{c:Ch}(B:cs.length<64):wb (ldK cs) (jz cs) (.inr c.1) (vW c) (.int c.2.2)=Z (ldK (cs++[c]),jz (cs++[c])):=by
 have hz:(hR cs).length<=cs.length:=by have:=Dt (cs.map (·.1));rw[aG]at this;exact this
 have hs:(ldK cs).length<aA:=by unfold ldK;rw[aG];exact small 'c'
 unfold wb;rw[if_pos hs];have fl:(cs++[c]).filter (λx=>x.1==c.1)=cs.filter (λx=>x.1==c.1)++[c]:=by rw[Zye];simp
 by_cases d:c.1∈hR cs
 ·refine aQ (Po (f:=il cs) d) λm p r=>ax (aX.mp ((y2 _ _).mp d)) λx h t=>?_;have g:x∈cs.filter λx=>x.1==c.1:=eR.mpr ⟨h,beq_iff_eq.mpr t⟩;have i:hR (cs++[c])=hR cs:=by rw[Pm];exact if_pos d
  unfold ldK jz;rw[i,if_pos (by rw[aG];exact m),p];have C:=Zyc (λx:Ch=>x.1==c.1) cs;show(if((cs.filter λx=>x.1==c.1).map λc:Ch=>D.int c.2.2).length<aA then _ else am)=_;rw[if_pos (by rw[aG];exact small 'c')];have u:=r (ZqL _) (il (cs++[c])) λy _ j=>Pn (bW j);refine congrArg (λz=>Z ((hR cs).map (lg:Str->Key),z)) (Eq.trans ?_ u);congr 1;unfold il;rw[fl,cz];cases q:cs.filter λx=>x.1==c.1 with|nil=>rw[q]at g;cases g|cons y l=>rfl
 ·have i:hR (cs++[c])=hR cs++[c.1]:=by rw[Pm];exact if_neg d
  unfold ldK jz;have v:cs.filter (λx=>x.1==c.1)=[]:=List.filter_eq_nil_iff.mpr λx h e=>d ((y2 _ _).mpr (aX.mpr ⟨x,h,beq_iff_eq.mp e⟩));rw[i,if_neg (by rw[Pp d,aG];exact oD _),cz,cz];have w:(hR cs).map (il (cs++[c]))=(hR cs).map (il cs):=uM λy j=>Pn λz=>d (z▸j);rw[w];have A:il (cs++[c]) c.1=.tup [vW c,.lst [.int c.2.2]]:=by unfold il;rw[fl,v];rfl
  show _=Z (_,(hR cs).map (il cs)++[il (cs++[c]) c.1]);rw[A];rfl
def Zty{r:aj}{k n:Nat}{Q:aK->Prop}{z:List Key×List D}(c:r[i]?=Z (Z (.xt (.s ks) ds)))(d:aa w (pv r)=Z dw)(e:aa k (pv r)=Z dk)(f:aa n (pv r)=Z dn)(g:mG dw=Z j)(h:wb ks ds j dk dn=Z z)(m:l≠n/\l<r.length)(q:Q (.aF ((r.set i (Z (.xt (.s z.1) z.2))).set l am))):Ev (wc i l w k n r) Q:=⟨_,by unfold wc;rw[c,d,e,f];show(mG dw).bind _=_;rw[g,bb,h,bb,if_pos m],q⟩
def ZqM{n:Nat}(hn:1<=n){T:List Pl}(x:∀p∈T,p.ki=be)(A:(T.flatMap Pl.bK).length<64):Tab n .fu [.lst (T.map Pl.toD)]=Z (.aW (ldK (T.flatMap Pl.bK)) (jz (T.flatMap Pl.bK))):=by
 refine ax (bB (c:=0) hn) λk m B=>?_;subst m;refine Ev.eq ?_;rw[tab];refine l8 (np:=1) (n:=7) (gb:=Et (Tab k)) ?_;unfold Et;refine bx ⟨_,W,bo (bx (oi (ds:=T.map Pl.toD) W ?_))⟩;show Ev (c9 _ _ _ [_,Z (.xt (.s []) []),_,_,_,_,_]) _;refine l6 (λR (j:Nat) r=>∃o2 e f g,r=[nr (.lst (T.map Pl.toD)),Z (.xt (.s (ldK ((T.take j).flatMap Pl.bK))) (jz ((T.take j).flatMap Pl.bK))),o2,e,f,g,am]) ⟨am,am,am,am,W⟩ ?_ ?_
 ·rintro j d r h ⟨o2,e,f,g,rfl⟩;rw[bJ,bQ]at h;refine ax h λp u i=>?_;clear h;subst i;have hs:=x p (cu u);refine aU (uc hs) λa b cs q=>?_;subst q;have v:(T.take (j+1)).flatMap Pl.bK=(T.take j).flatMap Pl.bK++cs:=by rw[lD,u,Ry,G6];simp[Pl.bK]
  have y:((T.take j).flatMap Pl.bK).length+cs.length<=(T.flatMap Pl.bK).length:=by
   rw[<-bH,<-v];conv=>rhs;rw[<-Rw (j+1) T]
   rw[G6,bH];lia
  rw[v];generalize(T.take j).flatMap Pl.bK=bs at y⊢;refine⟨_,W,oi (ds:=cs.map cg) (kg (ak W W (aY jS)) W) ?_⟩;show Ev (c9 _ _ _ [_,Z (.xt (.s (ldK bs)) (jz bs)),nr ((Pl.say a b cs).toD),_,_,_,am]) _;refine l6 (λR (t:Nat) r=>∃e f g,r=[nr (.lst (T.map Pl.toD)),Z (.xt (.s (ldK (bs++cs.take t))) (jz (bs++cs.take t))),nr ((Pl.say a b cs).toD),e,f,g,am]) ⟨_,_,_,by rw[List.take_zero,eS]⟩ ?_ ?_
  ·rintro t d r h ⟨e,f,g,rfl⟩;rw[bJ,bQ]at h;refine ax h λc w i=>?_;clear h;subst i;have C:=(bt.mp w).1;have z:bs++cs.take (t+1)=bs++cs.take t++[c]:=by rw[lD,w,jX];rfl
   rw[z];refine⟨_,W,Zty (dw:=.str c.1) (dk:=vW c) (dn:=.int c.2.2) W W W W W (Ztx (by rw[bH,ly];lia)) ⟨by decide,a9 7⟩ (iF ⟨_,_,_,W⟩)⟩
  ·rintro r ⟨e,f,g,rfl⟩;rw[aG,m8];exact iF ⟨_,_,_,_,W⟩
 rintro r ⟨o2,e,f,g,rfl⟩;rw[aG,m8];exact bo ⟨_,W,mY W⟩
def Ztz{ps:List Pl}(q:z∈rg ps):0<=z/\z<ps.length:=by obtain⟨i,c,rfl⟩:=aX.mp q;have:=rP.mp c;lia
def jA(ps:List Pl)(h:Int)(Ks:List 'u')(G:List Int):List 'u'×List D:=(dc ps (G.filter 'k')).foldl (b_ ps h (G.filter 'k')) (Ks,[])
def oC(ps:List Pl)(h:Int)(Ks:List 'u')(G:List Int):D:=match G.filter 'k'with|[]=>.tup [.str "end"]|t::_=>wR ps h t (jA ps h Ks G).2
def di(ps:List Pl)(h:Int):Nat->List 'u'×List D|0=>([gH ps h [0]],[])|i+1=>match (di ps h i).1[i]? with|some G=>((jA ps h (di ps h i).1 G).1,(di ps h i).2++[oC ps h (di ps h i).1 G])|none=>di ps h i
theorem Av(e:di ps h i=(Ks,Ss))(c:Ks[i]?=Z G):di ps h (i+1)=((jA ps h Ks G).1,Ss++[oC ps h Ks G]):=by unfold di;rw[e];show(match Ks[i]? with|some G=>_|none=>_)=_;rw[c]
structure PJ(ps:List Pl)(m h:Int)(e i:Nat)(Ks:List 'u')(Ss:List D):Prop where
 q:di ps h i=(Ks,Ss)
 p:PI ps m h e Ks i
 l:Ss.length=i
 b:∀j,j<i->j<(di ps h j).1.length
section
variable {m:Int}{ps:List Pl}{h:Int}{e i:Nat}{Ks:List 'u'}{Ss:List D}{G:List Int}
def ZvJ(c:G2 m ps):PJ ps m h e 0 [gH ps h [0]] []:=⟨W,ZvH c,W,λj d=>absurd d (Nat.not_lt_zero j)⟩
theorem PJ.s(q:PJ ps m h e i Ks Ss)(f:G2 m ps)(c:Ks[i]?=Z G)(g:∀x∈G.filter 'k',∀y∈G.filter 'k',¬oz h (aC ps x) (aC ps y))(d:∀p∈G,∀q∈G,aB ps h q=be->Ah (bf ps) 'k' p/\(aB ps h p=be->iW e ps h p q=be)):PJ ps m h e (i+1) (jA ps h Ks G).1 (Ss++[oC ps h Ks G]):=⟨Av q.q c,ZvI f q.p c (s:=[]) g d W,by rw[bH,q.l];rfl,λj r=>by
  by_cases z:j=i;·rw[z,q.q];exact(bt.mp c).1
  ·exact q.b j 'c'⟩
end
theorem Pq{d:Type}{g u:d->D}{f:d->Bool}{h:Zae}{fe:Zaf}{tl:ai}:∀(l:List d)(o:Option D),(∀a∈l,h (Z (g a)::tl)=Z (f a)/\fe (Z (g a)::tl)=Z (u a))->cn (gN 0) h fe (o::tl) (l.map g)=Z ((l.filter f).map u)|[],_,_=>rfl|a::r,o,i=>by have j:=Pq r (Z (g a)) λx m=>i x (b8 _ m);obtain⟨c,p⟩:=i a bZ;cases e:f a with|true=>rw[e]at c;rw[List.filter_cons_of_pos e];exact jr (ρ':=Z (g a)::tl) W c p j|false=>rw[e]at c;rw[bG,List.filter_cons_of_neg (by simp[e])];simp only[cn,gN,Be,bb,c,lC,if_false];exact j
noncomputable def gI(n:Nat):List D:=(gd n).map λ(i:Nat)=>.int i
def ZqN(n:Nat):gI (n+1)=gI n++[.int n]:=by unfold gI;rw[List.range_succ,cz];rfl
theorem Pr(n:Nat):(gI n).length=n:=by unfold gI;rw[aG,kz]
def Pt(h:gD G=gD c):G=c:=(Ri λa b z=>D.int.inj z).mp (D.tup.inj h)
def Pu{Ks:List 'u'}:gD G∈Ks.map gD↔G∈Ks:=⟨λh=>ax (aX.mp h) λ_ h e=>Pt e▸h,λh=>aX.mpr ⟨G,h,W⟩⟩
def Aw(G:List Int):dQ 8 (gD G)=be:=by show(G.map D.int).all (dQ 7)=be;rw[ZwV];exact hY.mpr λ_ _=>rfl
def Zu9(G:List Int)(Ks:List 'u'):tw (gD G) (.tab (Ks.map gD) (gI Ks.length))=Z (.bl (!decide (G∈Ks))):=by exact(if_pos ⟨Aw G,by rw[aG,Pr]⟩).trans<|congrArg (λb=>Z (D.bl (!b))) (decide_eq_decide.mpr Pu)
theorem Pw{G:List Int}:∀{Ks:List 'u'}{a:Nat},G∈Ks->atT (Ks.map gD) ((oI a Ks.length).map λ(i:Nat)=>D.int i) (gD G)=Z (.int ((a+Ks.idxOf G:Nat):Int))
 |K::Ks,a,h=>by
  rw[bz,xE];show(if gD K=gD G then Z (D.int (a:Int))else atT (Ks.map gD) _ (gD G))=_;by_cases e:K=G;·subst e;rw[if_pos W,List.idxOf_cons_self];rfl
  ·rw[if_neg λz=>e (Pt z),Pw ((a6.mp h).resolve_left λz=>e z.symm),List.idxOf_cons,show(K==G)=bi from beq_eq_false_iff_ne.mpr e];simp only[Bool.cond_false];congr 2;lia
def ZvK{Ks:List 'u'}(h:G∈Ks):mO (.tab (Ks.map gD) (gI Ks.length)) (gD G)=Z (.int (Ks.idxOf G:Nat)):=by refine(if_pos ⟨Aw G,by rw[aG,Pr]⟩).trans ?_;unfold gI;rw[xF];exact(Pw h).trans (by rw[oH])
def ZvL{Q:D×List (Λ×ET)->Prop}(h:t (fz r)=Z b)(k:bif b then Ev (u r) Q else Ev (w r) Q):Ev (v_ t u w r) Q:=by cases b<;>simpa [Ev,v_,h]using k
theorem Zva(h:w∈hR cs):atK (ldK cs) (jz cs) (.inr w)=Z (il cs w):=by
 unfold ldK jz;have:∀{l:List Str},w∈l->atK (l.map (lg:Str->Key)) (l.map (il cs)) (.inr w)=Z (il cs w):=λ{l}=>by induction l with|nil=>exactλh=>nomatch h|cons x l c=>
   intro h;show(if(lg x:Key)=.inr w then Z (il cs x)else atK (l.map (lg:Str->Key)) (l.map (il cs)) (.inr w))=_;by_cases e:x=w;·rw[e,if_pos W]
   ·rw[if_neg λz=>e (xG z)];exact c ((a6.mp h).resolve_left λz=>e z.symm)
 exact this h
def ZqO{n:Nat}(hn:3<=n){ps:List Pl}(hG:G2 m ps)(hp:ps.length<64){G:List Int}(hr:∀z∈G,0<=z/\z<ps.length)(hGl:G.length<64)(u:(c_ ps (G.filter 'k')).length<64){Ks:List 'u'}(hz:(jA ps h Ks G).1.length<=aA):mT (Tab n .fw) [.tup (ps.map Pl.toD),.int h,gD G] [(am,Ks.map gD),(Z (Ks.map gD),gI Ks.length)]=Z (oC ps h Ks G,[(am,(jA ps h Ks G).1.map gD),(Z ((jA ps h Ks G).1.map gD),gI (jA ps h Ks G).1.length)]):=by
 refine ax (bB (c:=2) hn) λk q7 U=>?_;subst q7;rw[show Tab (k+1) .fw=encM (runM 10 (Eu (Tab k)) 3 2) from W,LQ];refine Zv ⟨W,W⟩ W λas ha=>Ev.eq<|gO (List.exists_cons_of_length_eq_add_one ha) λa as f=>?_;subst f;obtain⟨b,rfl⟩:=List.length_eq_one_iff.mp (rK ha);unfold Eu;have Y:∀s∈G.filter 'k',(0<=s/\s<ps.length)/\aB ps h s=be:=λs hs=>⟨hr s (eR.mp hs).1,(eR.mp hs).2⟩;refine Ap (mX (ds:=((G.filter 'k').map (aC ps)).map Pl.toD) (zI (qX (kg (x:=gD G) W W) (small (by rw[aG];lia)) ?_) (k7 zT _)) (Ao ?_));·rw[gX];exact Pq (tl:=[Z 'g',Z (.int h)]) _ _ λx v=>⟨aN (aE (ae (ak W W (aY (kf (m:=m) (hr x v).1 (hr x v).2))) 'x') (q9 (fu U) _ h)),ak W W (aY (kf (m:=m) (hr x v).1 (hr x v).2))⟩
 show Ev (v_ _ _ _ [nr 'g',nr (.int h),nr (gD G),Z (.xt (.x a) (Ks.map gD)),Z (.xt (.t (Z b) (Ks.map gD)) (gI Ks.length)),nr (.lst (((G.filter 'k').map (aC ps)).map Pl.toD)),am,am,am,am]) _;unfold jA at hz;unfold oC jA;refine ZvL (aN (ak (aE 'x' W) W eq_int)) ?_;generalize G.filter 'k'=T at hz Y u⊢;cases T with|nil=>exact⟨_,W,W⟩|cons t T0=>
 generalize g:t::T0=T at hz Y u⊢;have h0:T[0]?=Z t:=g▸rfl;have yo:T≠[]:=g▸Bf _ _;have ht:=Y t (cu h0);refine aU (uc (ug ht.2)) λa1 b1 i e1=>?_;have ec:(T.map (aC ps)).flatMap Pl.bK=c_ ps T:=by unfold c_;rw[Zyf]
 have B:=ZqM (n:=k) (fu U) (T:=T.map (aC ps)) (λp hp=>by refine ax (aX.mp hp) λx v f=>?_;subst f;exact ug (Y x v).2) (by rw[ec];exact u);rw[ec]at B;have hnn:c_ ps T≠[]:=λz=>by have ho:=og hG t;rw[e1]at ho;refine gO (List.exists_cons_of_length_pos ho.2.2.2.2.2.1) λc l e=>?_;have:c∈c_ ps T:=ng.mpr ⟨t,cu h0,by rw[e1];show c∈i;rw[e];exact .head _⟩;rw[z]at this;cases this
 have hb:(((((T.map (aC ps)).map Pl.toD).length:Nat):Int)==0)=bi:=by rw[<-g];rfl
 rw[hb];refine(Ap (f_ (bN (aE 'x' B)) (Ao (Ap (mX (ds:=[]) W (Ao (Ap (oi (ds:=(dc ps T).map .str) ?_ ?_))))))))
 ·refine kg (x:=.lst ((dc ps T).map .str)) (aE 'x' ?_) W;have es:(ldK (c_ ps T)).map kD=(hR (c_ ps T)).map .str:=by unfold ldK;rw[gX];rfl
  have el:(hR (c_ ps T)).length<64:=by have:=Dt ((c_ ps T).map (·.1));rw[aG]at this;exact ml this u
  refine ZqK (by unfold ldK;rw[aG];exact el) ?_ (by rw[es];exact zM _);rw[es];cases q:hR (c_ ps T)with|cons w l=>rfl|nil=>refine gO (G3 hnn) λc l e=>?_;have:=(y2 ((c_ ps T).map (·.1)) c.1).mpr (aX.mpr ⟨c,by rw[e];exact .head _,W⟩);rw[show lY ((c_ ps T).map (·.1))=[] from q]at this;cases this
 show Ev (c9 _ _ _ [_,_,_,Z (.xt (.x a) (Ks.map gD)),Z (.xt (.t (Z b) (Ks.map gD)) (gI Ks.length)),_,nr (.aW (ldK (c_ ps T)) (jz (c_ ps T))),Z (.own []),_,_]) _;refine l6 (λR (j:Nat) r=>∃C E,r=[nr 'g',nr (.int h),nr (gD G),Z (.xt (.x a) ('y'.1.map gD)),Z (.xt (.t (Z b) ('y'.1.map gD)) (gI 'y'.1.length)),nr (.lst ((T.map (aC ps)).map Pl.toD)),nr (.aW (ldK (c_ ps T)) (jz (c_ ps T))),Z (.own 'y'.2),C,E]) ⟨am,am,W⟩ ?_ ?_
 ·rintro j d r hd ⟨C,E,rfl⟩;rw[bJ,bQ]at hd;refine ax hd λw hw f=>?_;clear hd;subst f;refine gz (ZqE (h:=h) u hz hw) λe2 l1 l2 n2=>?_;rw[e2]at l1 n2⊢;generalize((dc ps T).take j).foldl (b_ ps h T) (Ks,[])=s at l1 l2 n2⊢;have H:=cu hw;refine gO (Pc H) λc0 l0 I=>?_;have hhl:=Ztt (w:=w) u;have hap:=Pk (n:=k) (fu U) hG hp (h:=h) (S:=(jy ps T w).map λc:Ch=>c.2.2) (Pd hG) (by rw[aG];lia);have J:atK (ldK (c_ ps T)) (jz (c_ ps T)) (.inr w)=Z (.tup [vW c0,.lst (((jy ps T w).map (·.2.2)).map .int)]):=by rw[Zva ((kN _).mem_iff.mp H),gX];show Z (D.tup [((jy ps T w).head?.map vW).getD .aD,.lst ((jy ps T w).map _)])=_;rw[I];rfl
  refine⟨_,W,bx (f_ (x:=gD (dU ps h T w)) (bN (aE (ae W (ae W (ae (ak (ak W W (qZ W J)) W (aY ei)) W))) hap)) (bo (bx (eG (aN (ak W W (Zu9 _ _))) ?_))))⟩;have L:∀(Q:aK->Prop)(K:List 'u'),K=(b_ ps h T s w).1->dU ps h T w∈K->Ev (gw 7 (vZ (aH (ag [aa 8,ab ar (ab iP (aa 6) (aa 8)) 'h',ab mO (aa 4) (aa 9)]))) [nr 'g',nr (.int h),nr (gD G),Z (.xt (.x a) (K.map gD)),Z (.xt (.t (Z b) (K.map gD)) (gI K.length)),nr (.lst ((T.map (aC ps)).map Pl.toD)),nr (.aW (ldK (c_ ps T)) (jz (c_ ps T))),Z (.own s.2),nr (.str w),nr (gD (dU ps h T w))]) (kL (λr=>∃C E,r=[nr 'g',nr (.int h),nr (gD G),Z (.xt (.x a) ((b_ ps h T s w).1.map gD)),Z (.xt (.t (Z b) ((b_ ps h T s w).1.map gD)) (gI (b_ ps h T s w).1.length)),nr (.lst ((T.map (aC ps)).map Pl.toD)),nr (.aW (ldK (c_ ps T)) (jz (c_ ps T))),Z (.own (b_ ps h T s w).2),C,E]) Q):=λQ K M hK=>by
   have e2:(b_ ps h T s w).2=s.2++[.tup [.str w,vW c0,.int (K.idxOf (dU ps h T w):Nat)]]:=by rw[M];unfold b_;rw[I];rfl
   refine wz W (x:=.tup [.str w,vW c0,.int (K.idxOf (dU ps h T w):Nat)]) (mW (bc (ae W (ae (ak (ak W W (qZ W J)) W (aY gj)) (ae (ak W W (ZvK hK)) W)))) (by simp[b9,cf,vW,t9])) l2 (iF ⟨nr (.str w),nr (gD (dU ps h T w)),?_⟩);rw[e2,<-M];rfl
  by_cases A:dU ps h T w∈s.1
  ·exact hE (by simpa using A) (gU (bo (L _ s.1 (by unfold b_;rw[if_pos A]) A)))
  ·have M:s.1++[dU ps h T w]=(b_ ps h T s w).1:=by unfold b_;rw[if_neg A]
   have hs:s.1.length<aA:=by rw[<-M,bH]at l1;exact l1
   refine js (by simpa using A) (bx (Ot (d:=.int (s.1.length:Nat)) (kk:=(dU ps h T w).map .int) (mW (aE 'x' (by show Z (D.int ((s.1.map gD).length:Nat))=_;rw[aG])) W) W W (Aw _) (λz=>A (Pu.mp z)) (by rw[aG];exact hs) (bo ⟨_,?_,bo (L _ _ M 'o')⟩)));show(if(s.1.map gD).length<aA then Z (aK.aF (List.set _ 3 (Z (SD.xt (.x a) (s.1.map gD++[gD (dU ps h T w)])))))else am)=_;rw[if_pos (by rw[aG];exact hs),cz,bH,xy,ZqN];rfl
 rintro r ⟨C,E,rfl⟩;rw[aG,m8];have nl:=FE (ps:=ps) (h:=h) (T:=T) (dc ps T) (Ks,[]) W;have N:pL h (aC ps t)=cy h a1 b1:=by have q:=ht.2;unfold aB at q;rw[e1]at q⊢;exact if_pos q
 obtain⟨x,y,Cg,nx,ny⟩:∃x y,cy h a1 b1=.tup [x,y]/\b9 x=be/\b9 y=be:=by
  unfold cy;split
  ·exact⟨_,_,W,W,W⟩
  ·exact⟨_,_,W,W,W⟩
 have O:=Fg (n:=k) (fu U) a1 b1 h i;rw[Cg]at O N;refine Ao ⟨_,?_,W⟩;show(vZ _ _).bind _=_;rw[mW (x:=.tup [x,y,.tup ((dc ps T).foldl (b_ ps h T) (Ks,[])).2]) (ak (aE (ae (ak W W (oj (x:=(Pl.say a1 b1 i).toD) ?_)) 'x') O) (bc (ae (aE 'x' W) W)) W) (by simp[b9,cf,nx,ny,nl])]
 ·subst g;show _=Z (wR ps h t _,_);unfold wR;rw[N];rfl
 ·subst g;rw[<-e1];exact gj
def ZqP{r:aj}{Q:aK->Prop}(h:c r=Z (.tup kk))(d:dQ 8 (.tup kk)=be/\r.all lW=be)(k:Q (.aF (r.set i (Z (.xt (.t am [.tup kk]) [.int z]))))):Ev (za i c z r) Q:=⟨_,by unfold za;rw[h,bb];exact if_pos d,k⟩
def ZqQ(u:3<=q)(w:gG m ps)(J:GB ps)(he:2<=e)(hr:Tab q .fm [aT m ps,.int h]=Z .aD)(hf:∀x y,Sy (bf ps) 'k' 0 x y->¬iX e ps h x y):∃Ks Ss,PJ ps m h e Ks.length Ks Ss/\Tab (q+1) .fv [aT m ps,.int h]=Z (.tup Ss):=by
 have f:=pF w;have M:ps.length<64:=ml w.2.2.2.1 'b';have N:=Pk (n:=q) (fu u) f M (h:=h) (S:=[0]) (λs hs=>by rw[aZ.mp hs];have:=w.2.2.1;lia) (by exact gW ..);suffices hh:Ev (zy (Tab q) (mK 6 [aT m ps,.int h])) λo=>∃Ks Ss,PJ ps m h e Ks.length Ks Ss/\o=.ret (.tup Ss) by refine ax hh λo e v=>cA v λKs Ss a O=>?_;clear hh v;subst O;refine⟨Ks,Ss,a,?_⟩;show eY 2 6 (zy (Tab q)) [aT m ps,.int h]=_;unfold eY;rw[if_pos (show [aT m ps,D.int h].length=2 from W),e];rfl
 unfold zy;refine bx (eG (aN (ak (aE 'e' hr) W W)) (gU (bo ?_)));refine bx (f_ (bN (ak W W (aY ei))) (bo (bx (mX (ds:=[gH ps h [0]].map gD) (wu (ae (aE (ae W (ae W (ae (wt 'x') W))) N) W)) (bo (bx (ZqP (kk:=(gH ps h [0]).map .int) (mW (ak W W (oj gj)) (k7 (λ_=>rfl) _)) ⟨Aw _,W⟩ (bo (bx (mX (ds:=[]) W (bo (bx ?_))))))))))));show Ev (ig _ _ _ [_,_,_,_,_,_]) _;refine tY (λn r=>∃(Ks:List 'u')(Ss:List D),r=[nr 'q',nr (.int h),nr 'g',Z (.own (Ks.map gD)),Z (.xt (.t am (Ks.map gD)) (gI Ks.length)),Z (.own Ss)]/\PJ ps m h e Ss.length Ks Ss/\n+Ss.length=16777216) ?_ ?_ 16777216 _ ⟨[gH ps h [0]],[],W,ZvJ f,W⟩;·rintro r ⟨Ks,Ss,rfl,⟨_,p,_,_⟩,hl⟩;have:=Au J p;have:=p.l;lia
 rintro n r ⟨Ks,Ss,rfl,Q,hl⟩;have p:=Q.p;have i:cB (ab j9 (aw cS (ag [aa 5])) (aw cS (ag [aa 3]))) (fz [nr 'q',nr (.int h),nr 'g',Z (.own (Ks.map gD)),Z (.xt (.t am (Ks.map gD)) (gI Ks.length)),Z (.own Ss)])=Z (decide ((Ss.length:Int)<(Ks.map gD).length)):=aN (ak (aE 'x' W) (aE 'x' W) W);rw[aG]at i;by_cases A:Ss.length=Ks.length;·exact .inl ⟨i.trans (by rw[A];simp),bo (pG (aE 'x' W) ⟨Ks,Ss,A▸Q,W⟩)⟩
 have A:Ss.length<Ks.length:=by have:=p.l;lia
 have L:Ks[Ss.length]?=Z Ks[Ss.length]:=cF A;generalize Ks[Ss.length]=G at L;have hm:=cu L;obtain⟨S,hS⟩:=p.a G hm;have c:G.Sublist (rg ps):=hS▸FH ps h S;have T:∀z∈G,0<=z/\z<ps.length:=λz hz=>Ztz (c.subset hz);have U:G.length<64:=by have:=c.length_le;unfold rg at this;rw[aG,kz]at this;exact ml this M
 have B:∀p∈G,∀q∈G,aB ps h q=be->Ah (bf ps) 'k' p/\(aB ps h p=be->iW e ps h p q=be):=λx C y E j=>by have:=hf x y (p.g.sd G hm x C y E);refine⟨xH λz=>this ⟨j,.inl z⟩,λH=>?_⟩;cases q:iW e ps h x y with|true=>rfl|false=>exact(this ⟨j,.inr ⟨H,q⟩⟩).elim
 have hU:∀x∈G.filter 'k',∀y∈G.filter 'k',¬oz h (aC ps x) (aC ps y):=λx C y E=>by obtain⟨C,H⟩:=eR.mp C;obtain⟨E,j⟩:=eR.mp E;have:=(B x C y E j).2 H;unfold iW at this;rw[H,j,rG,rG]at this;exact(Fp he (rk w x) (rk w y) (ug H) (ug j)).mp this
 have I:=Q.s f L hU B;have Y:=Au J I.p;have hd:=ZqO (n:=q) u f M (h:=h) T U (ZqG J (RD.trans c)) (Ks:=Ks) (gK Y);refine .inr ⟨i.trans (by simpa using A),⟨_,?_,iF ⟨(jA ps h Ks G).1,Ss++[oC ps h Ks G],W,?_,?_⟩⟩⟩
 ·have ha:kT [vH (aa 2),vH (aa 1),vZ (ab ar (aa 3) (aw cS (ag [aa 5])))] [nr 'q',nr (.int h),nr 'g',Z (.own (Ks.map gD)),Z (.xt (.t am (Ks.map gD)) (gI Ks.length)),Z (.own Ss)]=Z [.tup (ps.map Pl.toD),.int h,gD G]:=by have hv:vZ (ab ar (aa 3) (aw cS (ag [aa 5]))) [nr 'q',nr (.int h),nr 'g',Z (.own (Ks.map gD)),Z (.xt (.t am (Ks.map gD)) (gI Ks.length)),Z (.own Ss)]=Z (gD G):=mW (ak W (aE 'x' W) (oj (u_ (by rw[bJ,L];rfl)))) (k7 (λ_=>rfl) _);show(Z _).bind (λd=>((Z _).bind λd=>((vZ _ _).bind λd=>_).map _).map _)=_;rw[hv];rfl
  show((kT _ _).bind λds=>(mT (Tab q .fw) ds [(am,Ks.map gD),(Z (Ks.map gD),gI Ks.length)]).bind λx=>if _/\kinds x.2=kinds [(am,Ks.map gD),(Z (Ks.map gD),gI Ks.length)]/\Ss.length<aA then _ else am)=_;rw[ha,bb,hd,bb,if_pos ⟨⟨by decide,by decide⟩,W,by show Ss.length<16777216;have:=Au J p;lia⟩];rfl
 ·rw[bH];exact I
 ·rw[bH,bz,lz];lia
def ZtB(ps:List Pl):(rg ps).map (aC ps)=ps:=by
 refine Gu λi=>?_;unfold rg;rw[gX,bJ];by_cases c:i<ps.length;·rw[A8 c,cF c];show Z (aC ps (i:Int))=_;unfold aC;rw[show((i:Int)).toNat=i from W,cF c];rfl
 ·rw[uP (by simpa using c),uP (by simpa using c)];rfl
def Zvb(h:BK 13 43 ps):GB ps:=by
 have e:=ZtB ps;refine⟨?_,λa b=>?_⟩;·have:=h.2;rw[<-e,Zyf]at this;exact ml this 'b'
 ·have:=h.1 a b;rw[<-e,List.countP_map,List.countP_eq_length_filter]at this;refine c3 (uw ?_) this;refine congrArg uB (List.filter_congr λx _=>?_);show sys ps a b x=sy a b (aC ps x);unfold sys sy;cases aC ps x<;>rfl
def ZqR{n:Nat}(hn:11<=n)(ns:List Int)(O:1<=most)(Q:most<=3):∃(m:Int)(ps:List Pl),Tab n .fT [.bI ns,.int most]=Z 'q'/\gG m ps/\BK 12 42 ps/\Pj m ps:=by
 obtain⟨k,rfl,r⟩:=bB (c:=10) hn;obtain⟨f,h⟩:=EY (n:=k) (fu r) (ns:=ns) (i:=0) 'c';have j:=ej (n:=k) (fu r) (c:=f) (p:=9973) (m:=3) 'b' 'b';have z:=e_ (c:=f) (p:=9973) (m:=3) 'b';have A:=f9 (c:=f) (p:=9973) (m:=3) 'b';have q:=ej (n:=k) (fu r) (c:=f) (p:=9967) (m:=most) 'b' (by assumption);have B:=e_ (c:=f) (p:=9967) (m:=most) (by assumption);have C:=f9 (c:=f) (p:=9967) (m:=most) (by assumption);generalize mix f 9973 3=u at j z A;generalize mix f 9967 most=v at q B C;have cells:∀(t a:Nat)(o:Option D),∃cs:List Int,cn (gN 0) (λ_=>Z be) (aw (Tab k .fJ) (ag [aa 1,ab aP 'a' (aa 0)])) [o,Z (.bI ns)] ((oI a t).map λ(i:Nat)=>D.int (0+(i:Int)))=Z (cs.map .int)/\cs.length=t:=by intro t;induction t with|zero=>intro a o;exact⟨[],W,W⟩|succ t E=>intro a o;obtain⟨cs,w,x⟩:=E (a+1) (Z (.int (0+(a:Int))));obtain⟨c,H⟩:=EY (n:=k) (fu r) (ns:=ns) (i:=1+(0+(a:Int))) 'c';refine⟨c::cs,?_,by simp[x]⟩;rw[xE,bG,bG];exact jr (ρ':=[_,_]) W W (aE 'e' H) w
 obtain⟨cs,w,x⟩:=cells (1+v).toNat 0 am;refine aJ (ZqH (n:=k) (by omega) (m:=2+u) 'c' (cells:=cs) 'c') λps I J L=>⟨2+u,ps,?_,J,L⟩;rw[tab];have g:d2 [am,Z 0] (dm (ag [ab aP 'a' (aw (Tab k .fK) (ag [aw (Tab k .fJ) (ag [aa 0,cC (.int 0)]),cC (.int 9967),aa 1]))])) (gN 0) (λ_=>Z be) (aw (Tab k .fJ) (ag [aa 1,ab aP 'a' (aa 0)])) [Z (.bI ns),Z (.int most),Z (.int (2+u))]=Z (.lst (cs.map .int)):=by
  refine iT (ds:=cq 0 (1+v).toNat) ?_ (small (by simp[cq];lia)) ?_;·exact kZ (ak W (aE (ae (aE 'e' h) 'e') q) W) 'c' 'c'
  ·have e:cq 0 (1+v).toNat=(oI 0 (1+v).toNat).map λ(i:Nat)=>D.int (0+(i:Int)):=by unfold cq;rw[xF]
   rw[e];exact w
 have M:zF (Tab k) [Z (.bI ns),Z (.int most),am]=Z (.ret (aT (2+u) ps)):=by
  unfold zF;rw[iV (ρ':=[Z (.bI ns),Z (.int most),Z (.int (2+u))]) (by rw[qV (d:=.int (2+u)) (ak W (aE (ae (aE 'e' h) 'e') j) W)];rfl)];refine dH ?_;unfold aw;have N:ag [aa 2,d2 [am,Z 0] (dm (ag [ab aP 'a' (aw (Tab k .fK) (ag [aw (Tab k .fJ) (ag [aa 0,cC (.int 0)]),cC (.int 9967),aa 1]))])) (gN 0) (λ_=>Z be) (aw (Tab k .fJ) (ag [aa 1,ab aP 'a' (aa 0)]))] [Z (.bI ns),Z (.int most),Z (.int (2+u))]=Z [.int (2+u),.lst (cs.map .int)]:=by rw[CO,CO,g];rfl
  have y:=N;unfold aw at y;rw[y,bb,I]
 simp only[body,cJ,lK,bz,lz,if_true,bG,uF];show(zF (Tab k) [Z (.bI ns),Z (.int most),am]).bind _=_;rw[M];rfl
section
variable {m:Int}{ps:List Pl}{h:Int}
def Ax(c:gG m ps)(g:2<=e)(d:aB ps h x=be)(f:aB ps h y=be):iW e ps h x y=be↔¬oz h (aC ps x) (aC ps y):=by unfold iW;rw[d,f,rG,rG];exact Fp g (rk c x) (rk c y) (ug d) (ug f)
def ZtC(i:gG m ps)(p:2<=e)(c:2<=j):iX e ps h x y->iX j ps h x y:=λu=>aM u λd f=>⟨d,f.imp_right λu=>aM u λg q=>⟨g,pW.mpr λz=>pW.mp q ((Ax i p g d).mpr ((Ax i c g d).mp z))⟩⟩
end
inductive PS where|fin|st (s:Bool) (o:Int) (cs:List Ch)
noncomputable def rl(s:Bool):Str:=if s then "says" else "hears"
def PS.toD:PS->D|.fin=>.tup [.str "end"]|.st s o cs=>.tup [.str (rl s),.int o,.tup (cs.map cg)]
noncomputable def m4(cs:List Ch)(w:Str):Option Ch:=cs.find? λc=>c.1==w
section
variable {m:Int}{ps:List Pl}{h:Int}{e:Nat}
theorem Zvc(q:(di ps h i).1[i]?=am):di ps h (i+1)=di ps h i:=by show(match (di ps h i).1[i]? with|some G=>((jA ps h (di ps h i).1 G).1,(di ps h i).2++[oC ps h (di ps h i).1 G])|none=>di ps h i)=_;rw[q]
theorem FI{i:Nat}:∀(d j:Nat),j+d=i->(∀(l:Nat) G,(di ps h j).1[l]?=Z G->(di ps h i).1[l]?=Z G)/\∀(l:Nat) x,(di ps h j).2[l]?=Z x->(di ps h i).2[l]?=Z x|0,j,e=>by obtain rfl:j=i:=e;exact⟨λ_ _ h=>h,λ_ _ h=>h⟩|d+1,j,e=>by obtain⟨a,b⟩:=FI (i:=i) d (j+1) 'c';cases q:(di ps h j).1[j]? with|none=>rw[Zvc q]at a b;exact⟨a,b⟩|some g=>rw[Av (Ks:=(di ps h j).1) (Ss:=(di ps h j).2) W q]at a b;exact⟨λl G f=>a l G (uf _ _ f),λl x c=>b l x (by rw[gL (bt.mp c).1];exact c)⟩
theorem Px:∀j,(∀i,i<j->i<(di ps h i).1.length)->(di ps h j).2.length=j|0,_=>rfl|j+1,c=>by have d:=Px j λi f=>c i (by exact xx f);rw[Av (Ks:=(di ps h j).1) (Ss:=(di ps h j).2) W (cF (c j (uz j))),bH,d];rfl
theorem Py{T:List Int}:∀(ws:List Str)(s:List 'u'×List D),(∀w∈ws,w∈dc ps T)->∃cs:List Ch,(ws.foldl (b_ ps h T) s).2=s.2++cs.map cg/\cs.map (·.1)=ws/\∀c∈cs,(∃d∈jy ps T c.1,c.2.1=d.2.1)/\0<=c.2.2/\(ws.foldl (b_ ps h T) s).1[c.2.2.toNat]?=Z (dU ps h T c.1)
 |[],s,_=>⟨[],(eS _).symm,W,λ_ h=>nomatch h⟩|w::ws,s,hw=>by
  refine gO (Pc (hw w (.head _))) λd l f=>aJ (Py ws (b_ ps h T s w) λv g=>hw v (.tail _ g)) λcs i j p=>?_;have q:d∈jy ps T w:=f▸ .head _;have r:dU ps h T w∈(b_ ps h T s w).1:=by
   show _∈(if _ then _ else _:List 'u');split;·assumption
   ·simp
  refine⟨(w,d.2.1,(((b_ ps h T s w).1.idxOf (dU ps h T w):Nat):Int))::cs,?_,by rw[bG,j],λc qe=>?_⟩;·rw[xD,i];show(s.2++[_])++_=_;rw[f,jX];rfl
  ·rcases a6.mp qe with rfl|qe;·refine⟨⟨d,q,W⟩,Bk _,?_⟩;rw[xD];refine uf ws _ ?_;show(b_ ps h T s w).1[(((b_ ps h T s w).1.idxOf (dU ps h T w):Nat):Int).toNat]?=_;rw[mn];have:=List.idxOf_lt_length_of_mem r;rw[cF this,List.getElem_idxOf this]
   ·exact p c qe
theorem Zvd(t:aB ps h x=be):∃s o,pL h (aC ps x)=.tup [.str (rl s),.int o]:=by unfold aB at t;unfold pL;cases e:aC ps x with|fin=>rw[e]at t;injection t|say a b cs=>
  rw[e]at t;have t:(a==h||b==h)=be:=t;show ∃s o,(if(a==h||b==h)=be then cy h a b else .aD)=_;rw[if_pos t];unfold cy;split;·exact⟨be,b,W⟩
  ·exact⟨bi,a,W⟩
structure HP(ps:List Pl)(h:Int)(Ks:List 'u')(P:List PS):Prop where
 l:P.length=Ks.length
 z:∃G,Ks[0]?=Z G/\0∈G
 cl:∀(j:Nat) G,Ks[j]?=Z G->∀x∈G,aB ps h x=bi->∀c∈(aC ps x).bK,c.2.2∈G
 tu:∀(j:Nat) G,Ks[j]?=Z G->∀x∈G,aB ps h x=be->∃s o cs,P[j]?=Z (.st s o cs)/\pL h (aC ps x)=.tup [.str (rl s),.int o]/\∀c∈(aC ps x).bK,∃c' G',m4 cs c.1=Z c'/\c'.2.1=c.2.1/\0<=c'.2.2/\Ks[c'.2.2.toNat]?=Z G'/\c.2.2∈G'
 en:∀(j:Nat) G,Ks[j]?=Z G->∀x∈G,aC ps x=.fin->P[j]?=Z .fin
def ZtE{cs:List Ch}(h:w∈cs.map (·.1)):∃c,m4 cs w=Z c/\c∈cs/\c.1=w:=by refine ax (aX.mp h) λf d g=>?_;cases q:m4 cs w with|none=>exact absurd (Zxn.mp q f d) (by simp[g])|some c=>exact⟨c,W,List.mem_of_find?_eq_some q,eq_of_beq (List.find?_some (p:=λc:Ch=>c.1==w) q)⟩
def Zve(L:gG m ps)(U:2<=e){Ks Kf:List 'u'}{G:List Int}(hs:G.Sublist (rg ps))(g:∀p∈G,∀q∈G,aB ps h q=be->Ah (bf ps) 'k' p/\(aB ps h p=be->iW e ps h p q=be))(hK:∀(l:Nat) u,(jA ps h Ks G).1[l]?=Z u->Kf[l]?=Z u):∃S:PS,oC ps h Ks G=S.toD/\(∀x∈G,aB ps h x=be->∃s o cs,S=.st s o cs/\pL h (aC ps x)=.tup [.str (rl s),.int o]/\∀c∈(aC ps x).bK,∃i u,m4 cs c.1=Z i/\i.2.1=c.2.1/\0<=i.2.2/\Kf[i.2.2.toNat]?=Z u/\c.2.2∈u)/\∀x∈G,aC ps x=.fin->S=.fin:=by unfold oC;cases eq:G.filter 'k'with|nil=>refine⟨.fin,W,λx j d=>?_,λ_ _ _=>rfl⟩;have:x∈G.filter 'k':=eR.mpr ⟨j,d⟩;rw[eq]at this;cases this|cons t T=>
  have ht:t∈G.filter 'k':=eq▸ .head _;obtain⟨v,f⟩:=eR.mp ht;refine gO (Zvd f) λs o es=>aJ (Py (ps:=ps) (h:=h) (T:=G.filter 'k') (dc ps (G.filter 'k')) (Ks,[]) λ_ h=>h) λcs e1 e2 e3=>⟨.st s o cs,?_,λx j d=>⟨s,o,cs,W,?_,λc J=>?_⟩,λx j Y=>?_⟩;·show wR ps h t (jA ps h Ks G).2=_;unfold wR jA;rw[es,e1];rfl
  ·have r:=(Ax L U d f).mp ((g x j t v f).2 d);rw[<-es];unfold pL;unfold aB at d f;cases A:aC ps x with|fin=>rw[A]at d;injection d|say a b M=>cases B:aC ps t with|fin=>rw[B]at f;injection f|say N b' O=>rw[A]at d r;rw[B]at f r;show(if(a==h||b==h)=be then cy h a b else .aD)=(if(N==h||b'==h)=be then cy h N b' else .aD);rw[if_pos d,if_pos f];exact xH λz=>r (.inl z)
  ·have C:x∈G.filter 'k':=eR.mpr ⟨j,d⟩;have hw:c.1∈dc ps (G.filter 'k'):=Aq.mpr ⟨x,C,c,J,W⟩;refine aJ (ZtE (cs:=cs) (w:=c.1) (by rw[e2];exact hw)) λi q1 q2 q3=>?_;obtain⟨⟨c0,k1,k2⟩,k3,k4⟩:=e3 i q2;rw[q3]at k1 k4;have E:c∈jy ps (G.filter 'k') c.1:=eR.mpr ⟨ng.mpr ⟨x,C,J⟩,by simp⟩;refine⟨i,_,q1,?_,k3,hK _ _ k4,?_⟩;·rw[k2];obtain⟨k1,k5⟩:=eR.mp k1;refine ax (ng.mp k1) λy hy H=>?_;obtain⟨Q,I⟩:=eR.mp hy;have r:=(Ax L U d I).mp ((g x j y Q I).2 d);unfold aB at d I;cases A:aC ps x with|fin=>rw[A]at d;injection d|say a b M=>cases B:aC ps y with|fin=>rw[B]at I;injection I|say N b' O=>rw[A]at r J;rw[B]at r H;exact xH λz=>r (.inr (.inr ⟨c,J,c0,H,eq_of_beq k5,z⟩))
   ·exact iY.mpr ⟨Pd (pF L) _ (aX.mpr ⟨c,E,W⟩),c.2.2,aX.mpr ⟨c,E,W⟩,.z⟩
  ·have ha:=(g x j t v f).1;exfalso;induction ha using Ah.casesOn with|t q=>unfold aB at q;rw[Y]at q;injection q|s q _=>obtain⟨w,q⟩:=q;unfold bf at q;rw[Y]at q;cases q
end
section
variable {m:Int}{ps:List Pl}{h:Int}
def Zvf(J:gG m ps)(L:2<=e){Ks:List 'u'}(r:PJ ps m h e Ks.length Ks Ss):∃P:List PS,HP ps h Ks P/\Ss=P.map PS.toD:=by
 have one:∀j:Nat,j<Ks.length->∃S:PS,Ss[j]?=Z S.toD/\∀G,Ks[j]?=Z G->(∀x∈G,aB ps h x=be->∃s o cs,S=.st s o cs/\pL h (aC ps x)=.tup [.str (rl s),.int o]/\∀c∈(aC ps x).bK,∃v C,m4 cs c.1=Z v/\v.2.1=c.2.1/\0<=v.2.2/\Ks[v.2.2.toNat]?=Z C/\c.2.2∈C)/\∀x∈G,aC ps x=.fin->S=.fin:=λj d=>by
  obtain⟨w,E⟩:∃w,(di ps h j).1[j]?=Z w:=⟨_,cF (r.b j d)⟩;have H:(di ps h j).2.length=j:=Px j λi M=>r.b i (by exact uI M d);have y:=Av (Ks:=(di ps h j).1) (Ss:=(di ps h j).2) W E;obtain⟨a,_⟩:=FI (ps:=ps) (h:=h) (i:=Ks.length) (Ks.length-j) j 'c';obtain⟨b,c⟩:=FI (ps:=ps) (h:=h) (i:=Ks.length) (Ks.length-(j+1)) (j+1) 'm';rw[r.q]at a b c;rw[y]at b c;have A:Ks[j]?=Z w:=a _ _ E;have N:=cu A;obtain⟨O,Q⟩:=r.p.a _ N;refine aJ (Zve (Ks:=(di ps h j).1) (Kf:=Ks) J L (Q▸FH ps h O:w.Sublist (rg ps)) (r.p.g.ev j d _ A) b) λS T U Y=>⟨S,c j _ ?_,λG t=>?_⟩;·rw[ku (by rw[H];exact a9 _),H,Bc,T];rfl
  ·rw[A]at t
   exists t;exact⟨U,Y⟩
 generalize hf:(λj=>if q:j<Ks.length then Ha (one j q)else PS.fin)=f;have sp:=λ(j:Nat)(q:j<Ks.length)=>Ba (one j q);have fe:∀j (q:j<Ks.length),f j=Ha (one j q):=λj q=>by rw[<-hf];exact dif_pos q
 have I:∀j:Nat,j<Ks.length->((gd Ks.length).map f)[j]?=Z (f j):=λj q=>by rw[bJ,A8 q];rfl
 refine⟨(gd Ks.length).map f,⟨by rw[aG,kz],?_,λj G d x u B c hc=>?_,λj G d x u B=>?_,λj G d x u ef=>?_⟩,?_⟩;·obtain⟨G,h1,h2⟩:=r.p.g.hd;exact⟨G,h1,h2 0 .z⟩
 ·exact r.p.g.cl G (cu d) x u B c.2.2 ⟨c.1,aX.mpr ⟨c,hc,W⟩⟩
 ·have q:=(bt.mp d).1;exact aS (((sp j q).2 G d).1 x u B) λs o cs y e2 e3=>⟨s,o,cs,by rw[I j q,fe j q,y],e2,e3⟩
 ·have q:=(bt.mp d).1;rw[I j q,fe j q,((sp j q).2 G d).2 x u ef]
 ·refine Gu λj=>?_;by_cases q:j<Ks.length
  ·rw[(sp j q).1,gX,bJ,A8 q,<-fe j q];rfl
  ·rw[uP (by rw[r.l];exact A5 q),uP (by rw[aG,aG,kz];exact A5 q)]
def ZtF(u:3<=q)(f:gG m ps)(t:BK 13 43 ps)(i:∀x y,m2 ps h x y->¬iX q ps h x y):∃Ks P,HP ps h Ks P/\P.length<16777216/\Tab (q+3) .fv [aT m ps,.int h]=Z (.tup (P.map PS.toD)):=by
 have g:=pF f;have gb:=Zvb t;obtain⟨d,v,w⟩:=Ow (k:=q) u g h;rcases w with⟨rfl,_⟩|⟨_,x,y,c,z⟩;·refine cA (ZqQ (q:=q+2) 'c' f gb (h:=h) (e:=q) (by exact fu u) v λx y s=>ZuU i s) λKs Ss j e=>?_;obtain⟨P,r,rfl⟩:=Zvf f 'c' j;exact⟨Ks,P,r,by rw[r.l];exact Au gb j.p,e⟩
 ·exact(i x y c z).elim
end
def fr{k:Nat}{K:Kd}(h:EF (Tab k) [Z K.toD,Z d]=Z (.ret x)):Tab (k+1) .fW [K.toD,d]=Z x:=dB (n:=2) (ds:=[K.toD,d]) (g:=EF (Tab k)) h W
def wV{k:Nat}{K:Kd}(h:EE (Tab k) [Z K.toD,Z (.int c)]=Z (.ret x)):Tab (k+1) .fV [K.toD,.int c]=Z x:=dB (n:=2) (ds:=[K.toD,.int c]) (g:=EE (Tab k)) h W
def ZqS:∀(K:Kd){n:Nat},K.Ne->K.dp+1<=n->∀d:D,gk d=be->fits K d=be->Tab n .fW [K.toD,d]=Z (.bl be):=by intro K;induction K with
 |none=>intro n hw hn d g e;obtain⟨k,rfl,j⟩:=bB (c:=0) hn;rw[<-e,fits];exact fr (rt W W)|num lo t=>intro n hw hn d g e;obtain⟨k,rfl,j⟩:=bB (c:=0) hn;cases d with
  |int i=>rw[fits]at e;exact fr (sk W (rt W (kY W (kY W ((EO W W W).trans (by rw[show(decide (lo<=i)&&decide (i<=t))=be from e]))))))|_=>rw[fits]at e;injection e
 |name ns=>intro n hw hn d g e;obtain⟨k,rfl,j⟩:=bB (c:=0) hn;cases d with|str x=>exact fr (sk W (sk W (rt W (kY W (ak W W (by rw[M6 (M4 g),e]))))))|_=>injection e
 |pair a b h q=>intro n hw hn d g e;have r:(Kd.pair a b).dp=max a.dp b.dp+1:=rfl;obtain⟨k,rfl,j⟩:=bB (n:=n) (c:=max a.dp b.dp+1) 'c';cases d with
  |tup xs=>match xs,g,e with
   |[x,y],g,e=>
    have f:gk x=be/\gk y=be:=by simpa [gk,n9,cV]using g
    have p:fits a x=be/\fits b y=be:=by rw[fits,cV]at e;exact e
    exact fr (sk W (sk W (sk W (sk W (rt W (kY W (kY (aE 'e' (h (n:=k) hw.1 'c' x f.1 p.1)) (aE 'e' (q (n:=k) hw.2 'c' y f.2 p.2)))))))))
   |[],_,e=>injection e
   |[_],_,e=>injection e
   |_::_::_::_,_,e=>injection e
  |_=>injection e
 |row a m h=>
  intro n hw hn d g e;have r:(Kd.row a m).dp=a.dp+1:=rfl;obtain⟨k,rfl,j⟩:=bB (n:=n) (c:=a.dp+1) 'c';cases d with
  |tup xs=>
   rw[fits,cV,decide_eq_true_eq,wy,hY]at e;have u:m<=9:=hw.2.1;have v:cn (gN 0) (λ_=>Z be) (aw (Tab k .fW) (ag [ab ar (aa 1) 'a',aa 0])) [am,Z (Kd.row a m).toD] xs=Z (xs.map λ_=>.bl be):=zK am λd f=>aE 'e' (h (n:=k) hw.2.2 (by exact j) d (EV (by unfold gk at g;exact g) d f) (e.2 d f));refine fr (sk W (sk W (sk W (sk W (sk W (dH (kY (ak (aE 'x' W) W ?_) (aE (ae (iT (cap:=[am,Z 0]) W (small 'c') v) W) ?_))))))))
   ·show jK (.int (xs.length:Int)) (.int m)=_;rw[EH,decide_eq_true e.1]
   ·rw[all_map (λ_=>be) xs,hY.mpr λ_ _=>rfl]
  |_=>injection e
theorem Pz{P:D->Prop}{fe:Zaf}{tl:ai}:∀{ds:List D}(o:Option D),(∀d∈ds,∃y,fe (Z d::tl)=Z y/\P y)->∃ys,cn (gN 0) (λ_=>Z be) fe (o::tl) ds=Z ys/\ys.length=ds.length/\∀y∈ys,P y|[],_,_=>⟨[],W,W,λ_ h=>nomatch h⟩|d::ds,o,h=>by obtain⟨y,c,f⟩:=h d (.head _);exact aJ (Pz (ds:=ds) (Z d) λx g=>h x (.tail _ g)) λys i j m=>⟨y::ys,jr (ρ':=Z d::tl) W W c i,congrArg (· +1) j,λz hz=>(a6.mp hz).elim (λe=>e▸f) (m z)⟩
theorem PB:∀{xs:List D},(∀x∈xs,gk x=be)->n9 xs=be|[],_=>rfl|x::xs,h=>by unfold n9;rw[h x (.head _),PB λy c=>h y (.tail _ c)];rfl
def ZmR:∀(K:Kd){n:Nat}(c:Int),K.Ne->K.dp+2<=n->∃v,Tab n .fV [K.toD,.int c]=Z v/\gk v=be/\fits K v=be:=by intro K;induction K with|none=>intro n c hw hn;obtain⟨k,rfl,h⟩:=bB (c:=1) hn;exact⟨.aD,wV (rt W W),W,W⟩|num lo f=>intro n c hw hn;obtain⟨k,rfl,h⟩:=bB (c:=1) hn;have E:lo<=f:=hw;have q1:=e_ (c:=c) (p:=9907) (m:=f-lo+1) 'c';have q2:=f9 (c:=c) (p:=9907) (m:=f-lo+1) 'c';have t:=ej (n:=k) h (c:=c) (p:=9907) (m:=f-lo+1) 'b' 'c';refine⟨.int (lo+mix c 9907 (f-lo+1)),wV (sk W (rt W (ak W (aE (ae W 'e') t) W))),W,?_⟩;show(decide (lo<=_)&&decide (_<=f))=be;rw[decide_eq_true 'c',decide_eq_true 'c'];rfl|name ns=>
  intro n c hw hn;obtain⟨k,rfl,h⟩:=bB (c:=1) hn;have x:0<ns.length:=List.length_pos_iff.mpr hw;have t:=ej (n:=k) h (c:=c) (p:=9901) (m:=(ns.length:Int)) 'b' 'c';have z:=e_ (c:=c) (p:=9901) (m:=(ns.length:Int)) 'c';have H:=f9 (c:=c) (p:=9901) (m:=(ns.length:Int)) 'c';have f:(mix c 9901 (ns.length:Int)).toNat<ns.length:=by lia
  have A:=pq (xs:=ns.map D.str) (i:=(mix c 9901 (ns.length:Int)).toNat) (by rw[aG];exact f);rw[jY z,G4]at A;refine⟨.str ns[(mix c 9901 (ns.length:Int)).toNat],wV (sk W (sk W (rt W (ak W (aE (ae W (ae W (ae (aE 'x' W) W))) (by rw[aG];exact t)) (aY A))))),W,?_⟩;exact G9.mpr ⟨_,Rl f,by simp⟩|pair a b q u=>intro n c hw hn;have w:(Kd.pair a b).dp=max a.dp b.dp+1:=rfl;obtain⟨k,rfl,h⟩:=bB (n:=n) (c:=max a.dp b.dp+2) 'c';refine aJ (q (n:=k) (c*3+1) hw.1 'm') λI J L M=>aJ (u (n:=k) (c*5+2) hw.2 'm') λN O o2 Q=>⟨.tup [I,N],wV (sk W (sk W (sk W (rt W (bc (ae (aE (ae W (ae (ak (ak W W (mV (qU (i:=c) (j:=3) 'o' 'b'))) W W) W)) J) (ae (aE (ae W (ae (ak (ak W W (mV (qU (i:=c) (j:=5) 'o' 'b'))) W W) W)) O) W))))))),by simp[gk,n9,L,o2],by simp[fits,M,Q]⟩|row a m q=>
  intro n c hw hn;have w:(Kd.row a m).dp=a.dp+1:=rfl;obtain⟨k,rfl,h⟩:=bB (n:=n) (c:=a.dp+2) 'c';have T:0<=m:=hw.1;have U:m<=9:=hw.2.1;have t:=ej (n:=k) (by exact fu h) (c:=c) (p:=9871) (m:=m+1) 'b' 'c';have z:=e_ (c:=c) (p:=9871) (m:=m+1) 'c';have H:=f9 (c:=c) (p:=9871) (m:=m+1) 'c';obtain⟨ys,Y,x,B⟩:=Pz (P:=λy=>gk y=be/\fits a y=be) (fe:=aw (Tab k .fV) (ag [ab ar (aa 1) 'a',ab aP (ab iJ (aa 2) (cC (.int 7))) (aa 0)])) (tl:=[Z (Kd.row a m).toD,Z (.int c)]) (ds:=cq 0 (mix c 9871 (m+1)).toNat) am λd C=>by unfold cq at C;obtain⟨i,f,rfl⟩:=aX.mp C;exact aJ (q (n:=k) (c*7+(0+(i:Int))) hw.2.2 (by exact h)) λv e o g=>⟨v,aE (ae W (ae (ak (ak W W (mV (qU (i:=c) (j:=7) 'o' 'b'))) W W) W)) e,o,g⟩
  have hr:(cq 0 (mix c 9871 (m+1)).toNat).length=(mix c 9871 (m+1)).toNat:=by unfold cq;rw[aG,kz]
  refine⟨.tup ys,wV (sk W (sk W (sk W (sk W (dH (aE (ae (iT (cap:=[am,Z 0,Z 1]) (kZ (aE (ae W (ae W (ae (ak W W W) W))) t) 'c' 'c') (small 'c') Y) W) W)))))),PB λy r=>(B y r).1,?_⟩;rw[fits,wy,decide_eq_true (by rw[x,hr];lia),rG,hY]
  exactλy r=>(B y r).2
def gJ{o:aK}(h:g r=Z (.aF r'))(c:u r'=Z o):aI g u r=Z o:=by unfold aI;rw[h];exact c
def Ay{o:aK}(h:t (fz r)=Z be)(c:g r=Z o):cK t g u r=Z o:=by unfold cK;rw[h];exact c
def m5{o:aK}(h:t (fz r)=Z bi)(c:u r=Z o):cK t g u r=Z o:=by unfold cK;rw[h];exact c
def PD{n:Nat}{ds:List D}(h:g (mK n ds)=Z (.ret d))(c:ds.length=np):eY np n g ds=Z d:=by unfold eY;rw[if_pos c,h];rfl
abbrev Sw:=Ch×D
noncomputable def wD(x:Sw):D:=.tup [.str x.1.1,x.2]
noncomputable def m6(h:Int)(p:Pl)(x:Sw):List D:=match p with|.fin=>[]|.say a b _=>(if(a==h)=be then [.tup [.str "says",.int b,.str x.1.1,x.2]]else [])++(if(b==h)=be then [.tup [.str "hears",.int a,.str x.1.1,x.2]]else [])
def iZ(ps:List Pl)(h:Int):Int->List Sw->List D|_,[]=>[]|i,x::r=>m6 h (aC ps i) x++iZ ps h x.1.2.2 r
structure wW(ps:List Pl)(i:Int)(x:Sw):Prop where
 s:∃a b cs,aC ps i=.say a b cs/\x.1∈cs
 o:gk x.2=be
 f:fits x.1.2.1 x.2=be
def rm(ps:List Pl):Int->List Sw->Int->Prop|i,[],j=>i=j|i,x::r,j=>wW ps i x/\rm ps x.1.2.2 r j
section
variable {m:Int}{ps:List Pl}
theorem PF{x:Sw}:∀{ad:List Sw}{i j:Int},rm ps i ad j->wW ps j x->rm ps i (ad++[x]) x.1.2.2/\∀h,iZ ps h i (ad++[x])=iZ ps h i ad++m6 h (aC ps j) x|[],i,j,e,s=>by have e:i=j:=e;subst e;exact⟨⟨s,W⟩,λh=>by show m6 h (aC ps i) x++[]=[]++_;rw[eS,RA]⟩|y::r,i,j,⟨c,d⟩,s=>by obtain⟨a,b⟩:=PF d s;exact⟨⟨c,a⟩,λh=>by show m6 h (aC ps i) y++iZ ps h y.1.2.2 (r++[x])=_;rw[b h,<-jX];rfl⟩
def Az(c:G2 m ps){x:Sw}(s:wW ps i x):(0<=x.1.2.2/\x.1.2.2<ps.length)/\x.1.2.1.Ne/\x.1.2.1.dp<=2:=by refine eM s.s λa b cs e d=>?_;have:=og c i;rw[e]at this;exact jG (this.2.2.2.2.2.2.2.1 _ d) λ_ f g h j=>⟨⟨h,j⟩,tT f,g⟩
theorem PH{F:Zad}{G I v:D}{c:Ch}(j:F [c.2.1.toD,v]=Z (.bl be)):∀{cs:List Ch}(g h i:Option D),c∈cs->(cs.map (·.1)).Nodup->lO (lQ 3 (dF (gN 4) (dF (gN 5) (dF (gN 6) (lP))))) (bD (iI (cB (ab (bg 64) (aa 4) (aa 2))) (cB (aw F (ag [aa 5,aa 3])))) (a_ (aa 6)) (b5)) (cs.map cg) [Z G,Z I,Z (.str c.1),Z v,g,h,i]=Z (.ret (.int c.2.2))
 |d::cs,g,h,i,p,hn=>by
  rw[bG]at hn⊢;obtain⟨n1,n2⟩:=d8.mp hn;have q:lQ 3 (dF (gN 4) (dF (gN 5) (dF (gN 6) (lP)))) (cg d) [Z G,Z I,Z (.str c.1),Z v,g,h,i]=Z [Z G,Z I,Z (.str c.1),Z v,Z (.str d.1),Z d.2.1.toD,Z (.int d.2.2)]:=rfl;unfold lO;rw[q,bb];by_cases e:d=c;·subst e;rw[show bD (iI (cB (ab (bg 64) (aa 4) (aa 2))) (cB (aw F (ag [aa 5,aa 3])))) (a_ (aa 6)) b5 [Z G,Z I,Z (.str d.1),Z v,Z (.str d.1),Z d.2.1.toD,Z (.int d.2.2)]=Z (.ret (.int d.2.2)) from EL (zG (aN (ak W W (by rw[MT,beq_self_eq_true]))) (aN (aE 'e' j))) (dH W)];rfl
  ·have f:=(a6.mp p).resolve_left (bW e);have r:(d.1==c.1)=bi:=beq_eq_false_iff_ne.mpr λz=>n1 (z▸aX.mpr ⟨c,f,W⟩);rw[show bD (iI (cB (ab (bg 64) (aa 4) (aa 2))) (cB (aw F (ag [aa 5,aa 3])))) (a_ (aa 6)) b5 [Z G,Z I,Z (.str c.1),Z v,Z (.str d.1),Z d.2.1.toD,Z (.int d.2.2)]=Z (.aF _) from EM (EI (aN (ak W W (by rw[MT,r])))) W];exact PH j _ _ _ f n2
def ZqT{n:Nat}(hn:4<=n)(h:G2 m ps){i:Int}(r:0<=i)(t:i<ps.length){x:Sw}(s:wW ps i x):Tab n .fY [aT m ps,.int i,.str x.1.1,x.2]=Z (.int x.1.2.2):=by obtain⟨k,rfl,A⟩:=bB (c:=3) hn;obtain⟨_,u,B⟩:=Az h s;refine eM s.s λa b cs e w=>?_;have j:=og h i;have p:=kf (m:=m) r t;rw[e]at j p;have q:∀{d:ai},aa 0 d=Z 'q'->aa 1 d=Z (.int i)->ab ar (ab ar (aa 0) 'a') (aa 1) d=Z (Pl.say a b cs).toD:=λy z=>ak (ak y W (aY ei)) z (aY p);refine dB (n:=7) (ds:=[aT m ps,.int i,.str x.1.1,x.2]) (g:=MP (Tab k)) ?_ W;refine sk (zH (aN (ak W W W)) (aN (ak (ak (q W W) W (aY gj)) W W))) ?_;have:=PH (G:=aT m ps) (I:=.int i) (v:=x.2) (ZqS x.1.2.1 (n:=k) u 'c' x.2 s.o s.f) am am am w j.2.2.2.2.2.2.2.2;unfold a7 vJ;rw[show dN (ab ar (ab ar (ab ar (aa 0) 'a') (aa 1)) 'z') (lK 7 [aT m ps,.int i,.str x.1.1,x.2])=Z (cs.map cg) from kg (ak (q W W) W (aY jS)) W,bb];rw[show lK 7 [aT m ps,.int i,.str x.1.1,x.2]=[Z 'q',Z (.int i),Z (.str x.1.1),Z x.2,am,am,am] from W,this];rfl
theorem PK{k:Nat}(E:4<=k)(B:G2 m ps){h:Int}{Wd:D}:∀(ad:List Sw)(i j:Int)(c:List D)(w y p:Option SD),0<=i->i<ps.length->rm ps i ad j->c.length+2*ad.length<=1000->∃t u v,c9 (ic 2 (cG (goN 5) (cG (goN 6) (ib)))) (aI (bE 7 (vH (ab ar (ab ar (aa 0) 'a') (aa 4)))) (aI (cK (cB (ab (bg 64) (ab ar (aa 7) 'a') (aa 1))) (gw 3 (vH (aH (ag [cC (.str "says"),ab ar (aa 7) 'l',aa 5,aa 6])))) (cZ)) (aI (cK (cB (ab (bg 64) (ab ar (aa 7) 'l') (aa 1))) (gw 3 (vH (aH (ag [cC (.str "hears"),ab ar (aa 7) 'a',aa 5,aa 6])))) (cZ)) (bE 4 (vH (aw (Tab k .fY) (ag [aa 0,aa 4,aa 5,aa 6]))))))) (ad.map wD) [nr 'q',nr (.int h),nr Wd,Z (.own c),nr (.int i),w,y,p] =Z (.aF [nr 'q',nr (.int h),nr Wd,Z (.own (c++iZ ps h i ad)),nr (.int j),t,u,v])
 |[],i,j,c,w,y,p,_,_,e,_=>by have e:i=j:=e;subst e;exact⟨w,y,p,by rw[show iZ ps h i []=[] from W,eS];rfl⟩|x::r,i,j,c,w,y,p,H,I,⟨s,g⟩,C=>by
  obtain⟨⟨M,k1⟩,_⟩:=Az B s;refine eM s.s λa b cs e U=>?_;have J:=kf (m:=m) H I;have N:=ZqT E B H I s;rw[bz]at C;have L:m6 h (aC ps i) x=(if(a==h)=be then [D.tup [.str "says",.int b,.str x.1.1,x.2]]else [])++(if(b==h)=be then [D.tup [.str "hears",.int a,.str x.1.1,x.2]]else []):=by rw[e];rfl
  rw[e]at J;have hsz:∀l:List D,l.length<=1000->l.length<aA:=λl C=>small C;obtain⟨t,u,v,O⟩:=PK E B (h:=h) (Wd:=Wd) r x.1.2.2 j (c++m6 h (aC ps i) x) (nr (.str x.1.1)) (nr x.2) (nr ((Pl.say a b cs).toD)) M k1 g (by
   have:(m6 h (aC ps i) x).length<=2:=by rw[L];split<;>split<;>exact k_ W
   rw[bH];lia);refine⟨t,u,v,?_⟩;rw[bG];unfold c9;rw[show ic 2 (cG (goN 5) (cG (goN 6) (ib))) (wD x) [nr 'q',nr (.int h),nr Wd,Z (.own c),nr (.int i),w,y,p]=Z [nr 'q',nr (.int h),nr Wd,Z (.own c),nr (.int i),nr (.str x.1.1),nr x.2,p] from W,bb];have step:∀d,(if(a==h)=be then c++[D.tup [.str "says",.int b,.str x.1.1,x.2]]else c)=d->∀f,(if(b==h)=be then d++[D.tup [.str "hears",.int a,.str x.1.1,x.2]]else d)=f->(aI (bE 7 (vH (ab ar (ab ar (aa 0) 'a') (aa 4)))) (aI (cK (cB (ab (bg 64) (ab ar (aa 7) 'a') (aa 1))) (gw 3 (vH (aH (ag [cC (.str "says"),ab ar (aa 7) 'l',aa 5,aa 6])))) (cZ)) (aI (cK (cB (ab (bg 64) (ab ar (aa 7) 'l') (aa 1))) (gw 3 (vH (aH (ag [cC (.str "hears"),ab ar (aa 7) 'a',aa 5,aa 6])))) (cZ)) (bE 4 (vH (aw (Tab k .fY) (ag [aa 0,aa 4,aa 5,aa 6]))))))) [nr 'q',nr (.int h),nr Wd,Z (.own c),nr (.int i),nr (.str x.1.1),nr x.2,p]=Z (.aF [nr 'q',nr (.int h),nr Wd,Z (.own f),nr (.int x.1.2.2),nr (.str x.1.1),nr x.2,nr ((Pl.say a b cs).toD)]):=λd z f A=>by
   refine gJ (iE (bN (ak (ak W W (aY ei)) W (aY J)))) (gJ (r':=[nr 'q',nr (.int h),nr Wd,Z (.own d),nr (.int i),nr (.str x.1.1),nr x.2,nr ((Pl.say a b cs).toD)]) ?_ (gJ (r':=[nr 'q',nr (.int h),nr Wd,Z (.own f),nr (.int i),nr (.str x.1.1),nr x.2,nr ((Pl.say a b cs).toD)]) ?_ (iE (bN (aE (ae W (ae W 'e')) N)))));·cases q:(a==h)with|true=>rw[q,if_pos W]at z;subst z;exact Ay (aN (ak (ak W W (aY ei)) W (by rw[eq_int,q]))) (EJ W (bN (bc (ae W (ae (ak W W (aY at2)) 'e')))) (hsz _ 'c'))|false=>rw[q,if_neg dg]at z;subst z;exact m5 (aN (ak (ak W W (aY ei)) W (by rw[eq_int,q]))) W
   ·have Q:d.length<=c.length+1:=by rw[<-z];split;rw[bH];exact a9 _;exact jC _
    cases q:(b==h)with|true=>rw[q,if_pos W]at A;subst A;exact Ay (aN (ak (ak W W (aY at2)) W (by rw[eq_int,q]))) (EJ W (bN (bc (ae W (ae (ak W W (aY ei)) 'e')))) (hsz _ 'c'))|false=>rw[q,if_neg dg]at A;subst A;exact m5 (aN (ak (ak W W (aY at2)) W (by rw[eq_int,q]))) W
  rw[step _ W _ W];show c9 _ _ (r.map wD) _=_;have T:(if(b==h)=be then(if(a==h)=be then c++[D.tup [.str "says",.int b,.str x.1.1,x.2]]else c)++[D.tup [.str "hears",.int a,.str x.1.1,x.2]]else(if(a==h)=be then c++[D.tup [.str "says",.int b,.str x.1.1,x.2]]else c))=c++m6 h (aC ps i) x:=by rw[L];split<;>split<;>simp
  rw[T,O,jX];rfl
def ZqU{n:Nat}(hn:5<=n)(d:G2 m ps){ad:List Sw}(g:rm ps 0 ad j)(i:ad.length<=400):Tab n .fZ [aT m ps,.int h,.tup (ad.map wD)]=Z (.tup (iZ ps h 0 ad)):=by obtain⟨k,rfl,f⟩:=bB (c:=4) hn;refine aU (PK f d (h:=h) (Wd:=.tup (ad.map wD)) ad 0 j [] am am am (uS _) (by have:=d.2.2.1;lia) g (by show 0+_<=_;lia)) λp q r e=>PD (n:=8) (ds:=[aT m ps,.int h,.tup (ad.map wD)]) (g:=MQ (Tab k)) (gJ (MW W) (gJ (iE W) (gJ e (EK (aE 'x' W))))) W
end
structure HD where
 aR:List Nat
 bP:List (List D)
 ks:List D
 ls:List (List D)
noncomputable def HD.hs(x:HD)(r:Λ)(g p:D):bC:=⟨r,cH,g,p,x.aR.map λ(i:Nat)=>.int i,x.bP.map .lst,x.ks,x.ls.map .lst⟩
def HD.ob(x:HD)(g p:D):D:=.obj cH iB [g,p,.lst (x.aR.map λ(i:Nat)=>.int i),.lst (x.bP.map .lst),.tab x.ks (x.ls.map .lst)]
def PN{run:HF}{x f:HD}{g p:D}{ds:List D}(h:∀r,run ds (x.hs r g p)=Z (d,f.hs r g p))(r:Λ):gT (kX run) ds (x.hs r g p)=Z (d,f.hs r g p):=by have t:qQ run ds (x.ob g p) d (f.ob g p):=⟨⟨x.hs 0 g p,W⟩,λs e=>by obtain⟨r,C,y,z,A,d1,k1,l1⟩:=s;injection e with q B c;injection c with u c;injection c with v c;injection c with i c;injection c with j c;injection c with m _;injection i with i;injection j with j;injection m with m w;subst q u v i j m w;exact⟨_,h r,W,W⟩⟩;unfold gT;rw[show kX run ((x.hs r g p).obj::ds)=Z (.tup [d,f.ob g p]) from ZpX t];rfl
def k8{fs:Zag}(e:g c=Z (.obj cH iB vs))(f:fs c=Z ds)(h:F (.obj cH iB vs::ds)=Z d)(i:iB.contains m=bi):dR cH m F g fs c=Z d:=by unfold dR;rw[e,f];exact(if_pos ⟨W,i⟩).trans h
def ZqV{n:Nat}{ds:List D}(h:g (lK n ds)=Z (.aF c))(d:ds.length=np):cJ np n g ds=Z .aD:=by unfold cJ;rw[if_pos d,h];rfl
theorem pQ(e:g c=Z (.obj cH iB vs))(h:(iB.zip vs).lookup f=Z d):hD cH f g c=Z d:=by unfold hD;rw[e];show(if cH=cH then(iB.zip vs).lookup f else am)=_;rw[if_pos W];exact h
def AA(h:f c=Z d):qR f c=Z (.aF c):=by unfold qR;rw[h];rfl
def Zvg(h:e d=Z (.int a))(i:f d=Z (.int b))(j:g d=Z (.int c))(m:a<=b)(p:b<c):mI jK j9 e f g d=Z (.bl be):=by unfold mI;rw[h,i,j,bb,bb,EH,bb,decide_eq_true m];exact wx p
section
variable {x:HD}{g:D}{pp:List D}{n:Nat}{h:Nat}
def AB(hn:1<=n)(d:h<pp.length):Tab n .fG [x.ob g (.lst pp),.int h]=Z .aD:=by obtain⟨k,rfl,e⟩:=bB (c:=0) hn;exact ZqV (n:=2) (ds:=[x.ob g (.lst pp),.int h]) (g:=MG (Tab k)) (EM (n8 (aN (Zvg W W (aE (ae (pQ W W) W) W) (Bk _) 'c'))) W) W
def AD{c:Type}{xs:List c}{i:Nat}{a:c}(h:xs[i]?=Z a):b4 xs (i:Int)=Z a:=u_ h
def AE(hn:2<=n)(e:x.aR[h]?=Z i)(d:pp[h]?=Z (.tup P))(f:P[i]?=Z S):Tab n .fH [x.ob g (.lst pp),.int h]=Z S:=by obtain⟨k,rfl,j⟩:=bB (c:=1) hn;refine dB (n:=2) (ds:=[x.ob g (.lst pp),.int h]) (g:=MH (Tab k)) (dS (AA (k8 W 'x' (AB j (bt.mp d).1) W)) (dH (ak (ak (pQ W W) W (oj (AD d))) (ak (pQ W W) W (oj (AD (a:=.int (i:Int)) ?_))) (aY (AD f))))) W;rw[bJ,e];rfl
def ZtH(hn:2<=n)(d:x.bP[h]?=Z l)(e:h<pp.length):Tab n .fE [x.ob g (.lst pp),.int h]=Z (.tup l):=by obtain⟨k,rfl,f⟩:=bB (c:=1) hn;refine dB (n:=2) (ds:=[x.ob g (.lst pp),.int h]) (g:=ME (Tab k)) (dS (AA (k8 W 'x' (AB f e) W)) (dH (aE (ae (ak (pQ W W) W (oj (AD (a:=.lst l) ?_))) W) W))) W;rw[bJ,d];rfl
def PQ(i:d c=Z (.tab ks vs))(j:e c=Z (.tup kk))(m:f c=Z y)(p:dQ 8 (.tup kk)=be):tP d e f c=Z ((atT ks vs (.tup kk)).getD y):=by unfold tP;rw[i,j,m];exact if_pos p
noncomputable def iq(a b:Nat):D:=.tup [.int (a:Int),.int (b:Int)]
def AF(a b:Nat):dQ 8 (iq a b)=be:=rfl
def HD.lt(x:HD)(a b:Nat):D:=(atT x.ks (x.ls.map .lst) (iq a b)).getD (.lst [])
def ZvM(hn:3<=n){a:Nat}{P:List D}{l:List D}(d:x.aR[h]?=Z i)(e:pp[h]?=Z (.tup P))(f:P[i]?=Z (.tup [.str "hears",.int (a:Int),cs]))(j:x.lt a h=.lst l)(p:0<l.length):Tab n .fI [x.ob g (.lst pp),.int h]=Z (.bl be):=by obtain⟨k,rfl,m⟩:=bB (c:=2) hn;refine dB (n:=3) (ds:=[x.ob g (.lst pp),.int h]) (g:=MI (Tab k)) (dS (eQ (k8 W 'x' (AE m d e f) W)) (dH (kY (ak (ak W W (aY gj)) W W) (ak (aE (ae (PQ (pQ W W) (bc (ae (ak W W (aY ei)) 'x')) (wt W) (AF a h)) W) ?_) W (MZ (i:=(l.length:Int)) 'c'))))) W;show cS [x.lt a h]=_;rw[j];rfl
def ZqW(hn:2<=n)(e:a<pp.length)(f:h<pp.length)(i:x.lt a h=.lst l):Tab n .fD [x.ob g (.lst pp),.int a,.int h]=Z (.tup l):=by obtain⟨k,rfl,d⟩:=bB (c:=1) hn;refine dB (n:=3) (ds:=[x.ob g (.lst pp),.int a,.int h]) (g:=MD (Tab k)) (dS (AA (k8 W 'x' (AB d e) W)) (dS (AA (k8 W 'x' (AB d f) W)) (dH (aE (ae (PQ (pQ W W) (bc 'e') (wt W) (AF a h)) W) ?_)))) W;show kb [x.lt a h]=_;rw[i];rfl
def ZtI(hn:3<=n)(m:pp.length<=4)(p:x.ls.length<=1000)(q:∀l∈x.ls,l=[])(hs:∀h,h<pp.length->∃i P,x.aR[h]?=Z i/\pp[h]?=Z (.tup P)/\P[i]?=Z jR):Tab n .fF [x.ob g (.lst pp)]=Z (.bl be):=by
 obtain⟨k,rfl,e⟩:=bB (c:=2) hn;have r:cn (gN 0) (λ_=>Z be) (ab iL (aw cS (ag [aa 0])) 'h') [am] (x.ls.map .lst)=Z (x.ls.map λ_=>.bl bi):=by
  have:=wL (g:=D.lst) (h:=λ_=>D.bl bi) (fe:=ab iL (aw cS (ag [aa 0])) 'h') (tl:=[]) x.ls am λl f=>by rw[q l f];rfl
  exact this
 have t:cn (gN 0) (λ_=>Z be) (ab (bg 64) (dR cH "state_now" (Tab k .fH) (aa 1) (ag [aa 0])) (cC jR)) [am,Z (x.ob g (.lst pp))] (cq 0 pp.length)=Z ((gd pp.length).map λ_=>.bl be):=by rw[k6];exact wL (g:=λ(i:Nat)=>D.int (i:Int)) (h:=λ_=>D.bl be) _ am λh u=>by exact ay (hs h (rP.mp u)) λi P v w y=>ak (k8 W 'x' (AE e v w y) W) W W
 refine dB (n:=1) (ds:=[x.ob g (.lst pp)]) (g:=MF (Tab k)) (sk (aN (aE (ae (iT (cap:=[am]) (ds:=x.ls.map .lst) ?_ (small (by rw[aG];exact p)) r) W) ?_)) (dH (aE (ae (iT (cap:=[am,Z 0]) (kZ (j:=(pp.length:Int)) (aE (ae (pQ W W) W) W) 'o' 'c') (small (by rw[mn,k6,aG,kz];exact fo m)) t) W) ?_))) W;·unfold Ef;rw[pQ (d:=.tab x.ks (x.ls.map .lst)) W W];rfl
 ·show(nN (x.ls.map λ_=>D.bl bi)).map (λbs=>D.bl (bs.any id))=_;rw[ES (λ_=>bi) x.ls];show Z (D.bl ((x.ls.map λ_=>bi).any id))=_;rw[show(x.ls.map λ_=>bi).any id=bi from Qo.mpr λb z=>by obtain⟨_,_,rfl⟩:=aX.mp z;exact dg]
 ·rw[all_map (λ_=>be) (gd pp.length),hY.mpr λ_ _=>rfl]
end
theorem PR{t:D}{w:Str}{c:Ch}:∀(cs:List Ch)(o:Option D),m4 cs w=Z c->lO (gN 2) (bD (cB (ab (bg 64) (ab ar (aa 2) 'h') (aa 1))) (a_ (aa 2)) b5) (cs.map cg) [Z t,Z (.str w),o]=Z (.ret (cg c))|[],o,h=>by injection h|d::cs,o,h=>by have e:cB (ab (bg 64) (ab ar (aa 2) 'h') (aa 1)) [Z t,Z (.str w),Z (cg d)]=Z (d.1==w):=aN (ak (ak W W (aY gj)) W W);unfold m4 at h;rw[uG]at h;show((bD _ _ _ [Z t,Z (.str w),Z (cg d)]).bind _)=_;unfold bD;rw[e];cases q:d.1==w with|true=>rw[q]at h;exists h;rfl|false=>rw[q]at h;exact PR cs _ h
def PU{n:Nat}(hn:1<=n){s:Bool}{o:Int}(h:m4 cs w=Z c):Tab n .fy [(PS.st s o cs).toD,.str w]=Z (cg c):=by obtain⟨k,rfl,d⟩:=bB (c:=0) hn;refine dB (n:=3) (ds:=[(PS.st s o cs).toD,.str w]) (g:=MC (Tab k)) ?_ W;show((lO _ _ (cs.map cg) [Z (PS.st s o cs).toD,Z (.str w),am]).bind _)=_;rw[PR cs am h];rfl
def FJ:∀S:PS,b9 S.toD=be|.fin=>rfl|.st s o cs=>by show(be&&(be&&(cf (cs.map cg)&&be)))=be;rw[k7 E8];rfl
theorem ZtJ{n:Nat}(h:j<n):g9 n (j:Int)=Z j:=by unfold g9;rw[if_pos (Bk j),if_pos 'c',mn]
section
variable {r:aj}{i j:Nat}{s:bC}{d:D}{fi fv:Zaj}
def PV(c:fv r=Z d)(e:fi r=Z (.int j))(f:gx i r=Z s)(g:s.C=cH)(h:j<s.aR.length):qJ i cH fi fv r=Z (.aF (r.set i (Z {s with aR:=s.aR.set j d}.sd))):=by unfold qJ;rw[c,e,f,bb,bb,bb,if_pos g];show(g9 s.aR.length (j:Int)).bind _=_;rw[ZtJ h];rfl
def PX{es:List D}(c:fi r=Z (.int j))(e:fv r=Z d)(f:gx i r=Z s)(g:s.C=cH)(h:s.bP[j]?=Z (.lst es))(m:es.length<aA):qL i cH fi fv r=Z (.aF (r.set i (Z {s with bP:=s.bP.set j (.lst (es++[d]))}.sd))):=by unfold qL;rw[c,e,f,bb,bb,bb,if_pos g];show(if(0:Int)<=(j:Int)then(match s.bP[(j:Int).toNat]? with|some (.lst es)=>if es.length<aA then Z (aK.aF (r.set i (Z {s with bP:=s.bP.set (j:Int).toNat (.lst (es++[d]))}.sd)))else am|_=>am)else am)=_;rw[if_pos (Bk j),mn,h];exact if_pos m
def ZqX{es:List D}(c:gx i r=Z s)(e:fi r=Z (.tup kk))(f:s.C=cH/\dQ 8 (.tup kk)=be/\s.ks.length<aA)(g:atT s.ks s.cE (.tup kk)=Z (.lst es))(h:fv r=Z d)(m:es.length<aA):qN i cH fi fv r=Z (.aF (r.set i (Z (s.put s.ks (s.cE.set (eZ s.ks (.tup kk)) (.lst (es++[d])))).sd))):=by unfold qN;rw[c,e,bb,bb];show(if s.C=cH/\dQ 8 (.tup kk)=be/\s.ks.length<aA then _ else am)=_;rw[if_pos f,g];show(fv r).bind _=_;rw[h];exact if_pos m
def ZqY(c:gx i r=Z s)(e:fi r=Z (.tup kk))(f:s.C=cH/\dQ 8 (.tup kk)=be/\s.ks.length<aA)(g:atT s.ks s.cE (.tup kk)=am)(h:fv (r.set i (Z (s.put (s.ks++[.tup kk]) (s.cE++[.lst []])).sd))=Z d):qN i cH fi fv r=Z (.aF (r.set i (Z (s.put (s.ks++[.tup kk]) (s.cE++[.lst [d]])).sd))):=by unfold qN;rw[c,e,bb,bb];show(if s.C=cH/\dQ 8 (.tup kk)=be/\s.ks.length<aA then _ else am)=_;rw[if_pos f,g];show(fv _).bind _=_;rw[h,bb,Zyg]
def ZvN(e:gx i r=Z s)(f:fi r=Z (.tup kk))(g:fv r=Z (.int 0))(h:atT s.ks s.cE (.tup kk)=Z (.lst (d::es)))(c:s.C=cH/\dQ 8 (.tup kk)=be):wg i j cH fi fv r=Z (.aF ((r.set i (Z {s with cE:=s.cE.set (eZ s.ks (.tup kk)) (.lst es)}.sd)).set j (nr d))):=by unfold wg;rw[e,f,g,bb,bb,bb];rw[h];exact if_pos ⟨c.1,c.2,W⟩
def h_seq(h:g r=Z (.aF r'))(c:u r'=Z z):iR g u r=Z z:=by unfold iR;rw[h];exact c
def Zvh(h:g r=Z (.aF r'))(c:gx 0 r'=Z s):zj g r=Z (.aD,s):=by unfold zj;rw[h,bb];show(gx 0 r').map _=_;rw[c];rfl
def Zvi(h:fv r=Z d)(c:gx 0 r=Z s):zk fv r=Z (d,s):=by unfold zk;rw[h,bb,c];rfl
end
theorem PY{c:Type}{k:D}:∀{ks:List D}{vs:List c},ks.length=vs.length->atT ks vs k=am->k∉ks
 |[],_,_,_=>λz=>nomatch z|j::ks,v::vs,l,h=>by
  unfold atT at h;by_cases e:j=k;·rw[if_pos e]at h;injection h
  ·rw[if_neg e]at h
   exactλz=>(a6.mp z).elim (λq=>e q.symm) (PY (rK l) h)
theorem PZ{c:Type}{k:D}{v:c}:∀{ks:List D}{vs:List c},ks.length=vs.length->k∉ks->atT (ks++[k]) (vs++[v]) k=Z v/\eZ (ks++[k]) k=ks.length
 |[],[],_,_=>⟨by show(if k=k then Z v else am)=_;rw[if_pos W],by show(if k=k then 0 else _)=_;rw[if_pos W];rfl⟩|j::ks,w::vs,l,h=>by
  have d:j≠k:=λe=>h (e▸ .head _);obtain⟨a,b⟩:=PZ (v:=v) (rK l) λz=>h (.tail _ z);refine⟨?_,?_⟩;·show(if j=k then Z w else atT (ks++[k]) (vs++[v]) k)=_;rw[if_neg d,a]
  ·show(if j=k then 0 else eZ (ks++[k]) k+1)=_;rw[if_neg d,b];rfl
theorem P0{c:Type}{k:D}{u v:c}:∀{ks:List D}{vs:List c},atT ks vs k=Z u->atT ks (vs.set (eZ ks k) v) k=Z v
 |[],_,h=>by unfold atT at h;injection h|_::_,[],h=>by unfold atT at h;injection h|j::ks,w::vs,h=>by
  unfold atT at h;unfold eZ;by_cases e:j=k;·rw[if_pos e];show(if j=k then Z v else _)=_;rw[if_pos e]
  ·rw[if_neg e]at h⊢;show(if j=k then Z w else atT ks (vs.set (eZ ks k) v) k)=_;rw[if_neg e];exact P0 h
def P1{ds:List D}{s:bC}(h:u (ph ns s ds)=Z z)(c:ds.length=np):n6 np ns u ds s=Z z:=(if_pos c).trans h
def P2{ys:List D}(h:(a::xs).length+ys.length<=aA):aP (.tup (a::xs)) (.tup ys)=Z (.tup (a::xs++ys)):=if_pos ⟨W,h⟩
def HD.put(x:HD)(a b:Nat)(d:D):HD:=match atT x.ks x.ls (iq a b)with|some _=>{x with ls:=x.ls.set (eZ x.ks (iq a b)) [d]}|none=>{x with ks:=x.ks++[iq a b],ls:=x.ls++[[d]]}
def HD.pop(x:HD)(a b:Nat):HD:={x with ls:=x.ls.set (eZ x.ks (iq a b)) []}
theorem wX{c d:Type}{f:c->d}{k:D}:∀{ks:List D}{vs:List c},atT ks (vs.map f) k=(atT ks vs k).map f
 |[],_=>by unfold atT;rfl|_::_,[]=>by unfold atT;rfl|j::ks,v::vs=>by
  show(if j=k then Z (f v)else atT ks (vs.map f) k)=Option.map f (if j=k then Z v else atT ks vs k);by_cases e:j=k;·rw[if_pos e,if_pos e];rfl
  ·rw[if_neg e,if_neg e];exact wX
structure HD.Em(x:HD)(N:Nat):Prop where
 l:x.ks.length=x.ls.length
 n:x.ks.length<=N
 e:∀l∈x.ls,l=[]
section
variable {x:HD}{a b N:Nat}{d:D}
def P4{c:Type}{k:D}{v:c}{vs:List c}(h:atT ks vs k=Z v):v∈vs:=cu (zc h)
def FK(h:x.Em N):atT (x.put a b d).ks (x.put a b d).ls (iq a b)=Z [d]/\((x.put a b d).pop a b).Em (N+1)/\(x.put a b d).aR=x.aR/\(x.put a b d).bP=x.bP:=by
 unfold HD.put;cases q:atT x.ks x.ls (iq a b)with|some l=>
  refine⟨P0 q,⟨?_,A7 h.n,λl hl=>?_⟩,W,W⟩;·show x.ks.length=((x.ls.set _ _).set _ _).length;rw[d9,d9];exact h.l
  ·have hl:l∈(x.ls.set _ _).set _ _:=hl;rw[Zyg]at hl;exact(List.mem_or_eq_of_mem_set hl).elim (h.e l) id|none=>
  obtain⟨c,f⟩:=PZ (v:=[d]) h.l (PY h.l q);refine⟨c,⟨?_,?_,λl hl=>?_⟩,W,W⟩;·show(x.ks++[_]).length=((x.ls++[_]).set _ _).length;rw[d9,bH,bH,h.l];rfl
  ·show(x.ks++[_]).length<=_;rw[bH];exact xm h.n
  ·have hl:l∈(x.ls++[[d]]).set (eZ (x.ks++[iq a b]) (iq a b)) []:=hl;rw[f,h.l,List.set_append_right _ _ (a9 _),Bc]at hl;rcases bU.mp hl with hl|hl;·exact h.e l hl
   ·exact aZ.mp hl
theorem Em.at(h:x.Em N):x.lt a b=.lst []:=by unfold HD.lt;rw[wX];cases q:atT x.ks x.ls (iq a b)with|none=>rfl|some l=>rw[h.e l (P4 q)];rfl
end
section
variable {x:HD}{g:D}{pp:List D}{k a b i N:Nat}{P da:List D}{cs:List Ch}{c:Ch}{w:Str}{v:D}
def Zvj(p:7<=k)(t:x.aR[a]?=Z i)(u:pp[a]?=Z (.tup P))(y:P[i]?=Z (PS.st be (b:Int) cs).toD)(z:m4 cs w=Z c)(A:0<=c.2.2)(B:gk v=be)(E:fits c.2.1 v=be)(O:c.2.1.dp<=2)(H:x.bP[a]?=Z da)(I:da.length<=1000)(f:x.Em N)(J:N<=1000)(r:Λ):gT (Tab (k+1) .fB) [.int a,.str w,v] (x.hs r g (.lst pp))=Z (.aD,({x.put a b (.tup [.str w,v])with bP:=x.bP.set a (da++[.tup [.str "says",.int b,.str w,v]]),aR:=x.aR.set a c.2.2.toNat}:HD).hs r g (.lst pp)):=by
 show gT (kX (n6 3 6 (Ex (Tab k)))) _ _=_;refine PN (λr=>?_) r;refine P1 ?_ W;show Ex (Tab k) [Z (x.hs r g (.lst pp)).sd,nr (.int a),nr (.str w),nr v,am,am]=_;have h:(x.put a b (.tup [.str w,v])).bP=x.bP/\(x.put a b (.tup [.str w,v])).aR=x.aR:=⟨(FK f).2.2.2,(FK f).2.2.1⟩;have L:Tab k .fc [c.2.1.toD,v]=Z (.bl be):=by rw[Zp6 c.2.1 (n:=k) 'c' v B,E]
 have M:a<x.aR.length:=(bt.mp t).1;refine h_seq (iE (mW (k8 W 'x' (AE (by exact fu p) t u y) W) (FJ _))) (h_seq (m5 (aN (ak (ak W W (aY gj)) W W)) W) (h_seq (iE (bN (aE 'e' (PU (by exact fu p) z)))) (h_seq (m5 (aN (ak W W W)) W) (h_seq (m5 (n8 (aN (aE (ae (ak W W (aY ei)) 'x') L))) W) (h_seq (r':=[Z ((x.put a b (.tup [.str w,v])).hs r g (.lst pp)).sd,nr (.int a),nr (.str w),nr v,nr ((PS.st be (b:Int) cs).toD),nr (cg c)]) ?_ (h_seq (PX (j:=a) (es:=da) W (bN (bc (ae W (ae (ak W W (aY ei)) 'e')))) W W ?_ (small I)) (Zvh (PV (j:=a) (bN (ak W W (aY at2))) W W W ?_) ?_)))))))
 ·unfold HD.put;have hz:(x.hs r g (.lst pp)).C=cH/\dQ 8 (iq a b)=be/\(x.hs r g (.lst pp)).ks.length<aA:=⟨W,AF a b,small (c3 f.n J)⟩;cases q:atT x.ks x.ls (iq a b)with|some l=>
   obtain rfl:=f.e l (P4 q);have m:atT (x.hs r g (.lst pp)).ks (x.hs r g (.lst pp)).cE (iq a b)=Z (.lst []):=by show atT x.ks (x.ls.map D.lst) _=_;rw[wX,q];rfl
   refine(ZqX (s:=x.hs r g (.lst pp)) (d:=.tup [.str w,v]) (kk:=[.int (a:Int),.int (b:Int)]) (es:=[]) W (bN (bc (ae W (ae (ak W W (aY ei)) W)))) hz m (bN (bc 'e')) (by exact mq _)).trans ?_;show Z (aK.aF [Z (bC.put _ _ ((x.ls.map D.lst).set _ (.lst [.tup [.str w,v]]))).sd,_,_,_,_,_])=_;rw[<-uR];rfl|none=>
   have m:atT (x.hs r g (.lst pp)).ks (x.hs r g (.lst pp)).cE (iq a b)=am:=by show atT x.ks (x.ls.map D.lst) _=_;rw[wX,q];rfl
   refine(ZqY (s:=x.hs r g (.lst pp)) (d:=.tup [.str w,v]) (kk:=[.int (a:Int),.int (b:Int)]) W (bN (bc (ae W (ae (ak W W (aY ei)) W)))) hz m (bN (bc 'e'))).trans ?_;show Z (aK.aF [Z (bC.put _ _ (x.ls.map D.lst++[D.lst [.tup [.str w,v]]])).sd,_,_,_,_,_])=_;rw[show x.ls.map D.lst++[D.lst [.tup [.str w,v]]]=(x.ls++[[D.tup [.str w,v]]]).map D.lst by rw[cz];rfl];rfl
 ·show((x.put a b (.tup [.str w,v])).bP.map D.lst)[a]?=_;rw[h.1,bJ,H];rfl
 ·show a<((x.put a b (.tup [.str w,v])).aR.map _).length;rw[h.2,aG];exact M
 ·refine(D9 (mq _)).trans (congrArg Z ?_);show bC.mk r cH g (.lst pp) (((x.put a b (.tup [.str w,v])).aR.map _).set a (.int c.2.2)) (((x.put a b (.tup [.str w,v])).bP.map D.lst).set a (.lst (da++[D.tup [.str "says",.int b,.str w,v]]))) _ _=bC.mk r cH g (.lst pp) ((x.aR.set a c.2.2.toNat).map _) ((x.bP.set a _).map D.lst) _ _;rw[uR,uR,h.1,h.2,jY A];rfl
def ZtL(p:7<=k)(e:x.aR[b]?=Z i)(f:pp[b]?=Z (.tup P))(h:P[i]?=Z (PS.st bi (a:Int) cs).toD)(q:m4 cs w=Z c)(t:0<=c.2.2)(u:x.bP[b]?=Z da)(y:da.length<=1000)(z:atT x.ks x.ls (iq a b)=Z [.tup [.str w,v]])(r:Λ):gT (Tab (k+1) .fC) [.int b] (x.hs r g (.lst pp))=Z (.tup [.int a,.str w,v],({x.pop a b with bP:=x.bP.set b (da++[.tup [.str "hears",.int a,.str w,v]]),aR:=x.aR.set b c.2.2.toNat}:HD).hs r g (.lst pp)):=by
 show gT (kX (n6 1 5 (Ey (Tab k)))) _ _=_;refine PN (λr=>?_) r;refine P1 ?_ W;show Ey (Tab k) [Z (x.hs r g (.lst pp)).sd,nr (.int b),am,am,am]=_;have m:atT (x.hs r g (.lst pp)).ks (x.hs r g (.lst pp)).cE (iq a b)=Z (.lst [.tup [.str w,v]]):=by show atT x.ks (x.ls.map D.lst) _=_;rw[wX,z];rfl
 have A:x.lt a b=.lst [.tup [.str w,v]]:=by unfold HD.lt;rw[show atT x.ks (x.ls.map D.lst) (iq a b)=Z (.lst [.tup [.str w,v]]) from m];rfl
 have B:b<x.aR.length:=(bt.mp e).1;refine h_seq (iE (mW (k8 W 'x' (AE 'c' e f h) W) (FJ _))) (h_seq (m5 (n8 (aN (k8 W 'x' (ZvM (by exact fu p) e f h A (mq _)) W))) W) (h_seq (iE (bN (ak W W (aY ei)))) (h_seq (ZvN (s:=x.hs r g (.lst pp)) (d:=.tup [.str w,v]) (es:=[]) (kk:=[.int (a:Int),.int (b:Int)]) W (bN (bc 'e')) W m ⟨W,AF a b⟩) (h_seq (PX (j:=b) (es:=da) (d:=.tup [.str "hears",.int a,.str w,v]) W (bN (ak (bc 'e') W (P2 (k_ W)))) W W ?_ (small y)) (h_seq (PV (j:=b) (d:=.int c.2.2) (bN (ak (aE (ae W (ae (ak W W (aY gj)) W)) (PU 'c' q)) W (aY at2))) W W W ?_) (Zvi (bN (ak (bc 'x') W (P2 (k_ W)))) ?_))))));·show(x.bP.map D.lst)[b]?=_;rw[bJ,u];rfl
 ·show b<(x.aR.map _).length;rw[aG];exact B
 ·refine(D9 (mq _)).trans (congrArg Z ?_);show bC.mk r cH g (.lst pp) ((x.aR.map _).set b (.int c.2.2)) ((x.bP.map D.lst).set b (.lst (da++[D.tup [.str "hears",.int a,.str w,v]]))) _ ((x.ls.map D.lst).set _ (.lst []))=bC.mk r cH g (.lst pp) ((x.aR.set b c.2.2.toNat).map _) ((x.bP.set b _).map D.lst) _ ((x.ls.set _ []).map D.lst);rw[uR,uR,uR,jY t];rfl
end
def de(m:Int)(Pf:Nat->List PS):List D:=(gd m.toNat).map λh=>.tup ((Pf h).map PS.toD)
def FL{m:Int}{Pf:Nat->List PS}(c:h<m.toNat):(de m Pf)[h]?=Z (.tup ((Pf h).map PS.toD)):=by unfold de;rw[bJ,A8 c];rfl
theorem rn{m:Int}{Pf:Nat->List PS}:(de m Pf).length=m.toNat:=by unfold de;rw[aG,kz]
structure HI(m:Int)(ps:List Pl)(Kf:Nat->List 'u')(x:HD)(i:Int)(ad:List Sw):Prop where
 r:0<=i/\i<ps.length
 go:rm ps 0 ad i
 sl:x.aR.length=m.toNat
 st:∀h,h<m.toNat->∃j G,x.aR[h]?=Z j/\(Kf h)[j]?=Z G/\i∈G
 dl:∀h:Nat,h<m.toNat->x.bP[h]?=Z (iZ ps h 0 ad)
 em:x.Em ad.length
section
variable {m:Int}{ps:List Pl}{Kf:Nat->List 'u'}{Pf:Nat->List PS}{x:HD}{i:Int}{ad:List Sw}
def Zk0(h:Int)(p:Pl)(x:Sw):(m6 h p x).length<=2:=by cases p with|fin=>exact dZ _|say a b cs=>show((if _ then _ else _)++(if _ then _ else _):List D).length<=2;split<;>split<;>exact k_ W
theorem FN(h:Int):∀(ad:List Sw)(i:Int),(iZ ps h i ad).length<=2*ad.length|[],_=>dZ _|x::ad,i=>by have:=Zk0 h (aC ps i) x;have:=FN h ad x.1.2.2;show(m6 h (aC ps i) x++iZ ps h x.1.2.2 ad).length<=2*(ad.length+1);rw[bH];lia
def ZvO{s:Bool}{o:Int}(h:D.tup [.str (rl s),.int o]=.tup [.str "says",.int b]):s=be/\o=b:=by injection h with h;injection h with c h;injection h with d;injection d with d;refine⟨?_,d⟩;cases s with|true=>rfl|false=>injection c with c;exact absurd c 'b'
def ZvP{s:Bool}{o:Int}(h:D.tup [.str (rl s),.int o]=.tup [.str "hears",.int b]):s=bi/\o=b:=by injection h with h;injection h with c h;injection h with d;injection d with d;refine⟨?_,d⟩;cases s with|false=>rfl|true=>injection c with c;exact absurd c 'b'
def Zq0{k:Nat}(J:7<=k)(L:gG m ps)(C:∀h:Nat,h<m.toNat->HP ps h (Kf h) (Pf h))(I:HI m ps Kf x i ad)(hW:ad.length<=400)(ep:aC ps i=.say a b cs){c:Ch}(M:c∈cs)(N:gk v=be)(O:fits c.2.1 v=be):∃x1 x2:HD,(∀r,gT (Tab (k+1) .fB) [.int a,.str c.1,v] (x.hs r g 'B')=Z (.aD,x1.hs r g 'B'))/\(∀r,gT (Tab (k+1) .fC) [.int b] (x1.hs r g 'B')=Z (.tup [.int a,.str c.1,v],x2.hs r g 'B'))/\HI m ps Kf x2 c.2.2 (ad++[(c,v)]):=by
 have E:=rk L i;rw[ep]at E;refine iy E λa0 a1 b0 b1 Q y=>gz y λ_ _ P5 _=>?_;clear E y;obtain⟨a,rfl⟩:=Zyh a0;obtain⟨b,rfl⟩:=Zyh b0;have t:a<m.toNat:=by lia
 have u:b<m.toNat:=by lia
 have w:a≠b:=λe=>Q (congrArg _ e);have s:wW ps i (c,v):=⟨⟨_,_,cs,ep,M⟩,N,O⟩;refine aQ (Az (pF L) s) λk4 k2 k3=>ay (I.st a t) λja Ga e1 e2 e3=>ay (I.st b u) λjb Gb f1 f2 f3=>?_;have f:c∈(aC ps i).bK:=by rw[ep];exact M
 refine aS ((C a t).tu ja Ga e2 i e3 (by unfold aB;rw[ep];show((a:Int)==a||(b:Int)==a)=be;rw[beq_self_eq_true];rfl)) λsa oa ca p1 T p3=>aS ((C b u).tu jb Gb f2 i f3 (by unfold aB;rw[ep];show((a:Int)==b||(b:Int)==b)=be;rw[beq_self_eq_true,Zyi])) λsb ob cb q1 U q3=>?_;have A:((a:Int)==(b:Int))=bi:=beq_eq_false_iff_ne.mpr Q;rw[ep]at T U;obtain⟨rfl,rfl⟩:=ZvO (T.symm.trans (by show(if((a:Int)==a||(b:Int)==a)=be then cy a a b else .aD)=.tup [.str "says",.int (b:Int)];rw[beq_self_eq_true,ZwD,if_pos W];unfold cy;rw[beq_self_eq_true,if_pos W]));obtain⟨rfl,rfl⟩:=ZvP (U.symm.trans (by show(if((a:Int)==b||(b:Int)==b)=be then cy b a b else .aD)=.tup [.str "hears",.int (a:Int)];rw[beq_self_eq_true,Zyi,if_pos W];unfold cy;rw[A,if_neg dg]));refine cv (p3 c f) λY G1 t1 t2 t3 t4 t5=>cv (q3 c f) λc2 G2' u1 u2 u3 u4 u5=>?_;have la:=FN (ps:=ps) (a:Int) ad 0;have lb:=FN (ps:=ps) (b:Int) ad 0;refine gz (FK (a:=a) (b:=b) (d:=.tup [.str c.1,v]) I.em) λy1 H y3 y4=>⟨_,_,Zvj J e1 (FL t) (by rw[bJ,p1];rfl) t1 t3 N (t2▸O) (t2▸k3) (I.dl a t) 'c' I.em 'c',ZtL (x:={x.put a b (.tup [.str c.1,v])with bP:=x.bP.set a (iZ ps a 0 ad++[.tup [.str "says",.int b,.str c.1,v]]),aR:=x.aR.set a Y.2.2.toNat}) J (by show(x.aR.set a _)[b]?=_;rw[c4 w];exact f1) (FL u) (by rw[bJ,q1];rfl) u1 u3 (by show(x.bP.set a _)[b]?=_;rw[c4 w];exact I.dl b u) 'c' y1,?_⟩;obtain⟨gg,dd⟩:=PF I.go s;refine⟨k4,gg,?_,λh B=>?_,λh B=>?_,?_⟩;·show((x.aR.set a _).set b _).length=_;rw[d9,d9,I.sl]
 ·show ∃j G,((x.aR.set a Y.2.2.toNat).set b c2.2.2.toNat)[h]?=Z j/\_;by_cases p:b=h;·subst p;exact⟨_,_,gq (by rw[d9,I.sl];exact u),u4,u5⟩
  ·rw[c4 p];by_cases q:a=h;·subst q;exact⟨_,_,gq (by rw[I.sl];exact t),t4,t5⟩
   ·rw[c4 q];refine ay (I.st h B) λj G w1 w2 w3=>⟨j,G,w1,w2,(C h B).cl j G w2 i w3 ?_ c f⟩
    unfold aB;rw[ep];show((a:Int)==h||(b:Int)==h)=bi;rw[show((a:Int)==(h:Int))=bi from beq_eq_false_iff_ne.mpr λz=>q (Hb z),show((b:Int)==(h:Int))=bi from beq_eq_false_iff_ne.mpr λz=>p (Hb z)];rfl
 ·show((x.bP.set a _).set b _)[h]?=_;have dl:x.bP.length=x.bP.length:=rfl;rw[dd h,ep];show _=Z (iZ ps h 0 ad++((if((a:Int)==h)=be then [D.tup [.str "says",.int b,.str c.1,v]]else [])++(if((b:Int)==h)=be then [D.tup [.str "hears",.int a,.str c.1,v]]else [])));by_cases p:b=h
  ·subst p;rw[gq (by rw[d9];exact(bt.mp (I.dl b u)).1),A,beq_self_eq_true];rfl
  ·rw[c4 p,show((b:Int)==(h:Int))=bi from beq_eq_false_iff_ne.mpr λz=>p (Hb z)];by_cases q:a=h
   ·subst q;rw[gq (bt.mp (I.dl a t)).1,beq_self_eq_true];rfl
   ·rw[c4 q,I.dl h B,show((a:Int)==(h:Int))=bi from beq_eq_false_iff_ne.mpr λz=>q (Hb z)];show _=Z (iZ ps h 0 ad++[]);rw[eS]
 ·rw[bH];exact⟨H.l,H.n,H.e⟩
noncomputable def pe(m:Int):HD:=⟨lx m.toNat 0,lx m.toNat [],[],[]⟩
def ZvQ(d:gG m ps)(e:∀h:Nat,h<m.toNat->HP ps h (Kf h) (Pf h)):HI m ps Kf (pe m) 0 []:=by
 refine⟨⟨uS _,by have:=d.2.2.1;lia⟩,W,ZxD,λh c=>?_,λh c=>?_,⟨W,a9 _,λl f=>nomatch f⟩⟩;·exact ax ((e h c).z) λG g z2=>⟨0,G,by show(lx m.toNat 0)[h]?=_;rw[xu,if_pos c],g,z2⟩
 ·show(lx m.toNat ([]:List D))[h]?=_;rw[xu,if_pos c];rfl
def ZtM{n:Nat}(hn:3<=n)(d:gG m ps)(f:∀h:Nat,h<m.toNat->HP ps h (Kf h) (Pf h))(I:HI m ps Kf x i ad)(t:ad.length<=400)(ep:aC ps i=.fin):Tab n .fF [x.ob g 'B']=Z (.bl be):=by refine ZtI hn (by rw[rn];have:=d.2.1;lia) (by rw[<-I.em.l];have:=I.em.n;lia) I.em.e λh c=>?_;rw[rn]at c;exact ay (I.st h c) λj G p q r=>⟨j,_,p,FL c,by rw[bJ,(f h c).en j G q i r ep];rfl⟩
end
theorem FO:∀(K:Kd){v:D}{n:Nat},fits K v=be->K.dp+1<=n->pT n v=be:=by intro K;induction K with
 |none=>intro v n h hn;obtain⟨j,rfl,_⟩:=bB (c:=0) hn;cases v<;>first|rfl|injection h
 |num lo p=>intro v n h hn;obtain⟨j,rfl,_⟩:=bB (c:=0) hn;cases v<;>first|rfl|injection h
 |name ns=>intro v n h hn;obtain⟨j,rfl,_⟩:=bB (c:=0) hn;cases v<;>first|rfl|injection h
 |pair a b d e=>intro v n h hn;have g:(Kd.pair a b).dp=max a.dp b.dp+1:=rfl;obtain⟨j,rfl,f⟩:=bB (n:=n) (c:=max a.dp b.dp+1) 'c';cases v with
  |tup xs=>match xs,h with|[x,y],h=>rw[fits,cV]at h;show([x,y].all (pT j))=be;rw[cW,cW,d h.1 'c',e h.2 'c'];rfl|[],h=>injection h|[_],h=>injection h|_::_::_::_,h=>injection h
  |_=>injection h
 |row a m d=>intro v n h hn;have g:(Kd.row a m).dp=a.dp+1:=rfl;obtain⟨j,rfl,f⟩:=bB (n:=n) (c:=a.dp+1) 'c';cases v with|tup xs=>rw[fits,cV,wy,hY]at h;exact hY.mpr λy i=>d (h.2 y i) (by exact f)|_=>injection h
def B4(h:pT 64 d=be):cY 64 d d=Z be:=by obtain⟨b,e,q⟩:=tU 64 d d h h;rw[e,q.mpr W]
section
variable {m:Int}{ps:List Pl}{Pf:Nat->List PS}{x:HD}{i:Int}{ad:List Sw}
theorem P6(c:G2 m ps)(h:Int):∀(ad:List Sw){i j:Int},rm ps i ad j->∀d∈iZ ps h i ad,pT 63 d=be
 |[],_,_,_,_,hd=>nomatch hd|x::ad,i,j,⟨s,g⟩,d,hd=>by
  rcases bU.mp hd with hd|hd
  ·have p:pT 62 x.2=be:=FO x.1.2.1 s.f (by have:=(Az c s).2.2;lia);refine eM s.s λa b cs e _=>?_;rw[e]at hd;have t:∀(t:Str)(o:Int),pT 63 (.tup [.str t,.int o,.str x.1.1,x.2])=be:=λt o=>by show([D.str t,.int o,.str x.1.1,x.2].all (pT 62))=be;rw[cW,cW,cW,cW,p];rfl
   rcases bU.mp hd with hd|hd
   ·split at hd;·rw[aZ.mp hd];exact t _ _
    ·cases hd
   ·split at hd;·rw[aZ.mp hd];exact t _ _
    ·cases hd
  ·exact P6 c h ad g d hd
def P7{ks:List Str}(e:g c=Z (.obj cH ks vs))(h:(ks.zip vs).lookup f=Z d):hD cH f g c=Z d:=by unfold hD;rw[e];show(if cH=cH then(ks.zip vs).lookup f else am)=_;rw[if_pos W];exact h
theorem P8{y:D}{tl:ai}:∀(ds:List D)(o:Option D),cn (gN 0) (λ_=>Z be) (cC y) (o::tl) ds=Z (lx ds.length y)|[],_=>rfl|d::ds,o=>jr (ρ':=Z d::tl) W W W (P8 ds _)
theorem P9{d:D}(h:b9 d=be):∀n,cf (lx n d)=be|0=>rfl|n+1=>by rw[List.replicate_succ];show(b9 d&&cf _)=be;rw[h,P9 h n];rfl
def ZmU:cf (de m Pf)=be:=k7 (λh=>by show cf _=be;exact k7 FJ _) _
def ZtO{k:Nat}(r:0<=m/\m<=4)(e:∀h:Nat,h<m.toNat->Tab k .fv [aT m ps,.int h]=Z (.tup ((Pf h).map PS.toD))):mU (Tab (k+2) .gb) 'q'=Z (de m Pf,(pe m).aR.map (λ(i:Nat)=>.int i),(pe m).bP.map .lst):=by show mU (wq (zz (Tab k))) _=_;rw[Mv];have hr:(cq 0 m.toNat).length<aA:=small (by rw[k6,aG,kz];lia);have f:(de m Pf).length<aA:=small (by rw[rn];lia);have j:ez [am,Z 1] (dm (ag [ab ar (aa 1) 'h'])) (gN 0) (λ_=>Z be) (aw (Tab k .fv) (ag [aa 1,aa 0])) [Z (.obj cH ["grammar"] [aT m ps]),Z 'q']=Z (de m Pf):=qX (kZ (ak W W (aY gj)) 'c' 'c') hr (by rw[k6];exact wL (g:=λ(i:Nat)=>D.int (i:Int)) (h:=λh=>D.tup ((Pf h).map PS.toD)) _ am λh p=>aE 'e' (e h (rP.mp p)));have d:∀(y:D)(c:ai),hD cH "parts" (aa 0) c=Z 'B'->ez [am] (dN (hD cH "parts" (aa 0))) (gN 0) (λ_=>Z be) (cC y) c=Z (lx m.toNat y):=λy c q=>qX (kg q W) f (by rw[show nJ [am] c=[am] from W,P8,rn]);unfold zz D_;rw[j,bb,d _ _ (P7 W W),bb,d _ _ (P7 W W),bb,if_pos ⟨ZmU,P9 W _⟩];unfold pe;rw[Zyj,Zyj];rfl
def ZvR{i:Nat}{C:Λ}{F:D->Option iS}{fo:Zaj}{u:Zal}{c:aj}{g:D}{z:iS}(e:fo c=Z g)(f:F g=Z z)(h:c.all lW=be)(j:∀r,u (c.set i (Z (wj r C g z).sd))=Z (.ret d)):qP i C F fo u c=Z (.ret d):=by unfold qP;rw[e,bb,f,bb,if_pos h];exact Zj4 j
def ZvS{i:Nat}{h c:List Zaj}{q F2:HF}{fv:Zaj}{j e f:aj}{s g p:bC}{qO nT:List D}{d:D}(t:gx i j=Z s)(u:kT h j=Z qO)(v:q qO s=Z (.aD,g))(w:j.set i (Z g.sd)=e)(y:kT c e=Z nT)(z:F2 nT g=Z (d,p))(A:e.set i (Z p.sd)=f)(B:fv f=Z d)(E:cY 64 d d=Z be)(H:(s.C=cH/\g.C=cH)/\g.r=s.r/\p.r=g.r):tO i cH h q c F2 fv j=Z (.aF f):=by subst w A;unfold tO;rw[t,bb,u,bb,v];show(kT c _).bind _=_;rw[y,bb,z,bb];show(fv _).bind _=_;rw[B,bb];show(cY 64 d d).bind _=_;rw[E,bb,if_pos ⟨W,H⟩]
end
def AG(k:Nat):Zal:=cK (cB (ab (bg 64) (ab ar (ab ar (ab ar (aa 1) 'a') (aa 5)) 'h') (cC (.str "say")))) (aI (lS (vH (jg (ab ar (ab ar (aa 1) 'a') (aa 5)) (eC 'a') (eC 'z'))) (ic 2 (cG (goN 8) (cG (goN 9) (ib))))) (aI (lS (vH (ab ar (ab ar (ab ar (ab ar (aa 1) 'a') (aa 5)) 'z') (aw (Tab k .fK) (ag [aa 7,cC (.int 9817),aw cS (ag [ab ar (ab ar (ab ar (aa 1) 'a') (aa 5)) 'z'])])))) (ic 3 (cG (goN 10) (cG (goN 11) (cG (goN 12) (ib)))))) (aI (bE 13 (vH (aw (Tab k .fV) (ag [aa 11,aa 7])))) (aI (tO 4 cH [vH (aa 8),vH (aa 10),vH (aa 13)] (gT (Tab k .fB)) [vH (aa 9)] (gT (Tab k .fC)) (vH (aH (ag [aa 8,aa 10,aa 13])))) (aI (bE 6 (vH (ab jO (aa 6) (aH (ag [aH (ag [aa 10,aa 13])]))))) (bE 5 (vH (aa 12)))))))) (cZ)
def FP(k:Nat):Zal:=aI (cK (cB (ab (eU 64) (dR cH "done" (Tab k .fE) (aa 4) (ag [aa 14])) (aw (Tab k .fZ) (ag [aa 1,aa 14,aa 6])))) (eW (cC (.bl bi))) (cZ)) (cK (vP (d2 [am,Z 14,Z 4] (dm (ag [aa 3])) (gN 0) (cB (ab (eU 64) (dR cH "under_way" (Tab k .fD) (aa 2) (ag [aa 1,aa 0])) (aH (ag [])))) (aa 0))) (eW (cC (.bl bi))) (cZ))
section
variable {m:Int}{ps:List Pl}{Kf:Nat->List 'u'}{Pf:Nat->List PS}{k:Nat}
theorem FR(M:8<=k)(N:gG m ps)(T:∀h:Nat,h<m.toNat->HP ps h (Kf h) (Pf h)){z0 z2 z3 zE:Option SD}{r:Λ}:∀(E:List Int){x:HD}{i:Int}{ad:List Sw}(H e j q t w A:Option SD),HI m ps Kf x i ad->ad.length+E.length<=64->∃(O:HD)(Q:Int)(L:List Sw)(U Y p9 pA pB pC pD:Option SD),HI m ps Kf O Q L/\L.length<=64/\c9 (goN 7) (AG k) (E.map .int) [z0,nr 'q',z2,z3,Z (x.hs r 'q' 'B').sd,nr (.int i),nr (.tup (ad.map wD)),H,e,j,q,t,w,A,zE]=Z (.aF [z0,nr 'q',z2,z3,Z (O.hs r 'q' 'B').sd,nr (.int Q),nr (.tup (L.map wD)),U,Y,p9,pA,pB,pC,pD,zE])
 |[],x,i,ad,H,e,j,q,t,w,A,I,hl=>⟨x,i,ad,H,e,j,q,t,w,A,I,hl,W⟩|c0::E,x,i,ad,H,e,j,q,t,w,A,I,hl=>by rw[bz]at hl;have q8:=kf (m:=m) I.r.1 I.r.2;have B:∀{ρ:ai},aa 1 ρ=Z 'q'->aa 5 ρ=Z (.int i)->ab ar (ab ar (aa 1) 'a') (aa 5) ρ=Z (aC ps i).toD:=λg1 g2=>ak (ak g1 W (aY ei)) g2 (aY q8);rw[bG];unfold c9;rw[show goN 7 (.int c0) [z0,nr 'q',z2,z3,Z (x.hs r 'q' 'B').sd,nr (.int i),nr (.tup (ad.map wD)),H,e,j,q,t,w,A,zE]=Z [z0,nr 'q',z2,z3,Z (x.hs r 'q' 'B').sd,nr (.int i),nr (.tup (ad.map wD)),nr (.int c0),e,j,q,t,w,A,zE] from W,bb];cases ep:aC ps i with
  |fin=>rw[ep]at B;rw[show AG k [z0,nr 'q',z2,z3,Z (x.hs r 'q' 'B').sd,nr (.int i),nr (.tup (ad.map wD)),nr (.int c0),e,j,q,t,w,A,zE]=Z (.aF _) from m5 (aN (ak (ak (B W W) W (aY gj)) W W)) W];exact FR M N T E _ _ _ _ _ _ _ I 'c'|say a b cs=>
   rw[ep]at B;have hp:=rk N i;rw[ep]at hp;refine iy hp λ_ _ _ _ _ z=>gz z λn1 _ P5 _=>?_;clear hp z;have m1:=ej (n:=k) (by exact fu M) (c:=c0) (p:=9817) (m:=(cs.length:Int)) 'b' 'c';have b1:=e_ (c:=c0) (p:=9817) (m:=(cs.length:Int)) 'c';have b2:=f9 (c:=c0) (p:=9817) (m:=(cs.length:Int)) 'c';have hi:(mix c0 9817 (cs.length:Int)).toNat<cs.length:=by lia
   have ha:=pq (xs:=cs.map cg) (i:=(mix c0 9817 (cs.length:Int)).toNat) (by rw[aG];exact hi);rw[jY b1,G4]at ha;have hc:cs[(mix c0 9817 (cs.length:Int)).toNat]∈cs:=Rl hi;generalize cs[(mix c0 9817 (cs.length:Int)).toNat]=c at ha hc;refine gz (P5 c hc) λ_ w2 w3 _=>aJ (ZmR c.2.1 (n:=k) c0 (tT w2) 'c') λv v1 v2 v3=>ax (bB (c:=7) M) λk' ek oV=>?_;have C:=Zq0 (k:=k') oV N T I 'c' ep hc v2 v3 (g:=aT m ps);rw[<-ek]at C;refine ay C λx1 x2 s1 s2 I'=>?_;clear C;have hv:pT 62 v=be:=FO c.2.1 v3 'c';have heq:cY 64 (.tup [.int a,.str c.1,v]) (.tup [.int a,.str c.1,v])=Z be:=B4 (by show([D.int a,.str c.1,v].all (pT 63))=be;rw[cW,cW,cW,FO c.2.1 v3 (n:=63) 'c'];rfl);refine aU (FR M N T (z0:=z0) (z2:=z2) (z3:=z3) (zE:=zE) (r:=r) E (nr (.int c0)) (nr (.int a)) (nr (.int b)) (nr (.str c.1)) (nr c.2.1.toD) (nr (.int c.2.2)) (nr v) I' (by rw[bH,bz,lz];lia)) λO Q L z=>aU z λU Y p9 u=>aU u λpA pB pC y=>aJ y λpD J jl je=>?_;clear z u y;refine⟨O,Q,L,U,Y,p9,pA,pB,pC,pD,J,jl,?_⟩;rw[show AG k [z0,nr 'q',z2,z3,Z (x.hs r 'q' 'B').sd,nr (.int i),nr (.tup (ad.map wD)),nr (.int c0),e,j,q,t,w,A,zE]=Z (.aF [z0,nr 'q',z2,z3,Z (x2.hs r 'q' 'B').sd,nr (.int c.2.2),nr (.tup ((ad++[(c,v)]).map wD)),nr (.int c0),nr (.int a),nr (.int b),nr (.str c.1),nr c.2.1.toD,nr (.int c.2.2),nr v,zE]) from ?_];·exact je
   have u1:∀{r r':aj}{d:D}{f:Zaj}{g:Zak},f r=Z d->g d r=Z r'->lS f g r=Z (.aF r'):=λh1 h2=>by unfold lS;rw[h1,bb,h2];rfl
   refine Ay (aN (ak (ak (B W W) W (aY gj)) W W)) (gJ (u1 (d:=.tup [.int a,.int b]) (bN (qY (B W W) (ju W) (ju W) (wC.trans W))) W) (gJ (u1 (d:=cg c) (bN (ak (ak (B W W) W (aY jS)) (aE (ae W (ae W (ae (aE (ae (ak (B W W) W (aY jS)) W) W) W))) (by rw[aG];exact m1)) (aY ha))) W) (gJ (iE (bN (aE 'e' v1))) (gJ (ZvS (s:=x.hs r 'q' 'B') (qO:=[.int a,.str c.1,v]) (nT:=[.int b]) (d:=.tup [.int a,.str c.1,v]) W W (s1 r) W W (s2 r) W (bN (bc (ae W 'e'))) heq ⟨⟨W,W⟩,W,W⟩) (gJ (iE (bN (ak W (bc (ae (bc 'e') W)) (E4 (by rw[aG,bz,lz];lia))))) ((iE (bN W)).trans ?_))))));rw[cz];rfl
theorem P_(e:5<=k)(d:gG m ps){x:HD}{i:Int}{ad:List Sw}(I:HI m ps Kf x i ad)(v:ad.length<=64){z0 z2 z5 z7 z8 z9 zA zB zC zD:Option SD}{r:Λ}:∀(hs:List Nat)(o:Option SD),(∀h∈hs,h<m.toNat)->∃f,c9 (goN 14) (FP k) (hs.map λ(h:Nat)=>D.int (h:Int)) [z0,nr 'q',z2,nr (.int m),Z (x.hs r 'q' 'B').sd,z5,nr (.tup (ad.map wD)),z7,z8,z9,zA,zB,zC,zD,o]=Z (.aF [z0,nr 'q',z2,nr (.int m),Z (x.hs r 'q' 'B').sd,z5,nr (.tup (ad.map wD)),z7,z8,z9,zA,zB,zC,zD,f])
 |[],o,_=>⟨o,W⟩|h::hs,o,w=>by
  obtain⟨f,A⟩:=P_ e d I v (z0:=z0) (z2:=z2) (z5:=z5) (z7:=z7) (z8:=z8) (z9:=z9) (zA:=zA) (zB:=zB) (zC:=zC) (zD:=zD) (r:=r) hs (nr (.int h)) λy c=>w y (.tail _ c);refine⟨f,?_⟩;have p:=w h (.head _);have J:=d.2.1;have B:=ZtH (x:=x) (g:=aT m ps) (pp:=de m Pf) (n:=k) (by exact fu e) (I.dl h p) (by rw[rn];exact p);have C:=ZqU (n:=k) e (pF d) (h:=(h:Int)) I.go (by exact fo v);have q:eU 64 (.tup (iZ ps h 0 ad)) (.tup (iZ ps h 0 ad))=Z (.bl bi):=Zqd (hY.mpr (P6 (pF d) h ad I.go));have E:∀(l:List Nat)(t:Option D),(∀y∈l,y<m.toNat)->cn (gN 0) (cB (ab (eU 64) (dR cH "under_way" (Tab k .fD) (aa 2) (ag [aa 1,aa 0])) (aH (ag [])))) (aa 0) [t,Z (.int h),Z (x.ob 'q' 'B')] (l.map λ(y:Nat)=>D.int (y:Int))=Z []:=λl=>by induction l with
   |nil=>intro _ _;rfl|cons y l u=>intro t c;have H:=ZqW (x:=x) (g:=aT m ps) (pp:=de m Pf) (n:=k) (a:=h) (h:=y) 'c' (by rw[rn];exact p) (by rw[rn];exact c y (.head _)) (Em.at I.em);rw[bG];unfold cn;rw[show gN 0 (.int (y:Int)) [t,Z (.int h),Z (x.ob 'q' 'B')]=Z [Z (.int (y:Int)),Z (.int h),Z (x.ob 'q' 'B')] from W,bb,show cB (ab (eU 64) (dR cH "under_way" (Tab k .fD) (aa 2) (ag [aa 1,aa 0])) (aH (ag []))) [Z (.int (y:Int)),Z (.int h),Z (x.ob 'q' 'B')]=Z bi from aN (ak (k8 W 'e' H W) (bc W) W)];exact u _ λz hz=>c z (.tail _ hz)
  rw[bG];unfold c9;rw[show goN 14 (.int (h:Int)) [z0,nr 'q',z2,nr (.int m),Z (x.hs r 'q' 'B').sd,z5,nr (.tup (ad.map wD)),z7,z8,z9,zA,zB,zC,zD,o]=Z [z0,nr 'q',z2,nr (.int m),Z (x.hs r 'q' 'B').sd,z5,nr (.tup (ad.map wD)),z7,z8,z9,zA,zB,zC,zD,nr (.int h)] from W,bb,show FP k [z0,nr 'q',z2,nr (.int m),Z (x.hs r 'q' 'B').sd,z5,nr (.tup (ad.map wD)),z7,z8,z9,zA,zB,zC,zD,nr (.int h)]=Z (.aF _) from gJ (m5 (aN (ak (k8 W 'x' B W) (aE (ae W 'e') C) q)) W) (m5 (ZuN (iT (cap:=[am,Z 14,Z 4]) (out:=[]) (kZ (j:=m) W 'm' 'c') (small (by rw[k6,aG,kz];lia)) (by rw[k6];exact E _ am λy c=>rP.mp c)) W) W)];exact A
end
def Qa(t:9<=q)(d:gG m ps)(U:BK 13 43 ps)(Y:∀h:Nat,(h:Int)<m->∀x y,m2 ps h x y->¬iX q ps h x y){ns:List Int}(hns:ns.length<=63):(aI (bE 3 (vH (ab ar (aa 1) 'h'))) (qP 4 cH (mU (Tab (q+5) .gb)) (vH (aa 1)) (aI (bE 5 (vH 'h')) (aI (bE 6 (vH (aH (ag [])))) (aI (eX (dN (kO (aa 0) (eC (cC (.int 5))) (eC (cC (.int 35))))) (goN 7) (AG (q+5))) (aI (eX (dm (ag [aa 3])) (goN 14) (FP (q+5))) (eW (qo (ab (eU 64) (ab ar (ab ar (aa 1) 'a') (aa 5)) (aH (ag [cC (.str "end")]))) (ab lN (dR cH "is_over" (Tab (q+5) .fF) (aa 4) nF) (cC (.bl be))))))))))) [nr (.bI ns),nr 'q',nr e,am,am,am,am,am,am,am,am,am,am,am,am]=Z (.ret (.bl be)):=by
 have p:=d.1;have h4:=d.2.1;have one:∀h:Nat,h<m.toNat->∃x:List 'u'×List PS,HP ps h x.1 x.2/\Tab (q+3) .fv [aT m ps,.int h]=Z (.tup (x.2.map PS.toD)):=λh A=>by exact ay (ZtF (q:=q) (by exact fu t) d U (h:=h) (Y h 'm')) λKs P a _ b=>⟨(Ks,P),a,b⟩
 generalize hf:(λh:Nat=>if z:h<m.toNat then Ha (one h z)else([],[]))=f;have sp:=λ(h:Nat)(z:h<m.toNat)=>Ba (one h z);have fe:∀h (z:h<m.toNat),f h=Ha (one h z):=λh z=>by rw[<-hf];exact dif_pos z
 have g:∀h:Nat,h<m.toNat->HP ps h (f h).1 (f h).2:=λh z=>by rw[fe h z];exact(sp h z).1
 have hT:=ZtO (k:=q+3) (m:=m) (ps:=ps) (Pf:=λh=>(f h).2) ⟨by lia,h4⟩ λh z=>by rw[fe h z];exact(sp h z).2
 refine gJ (iE (bN (ak W W (aY gj)))) (ZvR (bN W) hT W λr=>?_);show aI _ _ [nr (.bI ns),nr 'q',nr e,nr (.int m),Z ((pe m).hs r 'q' (.lst (de m λh=>(f h).2))).sd,am,am,am,am,am,am,am,am,am,am]=_;have hc:(cc ns (Z 5) (Z 35)).length<=63:=by unfold cc;rw[ly,AY];lia
 refine aU (FR (k:=q+5) 'c' d g (z0:=nr (.bI ns)) (z2:=nr e) (z3:=nr (.int m)) (zE:=am) (r:=r) (cc ns (Z 5) (Z 35)) am am am am am am am (ZvQ d g) (by show 0+_<=_;lia)) λx i ad v=>aU v λB C E w=>aU w λH I L u=>aJ u λM J N je=>?_;obtain⟨o,le⟩:=P_ (k:=q+5) (Pf:=λh=>(f h).2) (by exact gW ..) d J N (z0:=nr (.bI ns)) (z2:=nr e) (z5:=nr (.int i)) (z7:=B) (z8:=C) (z9:=E) (zA:=H) (zB:=I) (zC:=L) (zD:=M) (r:=r) (gd m.toNat) am λh A=>rP.mp A;have c:=kf (m:=m) J.r.1 J.r.2;have O:∀{Q:Zag}{T:Zak}{gb:Zal}{ds:List D}{r:aj}{o:aK},Q (pv r)=Z ds->c9 T gb ds r=Z o->eX Q T gb r=Z o:=λh1 p=>by unfold eX;rw[h1];exact p
 refine gJ (iE (bN W)) (gJ (iE (bN (bc W))) (gJ (O (kg (tX W (ju W) (ju W) W) W) je) (gJ (O (kZ (j:=m) W 'c' 'c') (by rw[k6];exact le)) (EK ?_))));cases ep:aC ps i with|fin=>rw[ep]at c;exact MX (x:=bi) (y:=be) (ak (ak (ak W W (aY ei)) W (aY c)) (bc 'x') W) (ak (k8 W W (ZtM (n:=q+5) (by exact gW ..) d g J (by exact fo N) ep) W) W W)|say a b cs=>rw[ep]at c;have:ab (eU 64) (ab ar (ab ar (aa 1) 'a') (aa 5)) (aH (ag [cC (.str "end")])) (fz [nr (.bI ns),nr 'q',nr e,nr (.int m),Z (x.hs r 'q' (.lst (de m λh=>(f h).2))).sd,nr (.int i),nr (.tup (ad.map wD)),B,C,E,H,I,L,M,o])=Z (.bl be):=ak (ak (ak W W (aY ei)) W (aY c)) (bc 'x') W;unfold qo;rw[aN this];rfl
def ZvT{n:Nat}(hn:20<=n)(ns:List Int)(d:ns.length<=63):Tab n .ga [.bI ns]=Z (.bl be):=by obtain⟨q,rfl⟩:∃q,n=q+6:=⟨n-6,by lia⟩;refine bV (ZqR (n:=q+5) 'c' ns (most:=3) 'b' (by exact uS _)) λm ps e t u w=>?_;obtain⟨A,j⟩:=EY (n:=q+5) (by exact gW ..) (ns:=ns) (i:=4) 'b';refine bh (Zmv (n:=q+5) (by exact gW ..) t u A) λB C p E _=>?_;obtain⟨b,v,H⟩:=Ztb (k:=q+2) 'c' (pF p);refine PD (n:=15) (ds:=[.bI ns]) (g:=MR (Tab (q+5))) ?_ W;refine gJ (iE (bN (aE 'e' e))) (gJ (iE (bN (aE (ae W (ae (aE 'e' j) W)) C))) ?_);cases b with|true=>exact gJ (Ay (aN (aE 'x' v)) (iE (bN W))) (Qa 'c' p E (λh r x y c f=>(H.mp W) h r x y c (ZtC p 'c' (by exact gW ..) f)) d)|false=>exact gJ (m5 (aN (aE 'x' v)) W) (Qa 'c' t (u.mono (by exact jC _) (by exact jC _)) (λh r x y c f=>w h (Bk h) r q 'c' x y (ZuV .z c) f) d)
end PM
namespace jV
open PySem PySem.Spec PyProof.Rows L2 DL PT
def mem(j:Nat):Stmt->Stmt|.ClassDef (body:=b) .. =>b.getD j (.Pass ⟨0,0,0,0⟩)|s=>s
def top(i:Nat):Stmt:=if i<1000 then PySem.Challenge.pw_parleyturn_k11_whole_each_way_can_be_gon.main.body.getD i (.Pass ⟨0,0,0,0⟩)else mem (i-1000) (PySem.Challenge.pw_parleyturn_k11_whole_each_way_can_be_gon.main.body.getD 31 (.Pass ⟨0,0,0,0⟩))
structure GF(K:au)(mg:Zac):Prop where
 ZvU:mg "all"=am
 ZvV:mg "any"=am
 ZvW:mg "bool"=am
 ZvX:mg "enumerate"=am
 FT:mg "int"=am
 AH:mg "isinstance"=am
 FU:mg "len"=am
 ZvY:mg "list"=am
 ZvZ:mg "range"=am
 Zv0:mg "reversed"=am
 FV:mg "sorted"=am
 Zv1:mg "str"=am
 AJ:mg "tuple"=am
 jR:xV K mg "END" jR
 cls:eO K cH
 Qb:gh K cH "grammar"
 AK:gh K cH "parts"
 uh:gh K cH "states"
 ui:gh K cH "doings"
 uj:gh K cH "letters"
noncomputable def ix:Fn->Nat|.fa=>5|.fb=>6|.fc=>7|.fd=>8|.fe=>9|.ff=>12|.fg=>14|.fh=>15|.fi=>16|.fj=>17|.fk=>18|.fm=>19|.fo=>20|.fp=>21|.fq=>22|.fr=>23|.ft=>24|.fu=>25|.fv=>26|.fw=>27|.fx=>28|.fy=>30|.fA=>1000|.fB=>1001|.fC=>1002|.fD=>1004|.fE=>1005|.fF=>1007|.fG=>1008|.fH=>1009|.fI=>1010|.fJ=>33|.fK=>34|.fL=>35|.fM=>36|.fN=>37|.fO=>38|.fP=>39|.fQ=>40|.fR=>41|.fS=>42|.fT=>43|.fU=>44|.fV=>45|.fW=>46|.fX=>47|.fY=>49|.fZ=>51|.ga=>52|.gb=>1000
def km(q:Fn):List Str:=match q with|.fk=>["places","hand","sources","number","place","choice","ahead","waiting"]|.fR=>["_law_cell_here","_law_start","_law_many","_law_goals","_law_one","_law_others","_law_some","_law_rows","_law_choices","_law_j","_law_said_here","_law_afters","_law_k"]|_=>(cQ (top (ix q))).names.filterMap λx=>match x.2 with|.local|.cell=>Z x.1|_=>am
def ir(q:Fn):List Str:=(lI (top (ix q))).args.map (·.arg)
def sc:∀q,nq (km q) (ir q) (cQ (top (ix q))):=by intro q;cases q<;>exact⟨W,W,W,by decide+kernel,W,by decide+kernel,by decide+kernel⟩
def xn:Fn->Str|.fA|.gb=>"__init__"|q=>Fn.nm q
def qn:Fn->Str|.fA|.gb=>"Hall.__init__"|.fB=>"Hall.say"|.fC=>"Hall.hear"|.fD=>"Hall.under_way"|.fE=>"Hall.done"|.fF=>"Hall.is_over"|.fG=>"Hall.look_for"|.fH=>"Hall.state_now"|.fI=>"Hall.has_mail"|q=>Fn.nm q
abbrev k9(K:au)(q:Fn)(f:Λ)(fd:dt):Prop:=kG K (xn q) (qn q) (top (ix q)) f fd
def pR(K:au)(c:Zac)(q:Fn)(f:Λ):Prop:=match q with|.fA|.gb=>c "Hall"=Z (.ref cH)/\Mk K cH f|.fB|.fC|.fD|.fE|.fF|.fG|.fH|.fI=>Meth K cH (Fn.nm q) f|_=>c (Fn.nm q)=Z (.ref f)
def jB(K:au)(c:Zac)(k:Nat)(q:Fn):Sp:=match q with|.fw=>tF K (mT (Tab k q))|.fB|.fC=>pj K (gT (Tab k q))|.fA|.gb=>wm K cH (mU (Tab k q))|_=>kJ K (Tab k q)
noncomputable def lv(k:Nat):Fn->Nat|.gb=>k-1|_=>k
abbrev wY(P:a8)(w:World)(K:au)(mg:Zac)(base:Heap)(k:Nat)(q:Fn):Prop:=∃(f:Λ)(fd:dt)(ps:List Str),pR K mg q f/\ma K (.ref f)=be/\i8 K fd ps []/\cP P w K mg base cL (lv k q) f fd ps (jB K mg k q)
structure Al(P:a8)(w:World)(K:au)(mg:Zac)(base:Heap)(k:Nat):Prop where c:∀q,wY P w K mg base k q
structure FF(K:au)(R:Λ->Prop)(x y:Str)(st:Stmt)(ps:List Str):Prop where ex:∃f fd,kG K x y st f fd/\R f/\i8 K fd ps []
abbrev FQ(K:au)(mg:Zac)(q:Fn):Prop:=FF K (pR K mg q) (xn q) (qn q) (top (ix q)) (ir q)
def Zk1{P:a8}{w:World}{K:au}{e:Zac}{base:Heap}{f:Λ}{g:dt}{ps:List Str}{sp:Sp}(d:∀vs H Q E,¬sp vs H Q E):cP P w K e base cL 0 f g ps sp:=⟨λvs H Q E h=>absurd h (d vs H Q E),λA c s H args us vs Q E _ _ _ _ h=>absurd h (d vs H Q E)⟩
section
variable {P:a8}{w:World}{K:au}{mg:Zac}{base:Heap}{k:Nat}
def ZtQ(q:Fn):∀vs H Q E,¬jB K mg 0 q vs H Q E:=by
 have c:∀vs H Q E,¬tF K (mT λ_=>am) vs H Q E:=λvs H Q E z=>aU z λ_ _ _ y=>aS y λ_ _ _ _ _ u=>gz u λ_ _ h _=>by injection h
 have d:∀vs H Q E,¬kJ K (λ_=>am) vs H Q E:=λvs H Q E z=>ay z λ_ _ _ h _=>by injection h
 have e:∀vs H Q E,¬pj K (gT λ_=>am) vs H Q E:=λvs H Q E z=>aU z λ_ _ _ y=>aU y λ_ _ _ u=>bh u λ_ _ _ _ t=>aM t λh _=>by injection h
 have f:∀vs H Q E,¬wm K cH (mU λ_=>am) vs H Q E:=λvs H Q E z=>aU z λ_ _ _ y=>cv y λ_ _ _ _ _ h _=>by injection h
 cases q<;>first|exact d|exact c|exact e|exact f
theorem lv0(q:Fn):lv 0 q=0:=by cases q<;>rfl
def Zvk(A:FQ K mg q):wY P w K mg base 0 q:=ay A.ex λf c F m b=>⟨f,c,_,m,F.kp,b,by rw[lv0];exact Zk1 (ZtQ q)⟩
def cal(A:FQ K mg q)(d:lv (k+1) q=k+1)(ok:∀f c,k9 K q f c->cP P w K mg base cL (k+1) f c (ir q) (jB K mg (k+1) q)):wY P w K mg base (k+1) q:=ay A.ex λf c F m b=>⟨f,c,_,m,F.kp,b,by rw[d];exact ok f c F⟩
def fB(F:k9 K q f e)(i:Tab (k+1) q=cJ np ns g)(j:(ir q).length=np)(hn:(km q).length=ns)(body:∀{f d A c s H E},bA k (A.deeper (iH (qn q) (cQ (top (ix q))) s.heap.objs.size f d))->(km q).Nodup->JB (i_ cL P w K mg base (km q) (qn q) (cQ (top (ix q))) f d A c s H E).j6 (gP (top (ix q))) g):cP P w K mg base cL (k+1) f e (ir q) (kJ K (Tab (k+1) q)):=i▸Xc F (sc q) j hn λd A c s H E hr=>(body hr (sc q).nd).h
def fO(F:k9 K q f e)(h:Tab (k+1) q=eY np ns g)(i:(ir q).length=np)(hn:(km q).length=ns)(body:∀{f d A c s H E},bA k (A.deeper (iH (qn q) (cQ (top (ix q))) s.heap.objs.size f d))->(km q).Nodup->KB (i_ cL P w K mg base (km q) (qn q) (cQ (top (ix q))) f d A c s H E).j6 (gP (top (ix q))) g):cP P w K mg base cL (k+1) f e (ir q) (kJ K (Tab (k+1) q)):=h▸X1 F (sc q) i hn λd A c s H E hr=>body hr (sc q).nd
def fM(F:k9 K q f i)(j:Tab (k+1) q=encM (runM ns g np e))(m:(ir q).length=np+e)(hn:(km q).length=ns)(h:np+e<=ns)(body:∀{f d A c s H E},bA k (A.deeper (iH (qn q) (cQ (top (ix q))) s.heap.objs.size f d))->(km q).Nodup->mP (i_ cL P w K mg base (km q) (qn q) (cQ (top (ix q))) f d A c s H E).j6 (gP (top (ix q))) g):cP P w K mg base cL (k+1) f i (ir q) (tF K (mT (Tab (k+1) q))):=by rw[j,LQ];exact Zw F (sc q) m hn h λd A c s H E hr=>body hr (sc q).nd
def fH(F:k9 K q f i)(j:Tab (k+1) q=kX (n6 np ns g))(m:(ir q).length=np+1)(hn:(km q).length=ns)(e:np+1<=ns)(body:∀{f d A c s H E},bA k (A.deeper (iH (qn q) (cQ (top (ix q))) s.heap.objs.size f d))->(km q).Nodup->tN (i_ cL P w K mg base (km q) (qn q) (cQ (top (ix q))) f d A c s H E).j6 (gP (top (ix q))) g):cP P w K mg base cL (k+1) f i (ir q) (pj K (gT (Tab (k+1) q))):=by rw[j];exact(fnH F (sc q) m hn e λd A c s H E hr=>body hr (sc q).nd).imp λ_ _ _ _ h=>ZpY h
def jq{X:Cx}{fs:List Zaf}(h:Al X.prog X.w X.K X.mg X.base k)(hr:bA k X.A)(d:JA X (e::es) fs (ag fs))(g:pR X.K X.mg q=λf=>X.mg x=Z (.ref f))(i:Gl X x)(j:'f'=bi)(hs:jB X.K X.mg k q=kJ X.K (Tab k q))(m:lv k q=k):JE X 'p' (aw (Tab k q) (ag fs)):=Xm ⟨by have:=h.c q;unfold wY at this;rw[hs,g,m]at this;exact this⟩ hr d i j
def jm{X:Cx}{fs:List Zaj}(h:Al X.prog X.w X.K X.mg X.base k)(hr:bA k X.A)(d:kU X (e::es) fs is)(g:pR X.K X.mg q=λf=>X.mg x=Z (.ref f))(i:Gl X x)(j:'f'=bi)(hs:lv k q=k/\jB X.K X.mg k q=tF X.K (mT (Tab k q))):KM X 'p' is (mT (Tab k q)) fs:=ZD ⟨by have:=h.c q;unfold wY at this;rw[hs.1,hs.2,g]at this;exact this⟩ hr d i j
def jt{X:Cx}{apos:Pos}{o:Expr}{fs:List Zaf}(h:Al X.prog X.w X.K X.mg X.base k)(hr:bA k X.A)(c:eO X.K cH)(j:JE X o g)(p:JA X (e::es) fs (ag fs))(r:∀f,pR X.K X.mg q f->Meth X.K cH m f)(hs:lv k q=k/\jB X.K X.mg k q=kJ X.K (Tab k q))(t:eval 'A' X.env=(do
   let i<-eval o X.env
   standAt apos.atName;let (f,first)<-holding [i] (m7 i m pl)
   pV pos f first (dW pos (bq (e::es) X.env)) (me pos (mf [] X.env)))):JE X 'A' (dR cH m (Tab k q) g (ag fs)):=Zsr ⟨by obtain⟨f,u,ps,a,_,b,d⟩:=h.c q;exact⟨f,u,ps,r f a,b,by rw[hs.1,hs.2]at d;exact d⟩⟩ c hr j p t
def jt0{X:Cx}{apos:Pos}{o:Expr}(h:Al X.prog X.w X.K X.mg X.base k)(hr:bA k X.A)(c:eO X.K cH)(i:JE X o g)(j:∀f,pR X.K X.mg q f->Meth X.K cH m f)(hs:lv k q=k/\jB X.K X.mg k q=kJ X.K (Tab k q))(p:eval (.Call (.Attribute o m apos) ([]) [] pos) X.env=(do
   let e<-eval o X.env
   standAt apos.atName;let (f,first)<-holding [e] (m7 e m pl)
   pV pos f first (dW pos (bq ([]) X.env)) (me pos (mf [] X.env)))):JE X (.Call (.Attribute o m apos) [] [] pos) (dR cH m (Tab k q) g nF):=ZpL ⟨by obtain⟨f,r,ps,a,_,b,d⟩:=h.c q;exact⟨f,r,ps,j f a,b,by rw[hs.1,hs.2]at d;exact d⟩⟩ c hr i p
def jh{X:Cx}{apos:Pos}{fs:List Zaj}(h:Al X.prog X.w X.K X.mg X.base k)(hr:bA k X.A)(c:eO X.K cH)(i:Nat)(r:X.N[i]?=Z x)(t:c6 X.env.scope x)(u:'f'=bi)(g:'i'=bi)(v:kU X (e::es) fs [])(j:iB.contains m=bi)(hs:(∀f,pR X.K X.mg q f=Meth X.K cH m f)/\lv k q=k/\jB X.K X.mg k q=pj X.K (gT (Tab k q)))(y:eval (.Call (.Attribute (.Name x np) m apos) (e::es) [] pos) X.env=(do
   let p<-eval (.Name x np) X.env
   standAt apos.atName;let (f,first)<-holding [p] (m7 p m pl)
   pV pos f first (dW pos (bq (e::es) X.env)) (me pos (mf [] X.env)))):PE X (.Call (.Attribute (.Name x np) m apos) (e::es) [] pos) (zl X.K i cH fs (gT (Tab k q))):=Zmg ⟨by obtain⟨f,z,ps,a,_,b,d⟩:=h.c q;exact⟨f,z,ps,by rw[hs.1]at a;exact a,b,by rw[hs.2.1,hs.2.2]at d;exact d⟩⟩ c hr i r t u g v j y
def jk{X:Cx}{j:Pos}{fo:Zaj}{rest:List Stmt}(h:Al X.prog X.w X.K X.mg X.base k)(hr:bA k X.A)(x:cT X e fo)(m:KB X rest u)(z:X.N.Nodup)(B:X.N[i]?=Z y)(C:Loc X.env.scope y)(E:Gl X "Hall")(hn:cx e=be)(r:(("Hall":Str)==("__debug__":Str))=bi)(hs:d4 (.Call (.Name "Hall" p) [e] [] pos) (Z (.Name y pos')) j.line X.env=pure bi)(J:X.fn y=be\/X.env.scope.names.lookup y=Z .local):KB X (.Assign [.Name y pos'] (.Call (.Name "Hall" p) [e] [] pos) j::rest) (qP i cH (mU (Tab k .gb)) fo u):=by cases k with|zero=>exact⟨λv s Q T H I L=>by obtain⟨U,O,o,R,t,q⟩:=L;refine bS t λg Y t=>?_;injection t⟩|succ k=>exact ZpS i ⟨by obtain⟨f,M,ps,a,_,b,d⟩:=h.c .gb;exact⟨f,M,ps,a.1,a.2,b,d⟩⟩ hr x m z B C E hn r hs J
set_option hygiene false in
local macro_rules
 | `(tactic| exists $l) => `(tactic| (first | ((with_reducible show JE _ _ (d2 _ _ _ _ _)); refine Xo (N' := $l) ?_ (fun _ _ _ _ => have nd : rO ($l : List Str) := 'b'; ⟨?_, ?_, ?_⟩) rfl 'b' rfl 'b' ?_ ?_ ?_ ?_) | ((with_reducible show KS _ _ (eE _ (lZ (ez _ _ _ _ _)))); refine Yn (N' := $l) _ nd ?_ (fun _ _ _ _ => have nd : rO ($l : List Str) := 'b'; ⟨?_, ?_, ?_⟩) ?_ ?_ rfl 'b' rfl 'b' ?_ ?_ ?_ ?_ rfl ?_) | ((with_reducible show KS _ _ (tE _ _)); refine Y7 (N' := $l) _ nd ?_ (fun _ _ _ _ => have nd : rO ($l : List Str) := 'b'; ⟨?_, ?_⟩) ?_ ?_ rfl 'b' rfl 'b' ?_ ?_ ?_ ?_ rfl ?_) | ((with_reducible show JL _ _ (ez _ _ _ _ _)); refine X3 (N' := $l) ?_ (fun _ _ _ _ => have nd : rO ($l : List Str) := 'b'; ⟨?_, ?_, ?_⟩) rfl 'b' rfl 'b' ?_ ?_ ?_ ?_)); (any_goals ((with_reducible show gv _ _ _ _); (repeat' first | exact jD | refine ⟨⟨rfl, ?_, ?_⟩, ?_⟩ | exact .inl rfl | exact .inr rfl); done)); (any_goals ((with_reducible show JG _ _ _); (repeat' first | ((with_reducible show rO _); exact nd) | ((with_reducible first | show Loc _ _ | show _ \/ _); first | exact .inl rfl | exact .inr rfl | exact .inr (.inl rfl)) | ((with_reducible show _ = _); exact rfl) | (with_reducible first | apply vN | apply CY | apply CV | apply CU)); done)))
set_option hygiene false in
local macro_rules
 | `(tactic| ac_rfl) => `(tactic| first | ((with_reducible show ∀ _, _ ∈ _ -> _ /\ _); decide) | ((with_reducible first | show _ = _ | show Gl _ _); first | exact rfl | decide | exact G.ZvX | exact G.ZvY | exact G.ZvZ | exact G.FV) | ((with_reducible first | show Loc _ _ | show c6 _ _ | show _ \/ _); first | exact .inl rfl | exact .inr rfl | exact .inr (.inl rfl) | exact .inr (.inr rfl)) | ((with_reducible show bA _ _); exact hr) | ((with_reducible show rO _); exact nd) | ((with_reducible show _ < _); exact x3 hr) | ((with_reducible show _ <= _); decide) | ((with_reducible show PassesOwn _ _ _ _); exact Zxj) | ((with_reducible first | show JE _ _ (d2 _ _ _ _ _) | show KS _ _ (eE _ (lZ (ez _ _ _ _ _))) | show KS _ _ (tE _ _) | show JL _ _ (ez _ _ _ _ _)); first | exists ["_law_j", "_law_cell_here"] | exists ["_law_j", "_law_starts", "_law_cell_here"] | exists ["_law_k", "_law_kind_here", "_law_cell_here"] | exists ["_law_k", "_law_letters", "_law_cell_here"] | exists ["_law_k", "_law_many", "_law_one", "_law_cell_here"] | exists ["_law_k", "_law_script"] | exists ["_law_k", "_law_start", "_law_j", "_law_many"] | exists ["_law_other", "_law_hand", "_law_hall"] | exists ["_law_part", "_law_kind_here"] | exists ["choice"] | exists ["hand", "grammar"] | exists ["hand", "self"] | exists ["letters"] | exists ["number", "hand", "places"] | exists ["number", "places", "hand"] | exists ["part"] | exists ["place"] | exists ["word", "kind", "number", "nexts"] | exists ["word", "kind", "number", "pair"] | exists ["word", "kinds", "others"]) | ((with_reducible show True); exact trivial) | ((with_reducible show _ ≠ _); decide) | ((with_reducible show jd _ _); repeat' first | exact jD | refine ⟨rfl, ?_⟩) | ((with_reducible show jf _ _); repeat' first | exact jD | refine ⟨.inl rfl, ?_⟩ | refine ⟨.inr (.inl rfl), ?_⟩ | refine ⟨.inr (.inr ⟨_, rfl⟩), ?_⟩))
set_option hygiene false in
local macro_rules
 | `(tactic| exists $a, $b) => `(tactic| first | apply $a | apply $b)
 | `(tactic| exists $a, $b, $l,*) => `(tactic| first | apply $a | exists $b, $l,*)
noncomputable abbrev Qc:List Nat:=[5,6,7,8,9,12,14,15,17,20,21,28,30,1004,1005,1007,1008,1009,1010,33,34,35,36,37,38,39,42,43,45,46,49]
def ok0(G:GF K mg)(h:Al P w K mg base k)(F:k9 K q f c)(z:Qc.contains (ix q)=be):cP P w K mg base cL (k+1) f c (ir q) (jB K mg (k+1) q):=by
 cases q<;>first|exact absurd z 'b'|refine fB F W W W λhr nd=>?_
 all_goals (repeat' first|((with_reducible show JE _ _ (dR _ _ _ _ _));refine jt h hr G.cls ?_ ?_ (λ_ z=>z) ⟨W,W⟩ W)|((with_reducible show JE _ _ (hD _ _ _));first|refine pf G.cls G.AK ?_ W|refine pf G.cls G.uh ?_ W|refine pf G.cls G.uj ?_ W|refine pf G.cls G.ui ?_ W)|((with_reducible show JE _ _ (tP _ _ _));refine Zst (Lo hr) ?_ ?_ ?_ W W W W)|ac_rfl|(with_reducible first|(show JE ..;exists Zip,sP,sS,yu,vM,vK,J5,CP,CT,yt,CQ,J2,Lc,Xh,J4,Xn,Xe,Xf)|(show JA ..;exists sR,sQ)|(show d3 ..;exists C1,C2,Ka,J9,Kb,Kc,J_,C3,Lm,Ll,KO,C4,YW,Xx,Xv)|(show JS ..;exists J7,Xs,J8,Xt,Zsy,Zl_)|(show JT ..;exists Xg,yv,Xl,yw,vL)|(show JG ..;exists vN,CY)|(show JC ..;exists C5,Ke,K4,K3,Xy,Xz,ZuM)|(show JO ..;exists CS,J6)|(show JI ..;exists Zsx,yL,YX,Df)|(show JF ..;exists CZ,C0)|apply Xp|(show JW ..;exists Xk,Xi,w_or,Xj)|(show sO ..;exists CV,CU))|((with_reducible show JE _ _ (aw _ _));first|refine jq h hr ?_ W W W W W|refine qu ?_ G.FU RE ?_ ?_ ?_ ?_|refine yy ?_ G.AJ DL.yj ?_ ?_ ?_ ?_|refine qu ?_ G.FV DL.boot_sorted ?_ ?_ ?_ ?_|refine yy ?_ G.FT DL.Ct ?_ ?_ ?_ ?_|refine qu ?_ G.ZvU DL.boot_all ?_ ?_ ?_ ?_|refine qu ?_ G.ZvV DL.boot_any ?_ ?_ ?_ ?_)|refine yz .bool G.AH G.ZvW DL.WD ?_ ?_ ?_ ?_ ?_ ?_|refine yz .tuple G.AH G.AJ DL.yj ?_ ?_ ?_ ?_ ?_ ?_|refine yz .str G.AH G.Zv1 DL.WE ?_ ?_ ?_ ?_ ?_ ?_|refine yz .int G.AH G.FT DL.Ct ?_ ?_ ?_ ?_ ?_ ?_|refine J0 G.jR ?_ ?_|exists Xq,Xr,J7,J8|exactλ_=>rfl)
noncomputable abbrev Qd:List Nat:=[16,18,19,22,23,24,25,26,27,40,41,44,47,51]
def ok1(G:GF K mg)(h:Al P w K mg base k)(F:k9 K q f c)(z:Qd.contains (ix q)=be):cP P w K mg base cL (k+1) f c (ir q) (jB K mg (k+1) q):=by
 cases q<;>first|exact absurd z 'b'|refine fO F W W W λhr nd=>?_|refine fM F W W W 'b' λhr nd=>?_
 all_goals (repeat' first|((with_reducible show KM _ _ _ _ _);refine jm h hr ?_ W W W ⟨W,W⟩)|ac_rfl|(with_reducible first|(show JE ..;exists Zip,sP,sS,yu,vM,vK,J5,CP,CT,yt,CQ,Xd,KL,Lc,Y3)|(show JA ..;exists sR,sQ)|(show d3 ..;exists C1,C2,Ka,J9,Kb,Kc,J_,Xw,KN,Lm,Ll,KO,Y2)|(show KS ..;exists yI,XJ,yH,C_,XM,KA,Ys,YO,YM,YQ,YH,Y6,YI,XN,ZE,Zu,XO,KC,Y9,Zb,Y5,Yr,ZZ,Z1,Z2,Dh)|(show JT ..;exists yv,yw,vL)|(show cT ..;exists yF,YF,C9)|(show JG ..;exists vN,CY)|(show KG ..;exists Kw,Kz)|(show JC ..;exists C5,Ke,K4,K3,ZJ)|(show sU ..;exists Ky,Kx)|(show JO ..;exists CS,J6)|(show JI ..;exists yL,Df)|(show JF ..;exists CZ,C0)|exists yG,YN,YG|(show KF ..;exists XH,XI)|(show JL ..;exists X4,X6,X5)|(show sO ..;exists CV,CU)|(show JK ..;exists X8,X7,KI,KH)|(show kU ..;exists LK,Zx,LJ))|((with_reducible show JE _ _ (aw _ _));first|refine jq h hr ?_ W W W W W|refine qu ?_ G.FU RE ?_ ?_ ?_ ?_|refine yy ?_ G.AJ DL.yj ?_ ?_ ?_ ?_|refine qu ?_ G.FV DL.boot_sorted ?_ ?_ ?_ ?_|refine yy ?_ G.FT DL.Ct ?_ ?_ ?_ ?_)|refine Zj G.AJ G.Zv0 ?_ ?_ ?_ ?_ ?_|refine J0 G.jR ?_ ?_|exists ZM,Zq,Zt,Zs,Zp,YP,vO,Kn|exactλ_=>rfl)
def oks(G:GF K mg)(h:Al P w K mg base k)(F:k9 K .fB f c):cP P w K mg base cL (k+1) f c (ir .fB) (jB K mg (k+1) .fB):=by refine fH F W W W 'b' λhr nd=>?_;all_goals (repeat' first|((with_reducible show KS _ _ (qJ _ _ _ _));refine L8 _ G.cls G.uh ?_ ?_ W (mm W) W W W (λ_=>rfl) W W W)|((with_reducible show KS _ _ (qL _ _ _ _));refine L9 _ G.cls G.ui ?_ ?_ W W (mm W) W W W W W)|((with_reducible show KS _ _ (qN _ _ _ _));refine Za_ (Lo hr) _ G.cls G.uj ?_ ?_ W (mm W) W W W W W W W)|((with_reducible show JE _ _ (dR _ _ _ _ _));refine jt h hr G.cls ?_ ?_ (λ_ z=>z) ⟨W,W⟩ W)|ac_rfl|(with_reducible first|(show JE ..;exists Zip,sP,sS,vM,vK,CP)|(show JA ..;exists sR,sQ)|(show d3 ..;exists C3,C4)|(show KS ..;exists yI,yH,Dh)|(show JT ..;exists yv,yw,vL)|(show cT ..;exists yF,C9)|apply yG)|((with_reducible show JE _ _ (aw _ _));refine jq h hr ?_ W W W W W)|exists ZpM,Mf,vO|exactλ_=>rfl)
def okr(G:GF K mg)(h:Al P w K mg base k)(F:k9 K .fC f c):cP P w K mg base cL (k+1) f c (ir .fC) (jB K mg (k+1) .fC):=by refine fH F W W W 'b' λhr nd=>?_;all_goals (repeat' first|((with_reducible show KS _ _ (qJ _ _ _ _));refine L8 _ G.cls G.uh ?_ ?_ W (mm W) W W W (λ_=>rfl) W W W)|((with_reducible show KS _ _ (qL _ _ _ _));refine L9 _ G.cls G.ui ?_ ?_ W W (mm W) W W W W W)|((with_reducible show KS _ _ (wg _ _ _ _ _));refine Z9 hr _ _ G.cls G.uj ?_ ?_ W nd W (mm W) W (mm W) W W W W W W (mm W))|((with_reducible show JE _ _ (dR _ _ _ _ _));refine jt h hr G.cls ?_ ?_ (λ_ z=>z) ⟨W,W⟩ W)|ac_rfl|(with_reducible first|(show JE ..;exists Zip,sP,sS,yu,vM,vK)|(show JA ..;exists sR,sQ)|apply C1|(show KS ..;exists yI,yH,Dh)|(show JT ..;exists yw,vL)|(show cT ..;exists yF,C9)|apply yG)|((with_reducible show JE _ _ (aw _ _));refine jq h hr ?_ W W W W W)|exists ZpN,Mf,vO|exactλ_=>rfl)
def Qe(G:GF K mg)(h:Al P w K mg base k)(F:k9 K .ga f c):cP P w K mg base cL (k+1) f c (ir .ga) (jB K mg (k+1) .ga):=by refine fO F W W W λhr nd=>?_;all_goals (repeat' first|((with_reducible show KB _ _ (qP _ _ _ _ _));refine jk h hr ?_ ?_ nd ?_ ?_ ?_ ?_ ?_ ?_ ?_)|((with_reducible show KS _ _ (tO _ _ _ _ _ _ _));refine ZpO _ hr.units (jh h hr G.cls _ W (A6 (mm W)) W W ?_ W ⟨λ_=>rfl,W,W⟩ W) (jh h hr G.cls _ W (A6 (mm W)) W W ?_ W ⟨λ_=>rfl,W,W⟩ W) ?_ W (vO (C_ yt)).h)|((with_reducible show JE _ _ (dR _ _ _ _ nF));refine jt0 h hr G.cls ?_ (λ_ z=>z) ⟨W,W⟩ W)|((with_reducible show JE _ _ (dR _ _ _ _ _));refine jt h hr G.cls ?_ ?_ (λ_ z=>z) ⟨W,W⟩ W)|ac_rfl|(with_reducible first|(show JE ..;exists Zip,sP,sS,yu,vM,vK,CT,yt,CQ,KL,J2,J4)|(show JA ..;exists sR,sQ)|(show d3 ..;exists C2,C3,KN,C4)|(show KS ..;exists yI,yH,C_,KA,KC)|(show JT ..;exists yv,X_,vL)|exists yF,vN|(show KG ..;exists Kw,Kz)|apply C5|(show sU ..;exists Ky,Kx)|exists CS,yL,C0,yG|(show JK ..;exists KI,KH)|(show kU ..;exists LK,LJ))|((with_reducible show JE _ _ (aw _ _));first|refine jq h hr ?_ W W W W W|refine qu ?_ G.FU RE ?_ ?_ ?_ ?_)|exists vO,Kn|exactλ_=>rfl)
def oki(G:GF K mg)(h:Al P w K mg base k)(F:k9 K .fA f c):cP P w K mg base cL (k+1) f c (ir .fA) (jB K mg (k+1) .fA):=by
 show cP P w K mg base cL (k+1) f c ["self","grammar"] (wm K cH (mU (wq (zz (Tab k)))));rw[Mv];refine fnI (x1:="self") (x2:="grammar") F (sc .fA) λe A d s H E hr=>Zj2 G.cls G.Qb G.AK G.uh G.ui G.uj W ?_ W W W ?_ W W ?_ ?_ (Zmj (N':=["part"]) ?_ (λ_ _ _ _=>have nd:rO (["part"]:List Str):='b';⟨?_,?_⟩) W 'b' W 'b' ?_ ?_ ?_ ?_) W W W W W;any_goals ((with_reducible show gv _ _ _ _);(repeat' first|exact jD|refine⟨⟨W,?_,?_⟩,?_⟩|exact .inl W|exact .inr W);done)
 all_goals (repeat' first|((with_reducible show JE _ _ (hD _ _ _));first|refine pf G.cls G.AK ?_ W|refine pf G.cls G.uh ?_ W|refine pf G.cls G.uj ?_ W|refine pf G.cls G.ui ?_ W)|ac_rfl|(with_reducible first|(show JE ..;exists Zip,sP,sS)|(show JA ..;exists sR,sQ)|apply vN|(show JI ..;exists yL,Df)|apply CZ)|((with_reducible show JE _ _ (aw _ _));refine jq h hr ?_ W W W W W)|exactλ_=>rfl)
def okq(G:GF K mg)(h:Al P w K mg base k)(y:lv (k+1) q=k+1)(F:k9 K q f c):cP P w K mg base cL (k+1) f c (ir q) (jB K mg (k+1) q):=by
 by_cases z:Qc.contains (ix q)=be;·exact ok0 G h F z
 by_cases d:Qd.contains (ix q)=be;·exact ok1 G h F d
 cases q<;>first|exact absurd W z|exact absurd W d|exact oks G h F|exact okr G h F|exact Qe G h F|exact oki G h F|exact absurd y (by show k+1-1≠k+1;omega)
theorem st(G:GF K mg)(A:∀q,FQ K mg q)(h:Al P w K mg base k):Al P w K mg base (k+1):=⟨λq=>by
 by_cases z:lv (k+1) q=k+1;·exact cal (A q) z λ_ _ F=>okq G h z F
 ·cases q<;>first|exact absurd W z|exact h.c .fA⟩
theorem al(G:GF K mg)(A:∀q,FQ K mg q):∀k,Al P w K mg base k|0=>⟨λq=>Zvk (A q)⟩|k+1=>st G A (al G A k)
def Qf(K:au):Sp:=λvs H Q _=>∃(a:Λ)(ns:List Int),vs=[.ref a]/\bX K H a (ns.map V.int)/\ns.length<=63/\∀H',Q (.bl be) H'
def ZtS(d:∀ns:List Int,ns.length<=63->Tab (k+1) .ga [.bI ns]=Z (.bl be))(G:GF K mg)(A:∀q,FQ K mg q):∃f c,mg "law"=Z (.ref f)/\(∀(s:ψ)(u:ω),AS s c ⟨[u],[]⟩ [("_law_script",u)])/\∀(P:a8)(w:World)(base:Heap),cP P w K mg base cL (k+1) f c ["_law_script"] (Qf K):=by
 obtain⟨f,c,F,m,b⟩:=(A .ga).ex;refine⟨f,c,m,λs u=>?_,λP w base=>?_⟩;·obtain⟨y,od,kV,doc,z,B,g,C,i,rfl,lk,j⟩:=F.ex;exact .of_eq W
 ·have h:=al (P:=P) (w:=w) (base:=base) G A k;refine(Qe G h F).imp λvs H Q E p=>?_;obtain⟨a,ns,e,t,x,q⟩:=p;subst e;show kJ K (Tab (k+1) .ga) _ H Q E;exact⟨[.bI ns],.bl be,.cons (.bI t) .nil,d ns x,λv H' _ r=>by cases r;exact q H'⟩
end
def Bd:List Str->(List ω->Prop)->Prop|[],P=>P []|_::l,P=>∀a,Bd l λus=>P (a::us)
def bd{ps:List Str}:∀{P:List ω->Prop},Bd ps P->∀us:List ω,us.length=ps.length->P us:=by induction ps with
 |nil=>exactλh us e=>by cases us with
  |nil=>exact h|cons=>cases e
 |cons _ _ c=>exactλh us e=>by cases us with|nil=>cases e|cons a t=>exact c (h a) t (rK e)
def Zv2{K:au}{h:Heap}(X:K.In h)(G:h.Ns ko q){st:Stmt}{ps:List Str}{kV:ω}(a:RF K ko x=Z (Z (.ref f)))(l:K.lookup f=Z ⟨u,od,.func (mh x x (lI st) (gP st) (cQ st) .none kV v j i r m),t⟩)(c:xg K r x=be)(k:ma K (.ref f)=be) (b:∀(kV doc j:ω)(i:Option Λ)(p m:ω),Bd ps λus=>AU (mh x x (lI st) (gP st) (cQ st) .none kV doc j i p m) ⟨us,[]⟩=pure (ps.zip us)):FF K (λf=>q x=Z (.ref f)) x x st ps:=⟨_,_,r6 (st:=st) l c k,RG X G a,(r6 (st:=st) l c k).binds λa c d e f g=>bd (b a c d e f g)⟩
def Zv3{K:au}{st:Stmt}{ps:List Str}{kV:ω}(a:lu K (.ref cH) x=Z (Z (.ref f)))(l:K.lookup f=Z ⟨t,od,.func (mh x y (lI st) (gP st) (cQ st) .none kV u j h q m),r⟩)(c:xg K q y=be)(k:ma K (.ref f)=be)(i:AQ K (.ref f)=be) (b:∀(kV doc j:ω)(h:Option Λ)(p m:ω),Bd ps λus=>AU (mh x y (lI st) (gP st) (cQ st) .none kV doc j h p m) ⟨us,[]⟩=pure (ps.zip us)):FF K (λf=>Meth K cH x f) x y st ps:=⟨_,_,r6 (st:=st) l c k,⟨a,i,k⟩,(r6 (st:=st) l c k).binds λa c d e f g=>bd (b a c d e f g)⟩
def Zv4{K:au}{h:Heap}(X:K.In h)(G:h.Ns ko t){st:Stmt}{ps:List Str}{kV:ω}(a:lu K (.ref cH) "__init__"=Z (Z (.ref f)))(l:K.lookup f=Z ⟨w,od,.func (mh "__init__" y (lI st) (gP st) (cQ st) .none kV x p j u q),v⟩)(c:xg K u y=be)(k:ma K (.ref f)=be)(i:AQ K (.ref f)=be)(n:RF K ko "Hall"=Z (Z (.ref cH)))(m:Qs K cH=be)(z:ma K (.ref cH)=be) (b:∀(kV doc p:ω)(j:Option Λ)(r q:ω),Bd ps λus=>AU (mh "__init__" y (lI st) (gP st) (cQ st) .none kV doc p j r q) ⟨us,[]⟩=pure (ps.zip us)):FF K (λf=>t "Hall"=Z (.ref cH)/\Mk K cH f) "__init__" y st ps:=⟨_,_,r6 (st:=st) l c k,⟨RG X G n,m,a,i,z⟩,(r6 (st:=st) l c k).binds λa c d e f g=>bd (b a c d e f g)⟩
def Zv5{K:au}{h:Heap}(X:K.In h)(G:h.Ns ko d)(y:K.lookup c=Z ⟨.type "tuple",e,.seq #[.str "end" t] f,ys⟩)(z:RF K ko "END"=Z (Z (.ref c))):xV K d "END" jR:=⟨.ref c,_,RG X G z,W,λH=>.tup (xs:=[.str "end"]) (.inr ⟨_,_,_,y,W,W,yx W,(.cons ⟨_,W⟩ .nil)⟩) (.cons (.str _ 'b') .nil)⟩
def walk{k:Nat}(p:∀ns:List Int,ns.length<=63->Tab (k+1) .ga [.bI ns]=Z (.bl be))(hr:bA (k+1) rB){l:ZwB}{r:(Zac)->Heap->Prop}{j:World->Heap->Prop}{d:DefRec}{K:Params->au}(hn:l.most=Z 63)(i:d.params.defaults=[])(t:d.name="law") (u:∀(w:World)(h:Heap),j w h->(K w.params).In h) (F:∀(w:World)(e:Zac)(h:Heap),(K w.params).In h->h.Ns ko e->GF (K w.params) e/\∀q,FQ (K w.params) e q):ZwC q c r j l.row.toRowW d [] (λf vs=>QL f vs):=L2.U9 (n:=63) (k:=k+1) (x:="_law_script") (CX:=λ_=>cL) (sp:=λw=>Qf (K w.params)) hn 'b' i hr u (λw e I h KX G g=>by obtain⟨v,y⟩:=F w e h KX G;obtain⟨f,A,m,B,C⟩:=ZtS p v y;rw[t,m]at g;cases g;exact⟨A,B,λbase _ _=>C l.prog w base⟩) (λ_ _ a ns E _ H=>⟨a,ns,W,H,E,λ_=>rfl⟩) λ_ _ _ _ _ z=>z
end jV
namespace jV
def main:∀ns:List Int,ns.length<=63->PT.Tab (99+1) .ga [.bI ns]=Z (.bl be):=λns h=>PM.ZvT 'b' ns h
end jV
namespace PySem.W.Fast
def tw17663944206471474628:=0
def tw4675735190899575364:=0
def tw10860860915144323545:=0
def tw1102628185959750377:=0
def tw14917875425883710345:=0
def tw9618765200262872287:=0
def tw7998735957109084563:=0
def tw291187318397594228:=0
def tw6716916705477284087:=0
def tw4492055627761547744:=0
def tw878959577822898792:=0
def tw5635394710126745220:=0
def tw12546339836418416110:=0
def tw12396814957642957028:=0
def tw5172780708203722335:=0
def tw9824545214867460175:=0
def tw9463094236750581246:=0
def tw8376937586357377088:=0
def tw1347853582918154422:=0
def tw8213912223713711332:=0
def tw6921721751186247289:=0
def tw10733212970280545340:=0
def tw14788172904488455495:=0
def tw8834465414687493399:=0
def tw9723791947187785900:=0
def tw12319931090465515138:=0
def tw15439070907442705798:=0
def tw563824718308761544:=0
def tw16027923263081041306:=0
def tw16371966536422145477:=0
def tw10951152745185380800:=0
def tw8935725169508177019:=0
def tw2057844731924189968:=0
def tw17461622213893892581:=0
def tw11055233163608167711:=0
def tw4049274244695163050:=0
def tw11717300546134090336:=0
def tw13998727757654588665:=0
def tw6771195261837283445:=0
def tw5706689755371545307:=0
def tw426480826366418998:=0
def tw15751954141471497843:=0
def tw4315365858239636015:=0
def tw8961218315063300503:=0
def tw13842217552967942702:=0
def tw17424990840463846070:=0
def tw17238366714430999738:=0
def tw11384602726397406855:=0
def tw4494397693332423094:=0
def tw10527416275171994275:=0
def tw251688574085215224:=0
def tw2885792618652320177:=0
def tw9029262498562184706:=0
def tw5848535048717056992:=0
def tw7649618370617025573:=0
def tw2076265972409872126:=0
def tw13453519196855256926:=0
def tw15265383941047153759:=0
def tw16234027525650702972:=0
def tw8392520552241153234:=0
def tw9426248813379162560:=0
def tw2709434049019219587:=0
def tw6726143431092216474:=0
def tw5658970381271166950:=0
def tw17515563583473106925:=0
def tw12581092003706341529:=0
def tw17001541743777081766:=0
def tw2266577139105443536:=0
def tw154321958301569650:=0
def tw9380310673805195461:=0
def tw1513658238330050831:=0
def tw5482070618084908544:=0
def tw6667306253037802551:=0
def tw308232804831548439:=0
def tw13063875157663706783:=0
def tw14598943730204850013:=0
def tw13870522796536379285:=0
def tw10806603452580603810:=0
def tw5312271652290814224:=0
def tw7933960101107331223:=0
def tw874851387344995842:=0
def tw15896894590945068965:=0
def tw7617351489624791382:=0
def tw12548392463922752858:=0
def tw16056168134465998855:=0
def tw14192554062684482614:=0
def tw6423764448021006495:=0
def tw13326023954189893967:=0
def tw2229310393504301303:=0
def tw2978556300992648058:=0
def tw978357256181052753:=0
def tw16849576399365772075:=0
def tw4633336067448557080:=0
def tw16464056702408109731:=0
def tw9529972186503935683:=0
def tw1786882353177193971:=0
def tw3000230485649419487:=0
def tw1223169993336495802:=0
def tw7602892134131878440:=0
def tw2165274858414908854:=0
def tw11882254317055366175:=0
def tw15953269097876457768:=0
def tw14925374741517523344:=0
def tw4516941558934900133:=0
def tw17291750448148512743:=0
def tw11850631997511699508:=0
def tw4408001797284179488:=0
def tw4628521994357497886:=0
def tw108051614151480965:=0
def tw3439368526929168148:=0
def tw13421677032569010088:=0
def tw13715029523207268505:=0
def tw11267424432337926843:=0
def tw1474349442339209308:=0
def tw8888853192616388185:=0
def tw3691768771670168575:=0
def tw922988567348905689:=0
def tw1958404707746784450:=0
def tw12657147210314731961:=0
def tw8813971912692545325:=0
def tw11859846977281559992:=0
def tw11286537834492096225:=0
def tw1922217249019194169:=0
def tw5453452480970397929:=0
def tw9487001471333636644:=0
def tw17199520022124588244:=0
def tw3710025026991295258:=0
def tw5987728057743275129:=0
def tw12394701540753325067:=0
def tw11168807371939330649:=0
def tw7894101707066538834:=0
def tw15348765246785921747:=0
def tw12041030287620833451:=0
def tw17245815857468152090:=0
def tw1164789545733531844:=0
def tw3375208211374361225:=0
def tw8691961611145975605:=0
def tw11703328539591130967:=0
def tw8064322057612666813:=0
def tw6055328725039698860:=0
def tw10829127701876613720:=0
def tw11536688210271010593:=0
def tw8442475147913323460:=0
def tw9418280209327012498:=0
def tw9917135510909029177:=0
def tw7497586808735829926:=0
def tw7973915715101240697:=0
def tw4697303907496885057:=0
def tw3658201483919158245:=0
def tw16112000946522163378:=0
def tw10310088008208591216:=0
def tw1902574153623517202:=0
def tw6304988706899408400:=0
def tw17410554170941367551:=0
def tw14735484584658785704:=0
def tw10853020241200588377:=0
def tw3454330308104011418:=0
def tw2553153519013143837:=0
def tw13026343189099370735:=0
def tw18109106635653585176:=0
def tw523481941270414751:=0
def tw1007550597897016335:=0
def tw8567000555740262573:=0
def tw13115855601871329:=0
def tw13662015118903752304:=0
end PySem.W.Fast
open PySem PySem.W PyProof.Rows
set_option maxRecDepth 100000 in
set_option maxHeartbeats 0 in
theorem PySem.Challenge.cw_parleyturn_k11_whole_each_way_can_be_gon_holds : PySem.Challenge.rw_parleyturn_k11_whole_each_way_can_be_gon.Holds := by
  w_on;o_law;k_head;(case hw=>w_witness2)
  k_fill
  refine jV.walk (k:=99) jV.main ⟨rfl,by decide,by decide⟩ (l:=PySem.Challenge.rw_parleyturn_k11_whole_each_way_can_be_gon) rfl rfl rfl (λw h Y=>PySem.W.kIn_of Y) ?F
  case F=>
    intro w mg h KX G
    refine' ⟨?_,λq=>?_⟩
    ·constructor
     case jR=>refine' jV.Zv5 KX G ?a ?b;(case b=>k_is);(case a=>k_is)
     case cls=>refine' ⟨?a,?b,?c,?d⟩;(case a | b | c | d=>k_is)
     case Qb | AK | uh | ui | uj=>show lu _ _ _=some none;k_is
     all_goals (refine' PySem.W.mg_none_of KX G ?_;k_is)
    ·cases q<;>(delta jV.FQ jV.pR jV.xn jV.qn PT.Fn.nm jV.ix;dsimp only)<;>first | (refine' jV.Zv2 KX G ?a ?b ?c ?d (λ_ _ _ _ _ _=>?e);(case a | b | c | d=>k_is);case e=>first | exactλ_=>rfl | exactλ_ _=>rfl | exactλ_ _ _=>rfl | exactλ_ _ _ _=>rfl | exactλ_ _ _ _ _=>rfl) | (refine' jV.Zv3 ?a ?b ?c ?d ?i (λ_ _ _ _ _ _=>?e);(case a | b | c | d | i=>k_is);case e=>first | exactλ_=>rfl | exactλ_ _=>rfl | exactλ_ _ _=>rfl | exactλ_ _ _ _=>rfl | exactλ_ _ _ _ _=>rfl) | (refine' jV.Zv4 KX G ?a ?b ?c ?d ?i ?n ?m ?k (λ_ _ _ _ _ _=>?e);(case n | a | b | c | d | i | m | k=>k_is);case e=>first | exactλ_=>rfl | exactλ_ _=>rfl | exactλ_ _ _=>rfl | exactλ_ _ _ _=>rfl | exactλ_ _ _ _ _=>rfl)