import PyProof.Rows.All
import Wide.All
import OpenK.AllK
import Wide.FinOn
import PyProof.EqAt
import PyProof.EqKinds
import PyProof.TupleCall
import KE.BitLaws
import Open.SpecLaws
import KE.OsHead
import KE.OsGo
import PySem.Challenge.RW_sharedrooms_s01_answers
import PyProof.Rows.SetFrom
import PyProof.ListRange
import PyProof.ZipIter
import KE.KSortTupG
import KE.KLam
import KE.KSortKeySt
import PyVaarrl
set_option Elab.async false
set_option linter.all false
set_option maxRecDepth 100000
set_option maxHeartbeats 4000000
open Array renaming length_toList→c7,getElem?_toList→eK,getElem?_eq_some_iff→fJ,getElem_toList→zI,toList_append→Bc,getD→C0,forIn_toList→C3,find?_toList→Dc,toList_push→ED,ext'→Kf,size_push→ZH
open Array.Perm renaming refl→SI
open Bool renaming true→ae,false→af,false_ne_true→cB,false_eq_true→cD,and_eq_true→cM,false_and→eD,true_and→eI,eq_iff_iff→eN,or_false→lg,not_eq_true'→vd,or_eq_true→yC,not_eq_false→E8,not_false→Lk,and_false→Ll,not_true→N1,false_or→N2,beq_eq_decide_eq→SH,and_eq_true_iff→Uq,not_eq_true→ZG
open Classical renaming byContradiction→eS
open Except renaming map→ju,ok→lX,error→Dk
open False renaming elim→fB
open ForInStep renaming yield→vj
open Int renaming toNat_natCast→pJ,toNat_of_nonneg→CZ,lt_or_eq_of_le→EC,eq_ofNat_of_zero_le→QB,natCast_nonneg→Zi
open List renaming length_map→aV,getElem?_eq_some_iff→aZ,mem_of_getElem?→br,range→bw,mem_cons_of_mem→bD,getElem?_eq_getElem→bF,getElem?_map→bL,mem_cons_self→bO,mem_cons→bQ,length_append→bR,mem_singleton→bU,size_toArray→b7,length_range→b8,map_append→cg,mem_range→cn,append_nil→cp,getElem?_of_mem→cz,replicate→cA,mem_filter→cI,length_cons→cK,all_eq_true→cY,append_assoc→de,mem_map→di,map_congr_left→dk,take_length→dA,map_map→dC,map_cons→dE,pairwise_cons→dG,contains_iff_mem→dP,length_take→dX,mem_append_right→dY,getElem?_eq_none→dZ,drop_eq_getElem_cons→d5,mem_append→d7,getElem?_append_left→eX,range_succ→fe,any_eq_true→fj,getElem?_range→fA,filter_cons_of_pos→fE,mem_append_left→fK,length_set→fO,pairwise_iff_getElem→fU,replicate_succ→fY,filter_cons_of_neg→gM,getElem?_append_right→hJ,foldl_append→hV,any_eq_false→hX,lookup→ig,getElem?_eq_none_iff→ir,length_replicate→iu,flatMap_cons→iW,nodup_cons→iX,ext_getElem→jt,pairwise_map→jT,not_mem_nil→kh,mem_flatMap→ki,lookup_cons→kj,find?_eq_none→kM,find?_cons_of_neg→kN,filter_append→kO,drop_eq_nil_of_le→kP,filter_nil→k8,flatten_cons→lI,drop_drop→lW,getElem_map→l7,mem_of_find?_eq_some→mB,getElem?_zip_eq_some→mC,getElem?_take_of_lt→nI,of_mem_zip→nO,nil_append→nP,forIn_cons→nQ,foldl_cons→nR,find?_cons→nU,getElem_range→nX,pairwise_singleton→oH,length_eq_zero_iff→oI,getElem?_cons_succ→oJ,getElem?_set_self→o7,length_filter_le→qj,length_drop→qr,flatMap_nil→qt,map_id→qN,getElem?_set_ne→qO,takeWhile_cons→si,flatMap_append→sv,forIn_nil→tJ,nodup_append→vb,ext_getElem?→vc,any_cons→vi,nodup_range→wI,cons_append→wJ,find?_cons_of_pos→wY,length_zip→yu,find?_some→yw,any_append→yx,mem_of_mem_take→Aj,getElem?_zipIdx→Ak,toList_toArray→Bk,findSome?_cons→Bl,filterMap_cons→Bm,getElem?_drop→Di,map_nil→E6,getElem_mem→Gy,getElem_inj→Gz,flatMap_map→GA,drop_length→GB,length→Jc,all_append→Jl,nodup_nil→Li,length_eraseIdx_of_lt→Lj,map_take→NZ,all_cons→N0,getElem?_replicate→Qi,take_of_length_le→Qw,pairwise_lt_range→Qx,drop_of_length_le→Qy,any_map→Qz,all_map→QA,takeWhile_prefix→SE,pairwise_append→Um,getLast?_append→Uo,zip_map_right→V9,mem_filterMap→Wa,getElem?_take→Wb,foldl→Wc,take_sublist→Zf,getElem?_set→Zg,findIdx_cons→Zh,zipIdx_cons→ZD,perm_middle→ZE,map_fst_zip→ZF
open List.Nodup renaming length_le_of_subset→jU
open List.Pairwise renaming nil→kq,filter→oK,imp_of_mem→EB
open List.Perm renaming refl→gO,trans→EA,swap→FW,cons→VU
open Nat renaming le_refl→bu,lt_of_lt_of_le→bJ,ne_of_lt→ck,zero_le→cC,le_trans→cR,ne_of_gt→dm,le_of_lt→du,lt_succ_self→eQ,lt_succ_of_lt→eU,lt_irrefl→gC,le_add_right→iH,lt_or_ge→jh,le_of_eq→k4,lt_trichotomy→lL,lt_trans→mz,lt_of_le_of_lt→oF,eq_zero_or_pos→oG,le_succ→qZ,le_of_succ_le→vh,mod_lt→Ez,sub_self→FU,min_self→FV,succ_le_succ→Ja,max_eq_right→Jb,zero_add→SA,add_zero→SD,pos_of_ne_zero→Zd,not_lt→Ze
open Ne renaming symm→dh
open NeutralIO renaming bytes→Ul
open Option renaming some→aa,none→ab,map_some→jH,isSome_iff_exists→mM,isSome_map→Dh,isSome_some→Uk,getD_none→V8
open Option.some renaming inj→bT
open Or renaming inl→ux,inr→ZC
open PyFlat renaming calls→oO,played→Bb,rows→FT,told→Qu,call→Qv,row→Uj
open PyProof.Rows renaming seqObj→iS,IntsAre→kf,callWith_type1→kE,firstMet→nq,kindOf→ur,envOfC→AY,Subscript_→Ba,arrOf→Ex,AllBare→E9,listUpdate_at→Gr,SortedToK→NG,get?_update_seq→Qg,numOf→Sq,item_listR→Sr,subscriptTail→VQ,firstMet_succ→VR,subscriptTail_builtinR→Y4
open PyProof.Rows.F renaming plain_set_update_loop→yA,entry_set_update_loop→Up
open PyProof.Rows.G renaming tupKeyC→Dj,tupKindC→Qj,KeepsTups→Zj
open PyProof.Rows.IntsAre renaming int_at→yz
open PySem renaming wpAny_bind→aP,Value→aX,Shared→a9,wpAny_pure→bg,sizeLine→bz,FuncData→bC,model→bK,wpAny→bM,starEach→bX,Program→bY,sizeLine_eq→bZ,Spec→cq,boot_len→cx,mainGlobals→cV,World→cX,Around→cZ,mem_of_lookup→dI,wpAny_holding→d8,wpAny_mono→eE,wpAny_Call_Name_kw→fh,Paired→fM,cellsFrom→f9,backTo→gz,Str→gK,wpAny_field→gY,wpAny_truthy_bool→ij,bootBuiltins→ip,codeAny_mono→iU,wpAny_setState_of→ja,compareOp→jb,wpAny_ite_split→jd,codeAny_builtin→je,codeAny→jA,wpAny_call_entry→jF,wpAny_setField_rec→jJ,sysModules→jK,intKind→jQ,rawInt→j6,wpAny_newObj_type→j9,codeAny_call_builtin→kb,NameKind→ke,Scope→kG,wpAny_callSpecial?_slot→kU,wpAny_passesOwn→lP,wpAny_standAt→lU,wpAny_call→m8,keywordEach→m9,compEnvC→nu,scanBound→nM,wpAny_attempt→oP,plainId_quiet→oQ,bindArgs→oR,behindInMarks→oS,SetTable→oU,Within→oV,wpAny_updateSeq→o4,swapsWith→pU,pickOrder→pV,getMethod→pW,pyNext→qH,holding→qI,plainObj_wpAny_Assign_Attribute→qX,builtinLookup_eq_fast→rh,wpAny_isInstance→sd,isSubtype→se,standAt→sy,attributeBase→sA,wpAny_loadName_local→sQ,sliceBounds→sR,callWith→sS,wpAny_loadPart'→uo,wpAny_execs_nil→uq,pushCells→vf,Arguments→vk,wpAny_Name→wc,tupleKind_room_in1→wg,relayAll→wj,isInstance→wk,backToKw→wm,wpAny_pyIter_list→wU,wpAny_pyIter_enum→wV,unsupported→wW,foldedSetIterable→wX,IsPair→yy,ExceptHandler→yB,checkBuiltinCall→zD,binaryOp→zE,typeLookup→AX,builtinsNs→AZ,assignEach→A9,wpAny_specialOf→Be,typeLookup_type→Bf,pushCells_keeps→Bg,letOwnedTupleGo→Bh,codeAny_of_tree→Bi,wpAny_setField→Er,wpAny_seqItems→Es,wpAny_loadPart→Et,wpAny_alloc→Eu,isSubtype_stop→Ew,Result→Ey,updateSeq→E2,spliced→E3,wpAny_setEntries_of→FK,wpAny_loadName_free→FL,defaultsOf→FO,Model→Gx,wpAny_rule→IS,wpAny_load→IT,wpAny_Constant_int→IU,closureFor→IV,valueAt→J6,cLine→J8,GenState→Kc,wpAny_lookBehind→Ny,wpAny_askSetting→Nz,typeOf→NA,tupleKind→NB,pastItsLine_dict→NC,subscripted→NU,notedBy→Qq,getItem→Qr,wpAny_newTuple→Sl,wpAny_letOwnedTupleGo_enum→Sm,recursionLimit→Sn,pyIter→So,isSubtype_type→Ss,excMatches→Su,call_meets→Sv,atKey→Sw,assign→Sx,ZipApart→Sy,Operator→Sz,wpAt_of_wpAny→Uh,wpAny_newList→VP,setFlight→VY,noteFrame→VZ,drawOrder→V0,bindL→V1,bindC→V2,CmpOp→We,wpAny_typeOf→Y1,wpAny_nsSet1→Y2,wpAny_nextOf_list_item→Y3,setNext→Y5,seqIndex_neg→Y6,getAttr→Y7,argsOk→Y8,wpAny_nextOf_list_end→Zv,wpAny_isTrue_Compare1→Zw,codeAny_handlers_test→Zx,wpAt_bind→Zz
open PySem.Around renaming under_plainId→iK,under→N3,under_plain→Us
open PySem.Bind renaming madeBy→Ur
open PySem.Builtin.Frozenset renaming updateFrom→abt,slot0→abu,sizeOf→abv,newClass→abw
open PySem.Builtin.List renaming listLengthHint→iP,listExtendWith→iQ,listTooLong→lM,listSameRef→lN,listUpdate→FY,listItems→GC
open PySem.Builtin.Range renaming rangeSize→E7
open PySem.Builtin.SmallTypes renaming nextOf→o8,ownedTupleIsFree→uv
open PySem.Calls renaming spliced_cons→iA,spliced_nil→jM,evalArgs_plain→zH,Name_function_global→Ke,callWith_builtin→Qk
open PySem.Challenge renaming rw_sharedrooms_s01_answers→gB
open PySem.Code renaming quiet_builtin→tK,isFrame→QC
open PySem.Draws renaming list→Kd
open PySem.EntryCells renaming newEntry→NL
open PySem.F renaming plainAttrs_list→cj,type_list_append→c8,slot_list_append→c9,type_list_extend→gd,slot_list_extend→gu,plain_extend_loop→ie,called_set→iq,slot_zip_next→o6,called_enumerate→FX,slot_dict_getitem→Jh,excBase_Exception→Ji,entry_extend_loop→Jj,plain_list_iadd→Lg,args_zip_next_1→Lh,entry_zip_next→NJ,slot_set_iter→NX,plain_set_new→NY,slot_enumerate_next→Wd
open PySem.Heap renaming get?_push_of_some→ba,lt_size→bG,get?_push_size→bI,get?_update_other→cv,size_push→dB,get?_update_self→dQ,SameBut→kQ,size_update→l8
open PySem.Heap.Ns1 renaming of_empty→SG
open PySem.Heap.SameBut renaming update→Kb,refl→NK
open PySem.NameKind renaming free→pI,cell→Jk
open PySem.Obj renaming mapSeq→dU,mapFields→js,data_mapFields→oC,isFreed_of_fields→qp,putSet→Zc
open PySem.Paired renaming length→dO
open PySem.PassesOwn renaming never→bW
open PySem.SeqAt.EqAt renaming str_int→NV,int_str→NW
open PySem.SetTable renaming below→d4,grown→iC,sizeAbove→Qs,Probe→V5,fits→Za
open PySem.SetTable.below renaming go→Ka
open PySem.SetTable.probe renaming go→J9
open PySem.Str renaming ofString→jf,join→pG
open PySem.Txt renaming join→qY
open PySem.Value renaming ref→cu,none→eG,type→iV,isInt→kF,int→l6,str→Ai,isInt_shape→V3
open PySem.W renaming Frag→aY,mg_none_of→eW,findIn→gb,fnOf→gQ,emptyDict→gR,keepIn→jg,instObj→jC,mg_of→jL,callWith_K→nF,hasDictIn→oB,methodCall_KW→o5,codeHdIn→pH,kla_obj→qJ,plainGet→va,findCls→wH,lookIn→yt,plainGet_of→zF,callWith_K0→zG,specialIn→CV,methodObj→CY,takerIn→FP,readsIn→FQ,kla_fn→IY,codeIn→IZ,isFn→NH,cellsFrom_some→NI,looks_subIn→Qt,plainOver→Ui,handedIn→VS,WRecords→VT,makesIn→V7,tab_of→Zb,subIn→ZA
open PySem.W.Looks renaming ld→nN,of_pure→Gv
open PySem.Within renaming cons→y8
open PySem.callAny renaming viaDunder→Ug
open PySem.pickOrder renaming go→J7
open PyVaarrl renaming whole→fC,shape→fX,answers→jZ,answers_asked→kg,calls→V6
open Sum renaming inl→cN,inr→iM
open Sum.inl renaming inj→qi
open Sum.inr renaming inj→Qh
open True renaming intro→jw
open Vaarrl renaming Program→aO,offsetAt→aT,lengthAt→aU,firstTime→bE,State→b9,digit→cb,inRow→cP,inner→cU,lastTime→dj,inputs→dv,Stmt→dz,takesOver→dF,answer→dR,cell→ee,given→eC,readProgram→eF,heads→eJ,firstClash→eP,plainText→eZ,ownList→fG,meet→fH,decimal→fI,clash→fP,sits→fV,resolved→gy,elementOf→gH,statements→gS,group→gU,writeAll→ib,planOf→iB,valueOf→iI,overlap→iJ,told→i6,theEnd→i7,room→i8,liveAt→i9,runPlan→jm,element→jo,eitherTakes→jq,placeAll→jG,letter→jR,Answer→jS,readAt→kW,packed→kX,nameAt→kY,lowest→kZ,str→lJ,counted→lK,REACH→lV,needAt→mK,runApart→nA,putGroup→nB,numbered→nE,putLong→oM,blank→oN,no→pX,usedBy→qh,step→qm,load→qo,sound→rj,grown→rk,putData→sC,made→uu,ofProgram→vg,byLength→wR,MISSING→y4,set→Bj,count→Df,statement→E4,apartFrom→E5,need→FN,stmtText→Gs,operands→Gu,runFrom→Jf,packAll→Jg,ofPlan→Lf,keptWords→V4,tokensIn→Y9,MODULUS→Zy
open Vaarrl.Token renaming word→ND,sign→NF
open Vaarrl.Token.sign renaming inj→Dg
open Vaarrl.Token.word renaming inj→jX
open VaarrlNeutral renaming step→cO,text→jW,natural→nH,encode→IW,asked1→IX
local macro_rules|`(tactic|nofun)=>`(tactic|exact⟨rfl,rfl,rfl,by decide +kernel,rfl,by decide +kernel,by decide +kernel⟩)
abbrev ag:=List PySem.Addr
abbrev ah:=List (PySem.Addr×PySem.Obj)
abbrev ai:=List (PySem.Str×PySem.Addr)
abbrev aj:=PySem.Str->Option PySem.Value
abbrev ak:=List PySem.Str
abbrev ar:=PySem.Value->PySem.Shared->Prop
abbrev au:=List PySem.Value
theorem cQ{c:Prop}{h:Decidable c}(n:¬c){α:Sort u}{t e:α}:ite c t e=e:=if_neg n
theorem da{c:Prop}{h:Decidable c}(n:c){α:Sort u}{t e:α}:ite c t e=t:=if_pos n
theorem gX{p:Prop}[i:Decidable p](h:¬p):decide p=af:=decide_eq_false h
theorem qk{p:Prop}[i:Decidable p](h:p):decide p=ae:=decide_eq_true h
abbrev BC:List gK:=["program","ranges","plan","a","b"]
abbrev dS:List gK:=["self"]
abbrev vL:List gK:=["text","position"]
abbrev jV:List gK:=["program"]
abbrev UP:List gK:=["program","ranges","plan","members","placed"]
abbrev UO:List gK:=["program","ranges","plan","number","placed"]
abbrev xH:List gK:=["program","plan"]
abbrev Z7:List gK:=["self","word","name","length","way","operand_names"]
abbrev Q8:List gK:=["rooms","call","number","row"]
abbrev Xf:List gK:=["self","kind","value","position","end"]
abbrev Hs:List gK:=["self","statement_number"]
abbrev Hr:List gK:=["program","data","plan"]
abbrev Tj:List gK:=["program","plan","memory","number","i"]
abbrev KD:List gK:=["program","ranges","time"]
abbrev wu:List gK:=["self","plan"]
abbrev Ti:List gK:=["program","ranges","taker","taken"]
abbrev OR:List gK:=["program","ranges","a","b"]
abbrev Th:List gK:=["self","statements","operands"]
abbrev Hq:List gK:=["self","position"]
section
namespace L2
open PySem PySem.Spec PyProof.Rows
abbrev Key:=Sum Int Str
def wA:Key->aX->Bool
 |.inl k,v=>kF k v
 |.inr x,v=>Value.isStrOf x v
def ajn(w:cX):Key->Int
 |.inl k=>hashInt k
 |.inr x=>hashStr w x
theorem jE:∀{k:Key}{v:aX},wA k v=ae->(∃i t,k=cN i/\v=l6 i t)\/(∃x t,k=iM x/\v=Ai x t)
 |.inl i,v,h=>by
  obtain⟨t,e⟩:=V3 (k:=i) (v:=v) h;exact .inl ⟨i,t,rfl,e⟩
 |.inr x,v,h=>by
  obtain⟨t,e⟩:=Value.isStrOf_shape (x:=x) (v:=v) h;exact .inr ⟨x,t,rfl,e⟩
theorem U7(i:Int)(t:Tok):wA (.inl i) (.int i t)=ae:=by simp[wA,kF]
theorem U6(x:Str)(t:Tok):wA (.inr x) (.str x t)=ae:=by simp[wA,Value.isStrOf]
theorem adK(a b:Int):decide ((cN a:Key)=cN b)=(a==b):=by
 by_cases e:a=b
 ·subst e;simp
 have h:¬(cN a:Key)=cN b:=fun q=>e (qi q);rw[gX h];exact(beq_eq_false_iff_ne.mpr e).symm
theorem adH(a b:Str):decide ((iM a:Key)=iM b)=decide (a=b):=by
 by_cases e:a=b
 ·subst e;simp
 have h:¬(iM a:Key)=iM b:=fun q=>e (Qh q);rw[gX h,gX e]
theorem adJ(a:Int)(b:Str):decide ((cN a:Key)=iM b)=af:=gX (fun q=>nomatch q)
theorem adI(a:Str)(b:Int):decide ((iM a:Key)=cN b)=af:=gX (fun q=>nomatch q)
def k5(prog:bY)(w:cX):PySem.KeyKind prog w Key where
 is:=wA
 hash:=ajn w
 inj:=fun v a b ha hb=>by
  rcases jE ha with⟨i,t,rfl,rfl⟩|⟨x,t,rfl,rfl⟩
  ·rcases jE hb with⟨j,u,rfl,e⟩|⟨y,u,rfl,e⟩
   ·injection e with e1 _;rw[e1]
   exact nomatch e
  rcases jE hb with⟨j,u,rfl,e⟩|⟨y,u,rfl,e⟩
  ·exact nomatch e
  injection e with e1 _;rw[e1]
 byValue:=fun k v h=>by
  rcases jE h with⟨i,t,rfl,rfl⟩|⟨x,t,rfl,rfl⟩<;>rfl
 pyHash:=fun hv h=>by
  rcases jE hv with⟨i,t,rfl,rfl⟩|⟨x,t,rfl,rfl⟩
  ·exact wpAny_pyHash_int h
  exact wpAny_pyHash_str h
 eqBool:=fun hu hv h=>by
  rcases jE hu with⟨i,t,rfl,rfl⟩|⟨x,t,rfl,rfl⟩
  ·rcases jE hv with⟨j,u,rfl,rfl⟩|⟨y,u,rfl,rfl⟩
   ·rw[adK]at h;exact wpAny_eqBool_int h
   rw[adJ]at h;exact NW i t y u _ _ _ _ h
  rcases jE hv with⟨j,u,rfl,rfl⟩|⟨y,u,rfl,rfl⟩
  ·rw[adI]at h;exact NV x t j u _ _ _ _ h
  rw[adH]at h;exact wpAny_eqBool_str h
 «strs»:=fun k x t v h=>by
  rcases jE h with⟨i,u,rfl,e⟩|⟨y,u,rfl,e⟩
  ·exact nomatch e
  injection e with e1 _
  subst e1;cases v<;>rfl
theorem Pb(prog:bY)(w:cX)(i:Int)(t:Tok):(k5 prog w).is (.inl i) (.int i t)=ae:=U7 i t
theorem Pa(prog:bY)(w:cX)(x:Str)(t:Tok):(k5 prog w).is (.inr x) (.str x t)=ae:=U6 x t
inductive V where
 |j7|bl (b:Bool)|int (i:Int)|str (x:Str)|VF (b:Array UInt8)|flt (b:UInt64)|ref (a:Addr)|ty (n:String)
 deriving DecidableEq
abbrev ao:=List V
abbrev aq:=List (Str×V)
def RelV:V->aX->Prop
 |.j7,u=>u=eG
 |.bl b,u=>u=Value.bool b
 |.int i,u=>∃t,u=l6 i t
 |.str x,u=>∃t,u=Ai x t
 |.VF b,u=>∃t,u=Value.bytes b t
 |.flt b,u=>∃t,u=Value.float b t
 |.ref a,u=>u=cu a
 |.ty n,u=>u=iV n
abbrev Vals:ao->au->Prop:=fM RelV
theorem Vals.length{xs:ao}{us:au}(r:Vals xs us):xs.length=us.length:=dO r
theorem Vals.get:∀{xs:ao}{us:au}{i:Nat}{x:V},Vals xs us->xs[i]?=aa x->∃u,us[i]?=aa u/\RelV x u
 |_,_,_,_,.nil,e=>by simp at e
 |_,_,0,_,.cons r _,e=>by simp at e;subst e;exact⟨_,rfl,r⟩
 |_,_,i+1,x,.cons _ t,e=>by
  obtain⟨u,h1,h2⟩:=Vals.get (i:=i) (x:=x) t (by simpa using e);exact⟨u,by simpa using h1,h2⟩
theorem Vals.set{x:V}{u:aX}(r:RelV x u):∀{xs:ao}{us:au}(i:Nat),Vals xs us->Vals (xs.set i x) (us.set i u)
 |_,_,_,.nil=>.nil
 |_,_,0,.cons _ t=>.cons r t
 |_,_,i+1,.cons q t=>.cons q (Vals.set r i t)
theorem Vals.append:∀{xs ys:ao}{us ws:au},Vals xs us->Vals ys ws->Vals (xs++ys) (us++ws)
 |_,_,_,_,.nil,s=>s
 |_,_,_,_,.cons r t,s=>.cons r (Vals.append t s)
theorem Vals.take:∀{xs:ao}{us:au}(n:Nat),Vals xs us->Vals (xs.take n) (us.take n)
 |_,_,0,_=>.nil
 |_,_,_+1,.nil=>.nil
 |_,_,n+1,.cons r t=>.cons r (Vals.take n t)
theorem Vals.drop:∀{xs:ao}{us:au}(n:Nat),Vals xs us->Vals (xs.drop n) (us.drop n)
 |_,_,0,r=>r
 |_,_,_+1,.nil=>.nil
 |_,_,n+1,.cons _ t=>Vals.drop n t
def qW:Option V->Option aX->Prop
 |some v,aa u=>RelV v u
 |none,ab=>True
 |_,_=>False
def KV{κ:Type}:List (κ×V)->List (κ×aX)->Prop:=fM fun(p:κ×V)(q:κ×aX)=>p.1=q.1/\RelV p.2 q.2
def kV:Key->V
 |.inl i=>.int i
 |.inr x=>.str x
inductive HO where
 |lst (xs:ao)
 |tup (xs:ao)
 |dK (ef:List (Key×V))|dT (ef:List (List Key×V))
 |set (S:Int->Bool) (n:Nat)
 |ins (C dx:Addr) (fs:aq)
 |own (x:Addr)
 |xd (fs:aq)
 |met (f x:Addr)
 |Z3 (lo hi:Int)
 |Vl (o:Obj) (u:HO)
 |F4 (ps:Array aX)
 |ext (φ:Heap->Prop)
abbrev Hp:=Addr->Option HO
def upd(H:Hp)(a:Addr)(o:HO):Hp:=fun b=>if b=a then aa o else H b
theorem bf{H:Hp}{a:Addr}{o:HO}:upd H a o a=aa o:=by unfold upd;rw[da rfl]
theorem bB{H:Hp}{a b:Addr}{o:HO}(h:b≠a):upd H a o b=H b:=by unfold upd;rw[cQ h]
theorem lE{H:Hp}{a b:Addr}{o u:HO}(h:H a=aa o)(h':H b=aa u)(d:o≠u):a≠b:=by
 intro e;subst e;rw[h]at h';exact d (bT h')
theorem bP{H:Hp}{a b:Addr}{o:HO}(h:H a=aa o)(h':H b=ab):a≠b:=by
 intro e;subst e;rw[h]at h';cases h'
section
variable(P:bY)(w:cX)
def jc(H:Hp)(h:Heap)(a:Addr):HO->Prop
 |.lst xs=>xs.length<=bz/\∃(its:au)(n:Nat),Vals xs its/\h.get? a=aa {cls:=.type "list",data:=.seq its.toArray n}
 |.tup xs=>xs.length<=bz/\∃its:au,Vals xs its/\IsTup h a its.toArray
 |.dK ef=>ef.length<=bz/\(a==jK)=af/\∃vs,KV ef vs/\h.DictOf (k5 P w) a vs
 |.dT ef=>ef.length<=bz/\(a==jK)=af/\∃xs:List (List Key×Addr×aX),
  fM (fun(p:List Key×V)(q:List Key×Addr×aX)=>p.1=q.1/\H q.2.1=aa (.tup (p.1.map kV))/\RelV p.2 q.2.2) ef xs/\
  ∃o es ep,h.get? a=aa o/\o.ExactDict/\o.data=.dict es ep/\es.toList=xs.map (entryOfKey (NB (k5 P w)))/\(xs.map (·.1)).Nodup
 |.set S n=>h.SetOf (jQ P w) a S n
 |.ins C dx fs=>H dx=aa (.own a)/\fs.length<=1000/\dx≠a/\h.get? a=aa (jC C dx)/\
  ∃mA,h.Ns1 dx mA/\(∀f,qW (fs.lookup f) (mA f))/\oV mA (fs.map (·.1))
 |.own _=>∃o,h.get? a=aa o
 |.xd fs=>∃mA,h.Ns1 a mA/\∀f,qW (fs.lookup f) (mA f)
 |.Z3 lo hi=>∃t u v,h.get? a=aa {cls:=.type "range",data:=.fields #[.int lo t,.int hi u,.int 1 v]}
 |.Vl o u=>h.get? a=aa o/\jc H h a u
 |.F4 ps=>h.get? a=aa {cls:=.none,data:=.fields ps}
 |.met f x=>h.get? a=aa (CY (.ref f) (.ref x))
 |.ext φ=>φ h/\(∃o,h.get? a=aa o)/\∀h1 h2:Heap,φ h1->(∀o,h1.get? a=aa o->h2.get? a=aa o)->φ h2
def yq(H:Hp)(h:Heap):Prop:=∀a o,H a=aa o->jc P w H h a o
end
section
variable{P:bY}{w:cX}{H H':Hp}{h h':Heap}{a:Addr}{o:HO}
theorem jc.lt(x:jc P w H h a o):a<h.objs.size:=by
 cases o with
 |lst xs=>obtain⟨_,_,_,_,e⟩:=x;exact bG e
 |tup xs=>obtain⟨_,_,_,p⟩:=x;exact p.lt
 |dK ef=>obtain⟨_,_,_,_,o,_,_,e,_⟩:=x;exact bG e
 |dT ef=>obtain⟨_,_,_,_,o,_,_,e,_⟩:=x;exact bG e
 |set S n=>obtain⟨o,_,_,_,e,_⟩:=x;exact bG e
 |ins C dx fs=>obtain⟨_,_,_,e,_⟩:=x;exact bG e
 |own y=>obtain⟨_,e⟩:=x;exact bG e
 |xd fs=>obtain⟨_,⟨_,_,_,e,_⟩,_⟩:=x;exact bG e
 |Z3 lo hi=>obtain⟨_,_,_,e⟩:=x;exact bG e
 |Vl ob u=>obtain⟨e,_⟩:=x;exact bG e
 |F4 ps=>exact bG (show h.get? a=aa _ from x)
 |met f y=>exact bG (show h.get? a=aa _ from x)
 |ext φ=>obtain⟨_,⟨_,e⟩,_⟩:=x;exact bG e
theorem Paired.sI{α β:Type}{F G:α->β->Prop}:∀{l₁:List α}{l₂:List β},fM F l₁ l₂->(∀a b,F a b->G a b)->fM G l₁ l₂
 |_,_,.nil,_=>.nil
 |_,_,.cons r t,f=>.cons (f _ _ r) (Paired.sI t f)
theorem jc.tM(x:jc P w H h a o)(k:∀b u,(b=a\/H b=aa (.own a))->h.get? b=aa u->h'.get? b=aa u)
 (ho:∀b,H b=aa (.own a)->H' b=aa (.own a))(ht:∀b xs,H b=aa (.tup xs)->H' b=aa (.tup xs)):jc P w H' h' a o:=by
 induction o with
 |lst xs=>obtain⟨z,its,n,r,e⟩:=x;exact⟨z,its,n,r,k _ _ (.inl rfl) e⟩
 |tup xs=>obtain⟨z,its,r,ob,e,c⟩:=x;exact⟨z,its,r,ob,k _ _ (.inl rfl) e,c⟩
 |dK ef=>obtain⟨z,y,vs,r,ob,es,ep,e,c⟩:=x;exact⟨z,y,vs,r,ob,es,ep,k _ _ (.inl rfl) e,c⟩
 |dT ef=>
  obtain⟨z,y,xs,r,ob,es,ep,e,c⟩:=x
  exact⟨z,y,xs,Paired.sI r fun p q z=>⟨z.1,ht _ _ z.2.1,z.2.2⟩,ob,es,ep,k _ _ (.inl rfl) e,c⟩
 |set S n=>obtain⟨ob,es,ep,t,e,c⟩:=x;exact⟨ob,es,ep,t,k _ _ (.inl rfl) e,c⟩
 |ins C dx fs=>
  obtain⟨d,z,ne,e,mA,⟨od,es,ep,e2,c⟩,r⟩:=x
  exact⟨ho _ d,z,ne,k _ _ (.inl rfl) e,mA,⟨od,es,ep,k _ _ (.inr d) e2,c⟩,r⟩
 |own y=>obtain⟨ob,e⟩:=x;exact⟨ob,k _ _ (.inl rfl) e⟩
 |xd fs=>obtain⟨mA,⟨od,es,ep,e,c⟩,r⟩:=x;exact⟨mA,⟨od,es,ep,k _ _ (.inl rfl) e,c⟩,r⟩
 |Z3 lo hi=>obtain⟨t,u,v,e⟩:=x;exact⟨t,u,v,k _ _ (.inl rfl) e⟩
 |Vl ob u ih=>obtain⟨e,q⟩:=x;exact⟨k _ _ (.inl rfl) e,ih q⟩
 |F4 ps=>
  have e:h.get? a=aa {cls:=.none,data:=.fields ps}:=x
  show h'.get? a=aa {cls:=.none,data:=.fields ps}
  exact k a _ (.inl rfl) e
 |met f y=>
  have e:h.get? a=aa (CY (.ref f) (.ref y)):=x
  show h'.get? a=aa (CY (.ref f) (.ref y))
  exact k a _ (.inl rfl) e
 |ext φ=>obtain⟨p,⟨o,e⟩,st⟩:=x;exact⟨st _ _ p fun o q=>k _ _ (.inl rfl) q,⟨o,k _ _ (.inl rfl) e⟩,st⟩
theorem yq.lt(x:yq P w H h)(e:H a=aa o):a<h.objs.size:=(x a o e).lt
theorem yq.fresh(x:yq P w H h)(e:h.objs.size<=a):H a=ab:=by
 cases q:H a with
 |none=>rfl
 |some u=>exact absurd (bJ (x.lt q) e) (gC _)
theorem yq.kept(x:yq P w H h)(k:∀b u,h.get? b=aa u->h'.get? b=aa u):yq P w H h':=fun a o e=>
 (x a o e).tM (fun b u _ q=>k b u q) (fun _ q=>q) fun _ _ q=>q
theorem yq.laid(x:yq P w H h)(k:∀b u,h.get? b=aa u->h'.get? b=aa u)(hp:h.objs.size<=a)(new:jc P w (upd H a o) h' a o):yq P w (upd H a o) h':=fun b u e=>by
 have hn:=x.fresh hp;by_cases hb:b=a
 ·subst hb;rw[bf]at e;cases e;exact new
 rw[bB hb]at e;exact(x b u e).tM (fun c v _ q=>k c v q) (fun c q=>by rw[bB (bP q hn)];exact q) fun c xs q=>by rw[bB (bP q hn)];exact q
end
def Rd(H:Hp)(a:Addr)(u:HO):Prop:=H a=aa u\/∃o,H a=aa (.Vl o u)
theorem Rd.ok{P:bY}{w:cX}{H:Hp}{h:Heap}{a:Addr}{u:HO}(r:Rd H a u)(x:yq P w H h):jc P w H h a u:=by
 rcases r with r|⟨o,r⟩
 ·exact x a u r
 obtain⟨_,q⟩:=x a _ r;exact q
def Mut:Option HO->Prop
 |some (.lst _)=>True
 |some (.dK _)=>True
 |some (.dT _)=>True
 |some (.set _ _)=>True
 |some (.ins _ _ _)=>True
 |some (.ext _)=>True
 |_=>False
section
variable{P:bY}{w:cX}{H:Hp}{h h':Heap}{x e:Addr}{o':HO}
theorem yq.write(ok:yq P w H h)(mu:Mut (H x))(he:e=x\/H e=aa (.own x))(k:∀b u,b≠e->h.get? b=aa u->h'.get? b=aa u)(heo:∃u,h'.get? e=aa u)
 (new:jc P w (upd H x o') h' x o'):yq P w (upd H x o') h':=fun b u q=>by
 have af7:∀c y,H c=aa (.own y)->c≠x:=fun c y r z=>by subst z;rw[r]at mu;exact mu
 have ai2:∀c xs,H c=aa (.tup xs)->c≠x:=fun c xs r z=>by subst z;rw[r]at mu;exact mu
 by_cases hb:b=x
 ·subst hb;rw[bf]at q;cases q;exact new
 rw[bB hb]at q
 by_cases hbe:b=e
 ·have q':H b=aa (.own x):=by
   rcases he with z|z
   ·exact absurd (hbe.trans z) hb
   rw[hbe];exact z
  rw[q]at q';cases q'
  obtain⟨v,hv⟩:=heo
  exact⟨v,by rw[hbe];exact hv⟩
 refine(ok b u q).tM (fun c v hc r=>k c v ?_ r) (fun c r=>by rw[bB (af7 c b r)];exact r) fun c xs r=>by rw[bB (ai2 c xs r)];exact r
 rcases hc with rfl|hc
 ·exact hbe
 rintro rfl
 rcases he with z|z
 ·exact af7 c b hc z
 rw[hc]at z;cases z;exact hb rfl
end
structure Un(fs ex:ag)(H H':Hp)(h h':Heap):Prop where
 keep:∀b o,h.get? b=aa o->H b=ab->b∉fs->b∉ex->h'.get? b=aa o
 slot:∀b o,h.get? b=aa o->H b=ab->b∈fs->b∉ex->∃sl,h'.get? b=aa {o with slots:=sl}
 free:∀b o,h.get? b=aa o->H b=ab->b∉ex->H' b=ab
 there:∀b o,h.get? b=aa o->b∉ex->∃o',h'.get? b=aa o'
 Fb:∀b xs,H b=aa (.tup xs)->H' b=aa (.tup xs)
 Iu:∀b o u,H b=aa (.Vl o u)->H' b=aa (.Vl o u)
 GJ:∀b ps,H b=aa (.F4 ps)->∃more,H' b=aa (.F4 (ps++more))
section
variable{fs fs' ex ex':ag}{H H1 H2:Hp}{h h1 h2 h':Heap}{a x e:Addr}{o:HO}
theorem Un.any(u:Un fs ex H H1 h h1){b:Addr}{ob:Obj}(q:h.get? b=aa ob)(n:H b=ab)(hx:b∉ex):∃sl,h1.get? b=aa {ob with slots:=sl}:=by
 by_cases hb:b∈fs
 ·exact u.slot b ob q n hb hx
 exact⟨ob.slots,u.keep b ob q n hb hx⟩
theorem Un.kept(k:∀b u,h.get? b=aa u->h'.get? b=aa u):Un fs ex H H h h':=
 ⟨fun b ob q _ _ _=>k b ob q,fun b ob q _ _ _=>⟨ob.slots,k b ob q⟩,fun _ _ _ n _=>n,fun b ob q _=>⟨ob,k b ob q⟩,fun _ _ q=>q,fun _ _ _ q=>q,fun _ ps q=>⟨#[],by rw[q];simp⟩⟩
theorem Un.refl:Un fs ex H H h h:=Un.kept fun _ _ q=>q
theorem Un.laid(k:∀b u,h.get? b=aa u->h'.get? b=aa u)(hp:h.objs.size<=a)(hn:H a=ab):Un fs ex H (upd H a o) h h' where
 keep:=fun b u q _ _ _=>k b u q
 slot:=fun b u q _ _ _=>⟨u.slots,k b u q⟩
 free:=fun b u q n _=>by rw[bB (ck (bJ (bG q) hp))];exact n
 there:=fun b u q _=>⟨u,k b u q⟩
 Fb:=fun b xs q=>by rw[bB (bP q hn)];exact q
 Iu:=fun b u xs q=>by rw[bB (bP q hn)];exact q
 GJ:=fun b ps q=>⟨#[],by rw[bB (bP q hn),q];simp⟩
theorem Un.write(mu:Mut (H x))(he:e=x\/H e=aa (.own x))(k:∀b u,b≠e->h.get? b=aa u->h'.get? b=aa u)(heo:∃u,h'.get? e=aa u):Un fs ex H (upd H x o) h h':=by
 have hx:∀b,H b=ab->b≠x:=fun b n z=>by subst z;rw[n]at mu;exact mu
 have hb:∀b,H b=ab->b≠e:=fun b n z=>by
  subst z;rcases he with r|r
  ·exact hx b n r
  rw[n]at r;cases r
 have hm:∀b u,H b=aa u->¬Mut (aa u)->b≠x:=fun b u q nm z=>by subst z;rw[q]at mu;exact nm mu
 refine⟨fun b u q n _ _=>k b u (hb b n) q,fun b u q n _ _=>⟨u.slots,k b u (hb b n) q⟩,fun b u q n _=>by rw[bB (hx b n)];exact n,fun b u q _=>?_,
  fun b xs q=>by rw[bB (hm b _ q fun z=>z)];exact q,fun b u xs q=>by rw[bB (hm b _ q fun z=>z)];exact q,fun b ps q=>⟨#[],by rw[bB (hm b _ q fun z=>z),q];simp⟩⟩
 by_cases hbe:b=e
 ·subst hbe;exact heo
 exact⟨u,k b u hbe q⟩
end
def trk(h:Heap)(H:Hp):ag:=(bw h.objs.size).filter fun a=>(H a).isSome
def JL(h:Heap)(H:Hp):Heap:=PySem.W.hideAll h (trk h H)
theorem Vc(h:Heap)(H:Hp):(JL h H).objs.size=h.objs.size:=PySem.W.hideAll_size _ _
theorem Yb{h:Heap}{H:Hp}{b:Addr}{o:Obj}(e:h.get? b=aa o)(n:H b=ab):(JL h H).get? b=aa o:=
 PySem.W.hideAll_get _ e fun hm=>by
  have q:(H b).isSome=ae:=(cI.mp hm).2;rw[n]at q;simp at q
theorem aaj{h:Heap}{H:Hp}{b:Addr}{o:Obj}(e:(JL h H).get? b=aa o):h.get? b=aa o/\H b=ab:=by
 have e':h.get? b=aa o:=PySem.W.of_hideAll (trk h H) e;refine⟨e',?_⟩;cases q:H b with
 |none=>rfl
 |some x=>
  have hm:b∈trk h H:=cI.mpr ⟨cn.mpr (bG e'),by simp[q]⟩;have z:(JL h H).get? b=ab:=PySem.W.hideAll_none (trk h H) hm;rw[z]at e;cases e
structure Mod(K:aY)(mg:aj)(base:Heap):Prop where
 kin:K.In base
 glob:base.Ns cV mg
 blt:∃mb,base.Ns AZ mb/\∀x:Str,x≠"__name__"->mb x=ip x
 nolimit:base.NoLimit
structure Cx where
 prog:bY
 w:cX
 K:aY
 mg:aj
 base:Heap
 A:cZ
 N:ak
 DE:a9
 H_0:Hp
 env:Env
 outer:List Env
 stack:List Env
 ex:ag
 fn:Str->Bool
 calm:Bool
 pn:ah
 xe:ar
def RL(l:List Env):ag:=l.filterMap (·.frame)
abbrev Cx.fs(X:Cx):ag:=RL X.outer
def Vis(sc:kG)(x:Str):Prop:=sc.names.lookup x=aa .local\/sc.names.lookup x=aa .cell\/sc.names.lookup x=aa .free
def Loc(sc:kG)(x:Str):Prop:=sc.names.lookup x=aa .local\/sc.names.lookup x=aa .cell
def Look(env:Env)(h:Heap)(m:aj)(x:Str)(u:aX):Prop:=
 (env.kindOf x=aa .local/\m x=aa u)\/((env.kindOf x=aa .cell\/env.kindOf x=aa .free)/\∃c,env.cells.lookup x=aa c/\h.IsCell c (aa u))
structure Cx.Ok(X:Cx):Prop where
 mod:Mod X.K X.mg X.base
 kind:X.env.scope.kind=.function
 glob:X.env.globals=cV
 blt:X.env.builtins=AZ
 above:X.DE.heap.objs.size<=X.env.locals
 inj:∀x y c,X.env.cells.lookup x=aa c->X.env.cells.lookup y=aa c->x=y
 has:∀x,(X.env.kindOf x=aa .cell\/X.env.kindOf x=aa .free)->∃c,X.env.cells.lookup x=aa c
 cab:∀x c,X.fn x=ae->X.env.cells.lookup x=aa c->X.DE.heap.objs.size<=c
 hd:X.calm=ae->X.A.handled=ab
 frames:X.A.frames=aa X.stack
 QS:X.stack=X.outer\/(X.stack=X.env::X.outer/\X.env.frame=aa X.env.locals)
 exf:∀b∈X.ex,b≠X.env.locals/\∀x c,X.env.cells.lookup x=aa c->c≠b
 bs:∀b o,X.base.get? b=aa o->X.DE.heap.get? b=aa o/\X.H_0 b=ab
 Sb:X.base.objs.size<=X.DE.heap.objs.size
 L8:∀b o,X.base.get? b=aa o->b∉X.ex
 MI:∀b∈X.ex,b∉X.fs
 yb:X.DE.heap.FunFrames X.base X.outer
 Vm:∀b∈X.fs,X.H_0 b=ab
structure Inv(X:Cx)(pins:ah)(σ:List (Option V))(H:Hp)(s:a9):Prop where
 ok:X.Ok
 os:s.os=X.DE.os
 bare:E9 s.gens
 base:Un X.fs X.ex X.H_0 H X.DE.heap s.heap
 loc:∃m,s.heap.Ns X.env.locals m/\∀(i:Nat)(x:Str)(v:V),X.N[i]?=aa x->σ[i]?=aa (aa v)->Vis X.env.scope x->∃u,RelV v u/\Look X.env s.heap m x u
 cell:∀x c,X.env.cells.lookup x=aa c->∃v,s.heap.IsCell c v
 free:H X.env.locals=ab
 p0:∀x c,X.env.cells.lookup x=aa c->H c=ab
 pin:∀p∈X.pn++pins,s.heap.get? p.1=aa p.2/\H p.1=ab/\p.1≠X.env.locals/\p.1∉X.fs/\∀v,p.2.data≠ .cell v
 gx:yq X.prog X.w H s.heap
 len:σ.length=X.N.length
section
variable{X:Cx}{pins:ah}{σ:List (Option V)}{H H':Hp}{s:a9}{h':Heap}
theorem Cx.Ok.ai7(ok:X.Ok){b:Addr}{o:Obj}(e:X.base.get? b=aa o):b∉X.fs:=fun hb=>by
 have:=(ok.yb.mem hb).1;rw[e]at this;cases this
theorem Inv.bs(I:Inv X pins σ H s):∀b o,X.base.get? b=aa o->s.heap.get? b=aa o/\H b=ab:=fun b o e=>
 ⟨I.base.keep b o (I.ok.bs b o e).1 (I.ok.bs b o e).2 (I.ok.ai7 e) (I.ok.L8 b o e),I.base.free b o (I.ok.bs b o e).1 (I.ok.bs b o e).2 (I.ok.L8 b o e)⟩
theorem Inv.bk(I:Inv X pins σ H s):∀b o,X.base.get? b=aa o->s.heap.get? b=aa o:=fun b o e=>(I.bs b o e).1
theorem Inv.mod(I:Inv X pins σ H s):Mod X.K X.mg X.base:=I.ok.mod
theorem Inv.wQ(I:Inv X pins σ H s):X.K.In s.heap:=I.ok.mod.kin.keeps I.bk
theorem Inv.nolimit(I:Inv X pins σ H s):s.heap.NoLimit:=I.ok.mod.nolimit.keeps I.bk
theorem Inv.fr(I:Inv X pins σ H s):∃m,Fr X.base X.env.locals s.heap m:=
 let⟨m,hn,_⟩:=I.loc
 ⟨m,hn,I.bk,cR I.ok.Sb I.ok.above⟩
theorem Inv.lt(I:Inv X pins σ H s):X.env.locals<s.heap.objs.size:=let⟨_,hn,_⟩:=I.loc;hn.lt
theorem Inv.sz(I:Inv X pins σ H s):X.DE.heap.objs.size<=s.heap.objs.size:=cR I.ok.above (du I.lt)
theorem Inv.ai6(I:Inv X pins σ H s){a:Addr}(h:s.heap.objs.size<=a):a∉X.fs:=fun hb=>by
 obtain⟨_,o,ho,_⟩:=I.ok.yb.mem hb;exact absurd (bJ (bG ho) (cR I.sz h)) (gC _)
theorem Inv.cne(I:Inv X pins σ H s):∀x c,X.env.cells.lookup x=aa c->c≠X.env.locals:=fun x c e z=>by
 obtain⟨v,o,ho,hd⟩:=I.cell x c e;obtain⟨m,⟨o',es,ep,EV,hd',_⟩,_⟩:=I.loc;rw[z,EV]at ho;cases ho;rw[hd']at hd;cases hd
theorem Inv.yb(I:Inv X pins σ H s):s.heap.FunFrames X.base X.outer:=by
 have all:∀(l:List Env),(∀b∈RL l,b∈X.fs)->X.DE.heap.FunFrames X.base l->s.heap.FunFrames X.base l:=by
  intro l;induction l with
  |nil=>intro _ _;trivial
  |cons env r ih=>
   intro hs hl;obtain⟨hk,⟨L,o,hf,hn,ho,hd⟩,hr⟩:=hl;have hL:L∈X.fs:=hs L (by unfold RL;rw[Bm,hf];exact bO);obtain⟨sl,e⟩:=I.base.slot L o ho (I.ok.Vm L hL) hL fun z=>I.ok.MI L z hL;exact⟨hk,⟨L,_,hf,hn,e,hd⟩,ih (fun b hb=>hs b (by unfold RL;rw[Bm,hf];exact bD _ hb)) hr⟩
 exact all X.outer (fun _ hb=>hb) I.ok.yb
theorem Inv.stack(I:Inv X pins σ H s):s.heap.FunFrames X.base X.stack:=by
 rcases I.ok.QS with e|⟨e,hf⟩
 ·rw[e];exact I.yb
 rw[e];obtain⟨m,hn,_⟩:=I.loc;refine .cons (by rw[I.ok.kind];decide) hf hn ?_ I.yb;exact Heap.get?_none_of_le (cR I.ok.Sb I.ok.above)
theorem Inv.QR(I:Inv X pins σ H s):∀b∈RL X.stack,b∈X.env.locals::X.fs:=fun b hb=>by
 rcases I.ok.QS with e|⟨e,hf⟩
 ·rw[e]at hb;exact bD _ hb
 rw[e]at hb;unfold RL at hb;rw[Bm,hf]at hb;exact hb
theorem Inv.Lv(I:Inv X pins σ H s):∀b∈RL X.stack,H b=ab:=fun b hb=>by
 rcases bQ.mp (I.QR b hb)with e|hb
 ·rw[e];exact I.free
 obtain⟨_,o,ho,_⟩:=I.ok.yb.mem hb;exact I.base.free b o ho (I.ok.Vm b hb) fun z=>I.ok.MI b z hb
theorem Inv.step{g':Array Kc}{t':Nat}{d':Drawn}{ch:ag}(I:Inv X pins σ H s)
 (Ve:∀b∈ch,(b∈X.ex\/X.DE.heap.objs.size<=b)/\b≠X.env.locals/\(∀x c,X.env.cells.lookup x=aa c->c≠b)/\∀p∈X.pn++pins,p.1≠b)
 (keep:∀b o,b≠X.env.locals->b∉X.fs->b∉ch->s.heap.get? b=aa o->H b=ab->h'.get? b=aa o)
 (slot:∀b o,b≠X.env.locals->b∈X.fs->b∉ch->s.heap.get? b=aa o->H b=ab->∃sl,h'.get? b=aa {o with slots:=sl})(free:∀b o,b∉ch->s.heap.get? b=aa o->H b=ab->H' b=ab)
 (there:∀b o,b∉ch->s.heap.get? b=aa o->∃o',h'.get? b=aa o')
 (Fb:∀b xs,H b=aa (.tup xs)->H' b=aa (.tup xs))(Iu:∀b o u,H b=aa (.Vl o u)->H' b=aa (.Vl o u))(GJ:∀b ps,H b=aa (.F4 ps)->∃more,H' b=aa (.F4 (ps++more)))
 (ns:∀m,s.heap.Ns X.env.locals m->h'.Ns X.env.locals m)(gx:yq X.prog X.w H' h')(hg:E9 g'):
 Inv X pins σ H' {s with heap:=h',gens:=g',drawn:=d',toks:=t'}:=by
 have neL:∀b o,X.DE.heap.get? b=aa o->b≠X.env.locals:=fun b o e=>ck (bJ (bG e) I.ok.above)
 have neC:∀b o,X.DE.heap.get? b=aa o->b∉X.ex->b∉ch:=fun b o e hx hb=>by
  rcases(Ve b hb).1 with z|z
  ·exact hx z
  exact absurd (bJ (bG e) z) (gC _)
 have cellK:∀x c,X.env.cells.lookup x=aa c->∀v,s.heap.IsCell c v->h'.IsCell c v:=fun x c e v ⟨o,ho,hd⟩=>by
  have nch:c∉ch:=fun z=>(Ve c z).2.2.1 x c e rfl;by_cases hc:c∈X.fs
  ·obtain⟨sl,q⟩:=slot c o (I.cne x c e) hc nch ho (I.p0 x c e);exact⟨_,q,hd⟩
  exact⟨o,keep c o (I.cne x c e) hc nch ho (I.p0 x c e),hd⟩
 refine⟨I.ok,I.os,hg,⟨fun b o e n hb hx=>?_,fun b o e n hb hx=>?_,fun b o e n hx=>?_,fun b o e hx=>?_,fun b xs e=>Fb b xs (I.base.Fb b xs e),fun b o xs e=>Iu b o xs (I.base.Iu b o xs e),fun b ps e=>?_⟩,?_,fun x c e=>?_,?_,fun x c e=>?_,fun p hp=>?_,gx,I.len⟩
 ·exact keep b o (neL b o e) hb (neC b o e hx) (I.base.keep b o e n hb hx) (I.base.free b o e n hx)
 ·obtain⟨sl,e1⟩:=I.base.slot b o e n hb hx
  obtain⟨sl',e2⟩:=slot b _ (neL b o e) hb (neC b o e hx) e1 (I.base.free b o e n hx)
  exact⟨sl',e2⟩
 ·obtain⟨o',e1⟩:=I.base.there b o e hx
  exact free b o' (neC b o e hx) e1 (I.base.free b o e n hx)
 ·obtain⟨o',e1⟩:=I.base.there b o e hx
  exact there b o' (neC b o e hx) e1
 ·obtain⟨m1,e1⟩:=I.base.GJ b ps e
  obtain⟨m2,e2⟩:=GJ b _ e1
  exact⟨m1++m2,by rw[e2,Array.append_assoc]⟩
 ·obtain⟨m,hn,hl⟩:=I.loc
  refine⟨m,ns m hn,fun i x v e1 e2 e3=>?_⟩
  obtain⟨u,r,l⟩:=hl i x v e1 e2 e3
  refine⟨u,r,?_⟩
  rcases l with l|⟨k,c,e,z⟩
  ·exact .inl l
  exact .inr ⟨k,c,e,cellK x c e _ z⟩
 ·obtain⟨v,z⟩:=I.cell x c e
  exact⟨v,cellK x c e v z⟩
 ·obtain⟨m,⟨o,_,_,ho,_⟩,_⟩:=I.loc
  exact free _ o (fun z=>(Ve _ z).2.1 rfl) ho I.free
 ·obtain⟨v,o,ho,hd⟩:=I.cell x c e
  exact free c o (fun z=>(Ve c z).2.2.1 x c e rfl) ho (I.p0 x c e)
 obtain⟨e,n,ne,nf,d⟩:=I.pin p hp
 have nch:p.1∉ch:=fun z=>(Ve p.1 z).2.2.2 p hp rfl
 exact⟨keep p.1 p.2 ne nf nch e n,free p.1 p.2 nch e n,ne,nf,d⟩
theorem Inv.un{t':Nat}(I:Inv X pins σ H s)(u:Un X.fs [] H H' s.heap h')(gx:yq X.prog X.w H' h'):Inv X pins σ H' {s with heap:=h',toks:=t'}:=by
 obtain⟨m,⟨o,es,ep,ho,r⟩,_⟩:=id I.loc;obtain⟨sl,hL⟩:=u.any ho I.free (by simp)
 exact I.step (g':=s.gens) (d':=s.drawn) (ch:=[]) (fun _ z=>nomatch z) (fun b o _ hb _ e n=>u.keep b o e n hb (by simp)) (fun b o _ hb _ e n=>u.slot b o e n hb (by simp)) (fun b o _ e n=>u.free b o e n (by simp)) (fun b o _ e=>u.there b o e (by simp)) u.Fb u.Iu u.GJ (fun m' hm=>by
  obtain⟨o',Vs,ep',EV,r'⟩:=hm;rw[ho]at EV;cases EV;exact⟨_,Vs,ep',hL,r'⟩) gx I.bare
theorem Inv.call{g':Array Kc}{t':Nat}{d':Drawn}{ch:ag}(I:Inv X pins σ H s)(u:Un (RL X.stack) ch H H' s.heap h')(gx:yq X.prog X.w H' h')(hg:E9 g')
 (Ve:∀b∈ch,(b∈X.ex\/X.DE.heap.objs.size<=b)/\b≠X.env.locals/\(∀x c,X.env.cells.lookup x=aa c->c≠b)/\∀p∈X.pn++pins,p.1≠b):
 Inv X pins σ H' {s with heap:=h',gens:=g',drawn:=d',toks:=t'}:=by
 obtain⟨m,⟨o,es,ep,ho,r⟩,_⟩:=id I.loc
 obtain⟨sl,hL⟩:=u.any ho I.free fun z=>(Ve _ z).2.1 rfl
 exact I.step (ch:=ch) Ve (fun b o hL hb hc e n=>u.keep b o e n (fun z=>(bQ.mp (I.QR b z)).elim hL hb) hc) (fun b o _ _ hc e n=>u.any e n hc) (fun b o hc e n=>u.free b o e n hc) (fun b o hc e=>u.there b o e hc) u.Fb u.Iu u.GJ (fun m' hm=>by
  obtain⟨o',Vs,ep',EV,r'⟩:=hm;rw[ho]at EV;cases EV;exact⟨_,Vs,ep',hL,r'⟩) gx hg
theorem Inv.turned{t':Nat}{it:Addr}(I:Inv X pins σ H s)(k:∀b o,b≠it->s.heap.get? b=aa o->h'.get? b=aa o)(hn:H it=ab)(hL:it≠X.env.locals)
 (h1:it∈X.ex\/X.DE.heap.objs.size<=it)(h2:∀x c,X.env.cells.lookup x=aa c->c≠it)(h3:∀p∈X.pn++pins,p.1≠it):Inv X pins σ H {s with heap:=h',toks:=t'}:=by
 have nit:∀b u,H b=aa u->b≠it:=fun b u e z=>by rw[z,hn]at e;cases e
 refine I.step (g':=s.gens) (d':=s.drawn) (ch:=[it]) (fun b hb=>?_) (fun b o _ _ hc e _=>k b o (fun z=>hc (by simp[z])) e) (fun b o _ _ hc e _=>⟨o.slots,k b o (fun z=>hc (by simp[z])) e⟩) (fun _ _ _ _ n=>n)
  (fun b o hc e=>⟨o,k b o (fun z=>hc (by simp[z])) e⟩) (fun _ _ e=>e) (fun _ _ _ e=>e) (fun b ps e=>⟨#[],by rw[e];simp⟩) (fun m hm=>?_) (fun b u e=>?_) I.bare
 ·have e:b=it:=by simpa using hb
  subst e
  exact⟨h1,hL,h2,h3⟩
 ·obtain⟨o,es,ep,ho,r⟩:=hm
  exact⟨o,es,ep,k _ o (dh hL) ho,r⟩
 refine(I.gx b u e).tM (fun c v hc q=>k c v ?_ q) (fun _ q=>q) fun _ _ q=>q
 rcases hc with z|z
 ·rw[z];exact nit b u e
 exact nit c _ z
theorem Inv.tok(I:Inv X pins σ H s)(t:Nat):Inv X pins σ H {s with toks:=t}:=I.un (h':=s.heap) (t':=t) Un.refl I.gx
theorem Inv.kept{t':Nat}(I:Inv X pins σ H s)(k:∀b u,s.heap.get? b=aa u->h'.get? b=aa u):Inv X pins σ H {s with heap:=h',toks:=t'}:=I.un (Un.kept k) (I.gx.kept k)
theorem Inv.laid{a:Addr}{o:HO}{t':Nat}(I:Inv X pins σ H s)(k:∀b u,s.heap.get? b=aa u->h'.get? b=aa u)(hp:s.heap.objs.size<=a)(new:jc X.prog X.w (upd H a o) h' a o):
 Inv X pins σ (upd H a o) {s with heap:=h',toks:=t'}:=I.un (Un.laid k hp (I.gx.fresh hp)) (I.gx.laid k hp new)
theorem Inv.write{x e:Addr}{o:HO}{t':Nat}(I:Inv X pins σ H s)(mu:Mut (H x))(he:e=x\/H e=aa (.own x))(k:∀b u,b≠e->s.heap.get? b=aa u->h'.get? b=aa u)(heo:∃u,h'.get? e=aa u)
 (new:jc X.prog X.w (upd H x o) h' x o):Inv X pins σ (upd H x o) {s with heap:=h',toks:=t'}:=I.un (Un.write mu he k heo) (I.gx.write mu he k heo new)
theorem Inv.weak{σ':List (Option V)}(I:Inv X pins σ H s)(hl:σ'.length=σ.length)(w:∀(i:Nat) v,σ'[i]?=aa (aa v)->σ[i]?=aa (aa v)):Inv X pins σ' H s:=
 ⟨I.ok,I.os,I.bare,I.base,let⟨m,hn,NR⟩:=I.loc;⟨m,hn,fun i x v e1 e2 e3=>NR i x v e1 (w i v e2) e3⟩,I.cell,I.free,I.p0,I.pin,I.gx,hl.trans I.len⟩
theorem Inv.BD{abN:ah}(I:Inv X pins σ H s)(h:∀p∈abN,s.heap.get? p.1=aa p.2/\H p.1=ab/\p.1≠X.env.locals/\p.1∉X.fs/\∀v,p.2.data≠ .cell v):Inv X abN σ H s:=
 ⟨I.ok,I.os,I.bare,I.base,I.loc,I.cell,I.free,I.p0,fun p hp=>(d7.mp hp).elim (fun z=>I.pin p (fK _ z)) (h p),I.gx,I.len⟩
theorem BQ{N:ak}(hN:N.Nodup){i j:Nat}{x:Str}(a:N[i]?=aa x)(b:N[j]?=aa x):i=j:=by
 obtain⟨h1,e1⟩:=aZ.mp a;obtain⟨h2,e2⟩:=aZ.mp b;exact(Gz hN).mp (e1.trans e2.symm)
theorem Ko{M:Gx}{A:cZ}{E:ar}{i:Nat}{x:Str}{v:V}{u:aX}{Q:Unit->a9->Prop}(I:Inv X pins σ H s)(hN:X.N.Nodup)(hi:X.N[i]?=aa x)(hx:Loc X.env.scope x)(r:RelV v u)
 (h:∀s',Inv X pins (σ.set i (aa v)) H s'->(∃a,kQ a s.heap s'.heap/\(a=X.env.locals\/X.env.cells.lookup x=aa a))->Q () s')(hf:X.fn x=ae\/X.env.scope.names.lookup x=aa .local:=by first|exact .inl rfl|exact .inr rfl|assumption):bM M A (storeName X.env x u) Q E s:=by
 obtain⟨m,hn,hl⟩:=id I.loc
 have aee:(X.env.scope.kind== .class||(X.env.scope.kind== .module&&X.env.locals != X.env.globals))=af:=by rw[I.ok.kind];rfl
 have hiσ:i<σ.length:=by rw[I.len];exact(aZ.mp hi).1
 have cne:=I.cne
 have tracked:∀{a:Addr}{h':Heap},(∃o,s.heap.get? a=aa o/\H a=ab)->kQ a s.heap h'->yq X.prog X.w H h':=fun{a h'} ha hs b ob e=>by
  obtain⟨_,_,KU⟩:=ha;refine(I.gx b ob e).tM (fun c w' hc q=>(hs.2 c ?_).trans q) (fun _ q=>q) fun _ _ q=>q;rintro rfl;rcases hc with rfl|hc
  ·rw[KU]at e;cases e
  rw[KU]at hc;cases hc
 rcases hx with hk|hk
 ·refine wpAny_storeName_local hk hn (fun h' hn' hs=>?_) aee
  obtain⟨oL,_,_,hoL,_⟩:=id hn
  refine h _ ⟨I.ok,I.os,I.bare,⟨fun b o e n hb hx=>?_,fun b o e n hb hx=>?_,I.base.free,fun b o e hx=>?_,I.base.Fb,I.base.Iu,I.base.GJ⟩,⟨_,hn',fun j y v' e1 e2 e3=>?_⟩,fun y c e=>?_,I.free,I.p0,fun p hp=>?_,tracked ⟨oL,hoL,I.free⟩ hs,by simpa using I.len⟩ ⟨_,hs,.inl rfl⟩
  ·exact(hs.2 b (ck (bJ (bG e) I.ok.above))).trans (I.base.keep b o e n hb hx)
  ·obtain⟨sl,e1⟩:=I.base.slot b o e n hb hx
   exact⟨sl,(hs.2 b (ck (bJ (bG e) I.ok.above))).trans e1⟩
  ·obtain⟨o',e1⟩:=I.base.there b o e hx
   exact⟨o',(hs.2 b (ck (bJ (bG e) I.ok.above))).trans e1⟩
  ·by_cases hj:j=i
   ·subst hj
    rw[hi]at e1;cases e1
    rw[o7 hiσ]at e2
    cases e2
    exact⟨u,r,.inl ⟨hk,by simp⟩⟩
   rw[qO (dh hj)]at e2
   obtain⟨u',r',q⟩:=hl j y v' e1 e2 e3
   refine⟨u',r',?_⟩
   rcases q with⟨k,e⟩|⟨k,c,e,z⟩
   ·refine .inl ⟨k,?_⟩
    have:y≠x:=fun e=>hj (BQ hN e1 (e▸hi))
    simp[this,e]
   exact .inr ⟨k,c,e,z.sameBut hs (cne y c e)⟩
  ·obtain⟨w',z⟩:=I.cell y c e
   exact⟨w',z.sameBut hs (cne y c e)⟩
  obtain⟨e,n,ne,nf,d⟩:=I.pin p hp
  exact⟨(hs.2 p.1 ne).trans e,n,ne,nf,d⟩
 have hfn:X.fn x=ae:=by
  rcases hf with z|z
  ·exact z
  rw[z]at hk;cases hk
 obtain⟨c,hc⟩:=I.ok.has x (.inl hk)
 obtain⟨w',z⟩:=I.cell x c hc
 refine wpAny_storeName_cell I.ok.kind hk hc z (fun h' hc' hs=>?_)
 obtain⟨oc,hoc,ajG⟩:=id z
 refine h {s with heap:=h'} ⟨I.ok,I.os,I.bare,⟨fun b o e n hb hx=>?_,fun b o e n hb hx=>?_,I.base.free,fun b o e hx=>?_,I.base.Fb,I.base.Iu,I.base.GJ⟩,⟨m,hn.sameBut hs (dh (cne x c hc)),fun j y v' e1 e2 e3=>?_⟩,fun y c' e=>?_,I.free,I.p0,fun p hp=>?_,tracked ⟨oc,hoc,I.p0 x c hc⟩ hs,by simpa using I.len⟩ ⟨c,hs,.inr hc⟩
 ·exact(hs.2 b (ck (bJ (bG e) (I.ok.cab x c hfn hc)))).trans (I.base.keep b o e n hb hx)
 ·obtain⟨sl,e1⟩:=I.base.slot b o e n hb hx
  exact⟨sl,(hs.2 b (ck (bJ (bG e) (I.ok.cab x c hfn hc)))).trans e1⟩
 ·obtain⟨o',e1⟩:=I.base.there b o e hx
  exact⟨o',(hs.2 b (ck (bJ (bG e) (I.ok.cab x c hfn hc)))).trans e1⟩
 ·by_cases hj:j=i
  ·subst hj
   rw[hi]at e1;cases e1
   rw[o7 hiσ]at e2
   cases e2
   exact⟨u,r,.inr ⟨.inl hk,c,hc,hc'⟩⟩
  rw[qO (dh hj)]at e2
  obtain⟨u',r',q⟩:=hl j y v' e1 e2 e3
  refine⟨u',r',?_⟩
  rcases q with q|⟨k,c',e,z'⟩
  ·exact .inl q
  refine .inr ⟨k,c',e,z'.sameBut hs ?_⟩
  rintro rfl
  exact hj (BQ hN e1 (I.ok.inj _ _ _ e hc▸hi))
 ·by_cases hcc:c'=c
  ·subst hcc;exact⟨_,hc'⟩
  obtain⟨w2,z2⟩:=I.cell y c' e
  exact⟨w2,z2.sameBut hs hcc⟩
 obtain⟨e,n,ne,nf,d⟩:=I.pin p hp
 refine⟨(hs.2 p.1 ?_).trans e,n,ne,nf,d⟩
 intro q
 rw[q,hoc]at e
 have q':oc=p.2:=bT e
 exact d w' (by rw[<-q'];exact ajG)
theorem Bq{M:Gx}{A:cZ}{E:ar}{i:Nat}{x:Str}{v:V}{u:aX}{Q:Unit->a9->Prop}(I:Inv X pins σ H s)(hN:X.N.Nodup)(hi:X.N[i]?=aa x)(hx:Loc X.env.scope x)(r:RelV v u)
 (h:∀s',Inv X pins (σ.set i (aa v)) H s'->Q () s')(hf:X.fn x=ae\/X.env.scope.names.lookup x=aa .local:=by first|exact .inl rfl|exact .inr rfl|assumption):bM M A (storeName X.env x u) Q E s:=
 Ko I hN hi hx r (fun s' I' _=>h s' I') hf
theorem Inv.ab5{s':a9}{ch:ag}(I:Inv X pins σ H s)(ho:s'.os=s.os)(u:Un (RL X.stack) ch H H' s.heap s'.heap)(gx:yq X.prog X.w H' s'.heap)(hg:E9 s'.gens)
 (Ve:∀b∈ch,(b∈X.ex\/X.DE.heap.objs.size<=b)/\b≠X.env.locals/\(∀x c,X.env.cells.lookup x=aa c->c≠b)/\∀p∈X.pn++pins,p.1≠b):Inv X pins σ H' s':=by
 obtain⟨h',g',d',t',o'⟩:=s'
 have e:o'=s.os:=ho
 subst e
 exact I.call (g':=g') (t':=t') (d':=d') u gx hg Ve
end
abbrev XK:=aX->Option Addr->Hp->Prop
abbrev St:=List (Option V)
abbrev VK:=V->Hp->Prop
abbrev TE:=St->Hp->VK->Prop
abbrev TT:=St->Hp->(Bool->Hp->Prop)->Prop
abbrev TA:=St->Hp->(ao->Hp->Prop)->Prop
structure Ends where
 nx:St->Hp->Prop
 rt:VK
 bk:St->Hp->Prop:=fun _ _=>False
 ct:St->Hp->Prop:=fun _ _=>False
abbrev TS:=Ends->St->Hp->Prop
inductive EP(X:Cx)(pins:ah)(σ:St)(Q:VK)(u:aX)(s':a9):Prop
 |mk (v:V) (H':Hp) (_:Inv X pins σ H' s') (_:RelV v u) (_:Q v H')
inductive TP(X:Cx)(pins:ah)(σ:St)(Q:Bool->Hp->Prop)(b:Bool)(s':a9):Prop
 |mk (H':Hp) (_:Inv X pins σ H' s') (_:Q b H')
inductive AP(X:Cx)(pins:ah)(σ:St)(Q:ao->Hp->Prop)(us:au)(s':a9):Prop
 |mk (vs:ao) (H':Hp) (_:Inv X pins σ H' s') (_:Vals vs us) (_:Q vs H')
def SP(X:Cx)(pins:ah)(D:Ends)(f:Flow)(s':a9):Prop:=
 match f with
 |.next=>∃σ' H',Inv X pins σ' H' s'/\D.nx σ' H'
 |.brk=>∃σ' H',Inv X pins σ' H' s'/\D.bk σ' H'
 |.cont=>∃σ' H',Inv X pins σ' H' s'/\D.ct σ' H'
 |.ret u=>∃v σ' H',Inv X pins σ' H' s'/\RelV v u/\D.rt v H'
def PE(X:Cx)(e:Expr)(t:TE):Prop:=
 ∀(pins:ah)(s:a9)(σ:St)(H:Hp)(Q:VK),Inv X pins σ H s->t σ H Q->bM (bK X.prog X.w) X.A (eval e X.env) (EP X pins σ Q) X.xe s
def PT(X:Cx)(e:Expr)(t:TT):Prop:=
 ∀(pins:ah)(s:a9)(σ:St)(H:Hp)(Q:Bool->Hp->Prop),Inv X pins σ H s->t σ H Q->bM (bK X.prog X.w) X.A (isTrue e X.env (eval e X.env)) (TP X pins σ Q) X.xe s
def PW(X:Cx)(e:Expr)(t:TT):Prop:=
 ∀(whole:Sem aX)(pins:ah)(s:a9)(σ:St)(H:Hp)(Q:Bool->Hp->Prop),Inv X pins σ H s->t σ H Q->bM (bK X.prog X.w) X.A (isTrue e X.env whole) (TP X pins σ Q) X.xe s
theorem PW.pt{X:Cx}{e:Expr}{t:TT}(h:PW X e t):PT X e t:=h _
def PA(X:Cx)(es:List Expr)(t:TA):Prop:=
 ∀(pos:Pos)(pins:ah)(s:a9)(σ:St)(H:Hp)(Q:ao->Hp->Prop),Inv X pins σ H s->t σ H Q->bM (bK X.prog X.w) X.A (E3 (gz pos (bX es X.env))) (AP X pins σ Q) X.xe s
def PS(X:Cx)(st:Stmt)(t:TS):Prop:=
 ∀(pins:ah)(s:a9)(σ:St)(H:Hp)(D:Ends),Inv X pins σ H s->t D σ H->bM (bK X.prog X.w) X.A (exec st X.env) (SP X pins D) X.xe s
def Nt(X:Cx)(st:List Stmt)(t:TS):Prop:=
 ∀(pins:ah)(s:a9)(σ:St)(H:Hp)(D:Ends),Inv X pins σ H s->t D σ H->bM (bK X.prog X.w) X.A (execs st X.env) (SP X pins D) X.xe s
theorem ic{α:Type}{t:Sem α}{Q Q':α->a9->Prop}{M:Gx}{A:cZ}{E:ar}{s:a9}(h:bM M A t Q E s)(hQ:∀a s,Q a s->Q' a s):bM M A t Q' E s:=eE h hQ fun _ _ x=>x
section
variable{X:Cx}
inductive Am(i:Nat)(σ:L2.St)(H:Hp)(Q:VK):Prop
 |mk (v:_) (_:σ[i]?=aa (aa v)) (_:Q v H)
def tC(v:V):TE:=fun _ H Q=>Q v H
theorem adg{i:Nat}{x:Str}{pos:Pos}(hN:X.N[i]?=aa x)(hv:Vis X.env.scope x)(hd:(x==("__debug__":Str))=af:=by decide)(NS:(x==("__classdict__":Str))=af:=by decide):PE X (.Name x pos) (Am i):=by
 intro pins s σ H Q I h;obtain⟨v,e,h⟩:=h;obtain⟨m,hn,hl⟩:=I.loc;obtain⟨u,r,l⟩:=hl i x v hN e hv;have fin:EP X pins σ Q u s:=⟨v,H,I,r,h⟩;rcases l with⟨hk,hm⟩|⟨hk,c,hc,TZ⟩
 ·exact wc (sQ I.ok.kind hk hn hm fin) hd
 rcases hk with hk|hk
 ·exact wc (wpAny_loadName_cell I.ok.kind hk hc TZ fin) hd
 exact wc (FL I.ok.kind hk hc TZ fin NS) hd
theorem cG{i j pos}:PE X (.Constant (.int i) j pos) (tC (.int i)):=fun _ _ _ H _ I h=>IU ⟨.int i,H,I.tok _,⟨_,rfl⟩,h⟩
theorem zW{b j pos}:PE X (.Constant (.bool b) j pos) (tC (.bl b)):=fun _ _ _ H _ I h=>Constant_bool ⟨.bl b,H,I,rfl,h⟩
theorem adi{j pos}:PE X (.Constant .none j pos) (tC .j7):=fun _ _ _ H _ I h=>Constant_none ⟨.j7,H,I,rfl,h⟩
theorem eO{x j pos}:PE X (.Constant (.str x) j pos) (tC (.str x)):=fun _ _ _ H _ I h=>Calls.Constant_str ⟨.str x,H,I.tok _,⟨_,rfl⟩,h⟩
def Gl(X:Cx)(x:Str):Prop:=X.env.kindOf x=aa .globalImplicit
theorem tp{E:ar}{pins:ah}{s:a9}{σ:St}{H:Hp}{x:Str}{u:aX}{pos:Pos}{Q:ar}(I:Inv X pins σ H s)(hg:Gl X x)(hm:X.mg x=aa u)(h:Q u s)
 (hd:(x==("__debug__":Str))=af:=by decide):bM (bK X.prog X.w) X.A (eval (.Name x pos) X.env) Q E s:=
 Ke I.ok.kind hg (Calls.loadGlobal_global (by rw[I.ok.glob];exact I.mod.glob.keeps I.bk) hm h) hd
theorem rQ{E:ar}{pins:ah}{s:a9}{σ:St}{H:Hp}{x:Str}{u:aX}{pos:Pos}{Q:ar}(I:Inv X pins σ H s)(hg:Gl X x)(hm:X.mg x=ab)(hv:ip x=aa u)(h:Q u s)
 (hn:x≠"__name__":=by decide)(hd:(x==("__debug__":Str))=af:=by decide):bM (bK X.prog X.w) X.A (eval (.Name x pos) X.env) Q E s:=by
 obtain⟨mb,h1,h2⟩:=I.mod.blt
 exact Ke I.ok.kind hg (Calls.loadGlobal_builtin (by rw[I.ok.glob];exact I.mod.glob.keeps I.bk) hm (by rw[I.ok.blt];exact h1.keeps I.bk) ((h2 x hn).trans hv) h) hd
theorem Ge{x:Str}{v:V}{u:aX}{pos:Pos}(hg:Gl X x)(hm:X.mg x=aa u)(r:RelV v u)(hd:(x==("__debug__":Str))=af:=by decide):PE X (.Name x pos) (tC v):=
 fun _ _ _ H _ I h=>tp I hg hm ⟨v,H,I,r,h⟩ hd
theorem aae{x:Str}{v:V}{u:aX}{pos:Pos}(hg:Gl X x)(hm:X.mg x=ab)(hv:ip x=aa u)(r:RelV v u)(hn:x≠"__name__":=by decide)(hd:(x==("__debug__":Str))=af:=by decide):PE X (.Name x pos) (tC v):=
 fun _ _ _ H _ I h=>rQ I hg hm hv ⟨v,H,I,r,h⟩ hn hd
variable{a b:Expr}{ta tb:TE}{pos:Pos}
def PC(X:Cx)(op:We)(a b:Expr)(t:TE):Prop:=
 ∀(pins:ah)(s:a9)(σ:St)(H:Hp)(Q:VK),Inv X pins σ H s->t σ H Q->
  bM (bK X.prog X.w) X.A (eval a X.env) (fun v s₁=>bM (bK X.prog X.w) X.A (eval b X.env) (fun u s₂=>bM (bK X.prog X.w) X.A (jb op v u) (EP X pins σ Q) X.xe s₂) X.xe s₁) X.xe s
theorem XC(b:Expr){op:We}(h:op≠ .In)(h2:op≠ .NotIn):oS op b=af:=by
 have e1:(op==CmpOp.In)=af:=by cases op<;>first|rfl|exact absurd rfl h
 have e2:(op==CmpOp.NotIn)=af:=by cases op<;>first|rfl|exact absurd rfl h2
 cases b<;>simp[oS,e1,e2]
def aiu(ta:TE):TE:=fun σ H Q=>ta σ H fun x H1=>Q (.bl (decide (x=.j7))) H1
theorem RelV.XB{x:V}{v:aX}(r:RelV x v):(v==eG)=decide (x=.j7):=by
 cases x with
 |j7=>cases r;rfl
 |bl _=>cases r;rfl
 |int _=>obtain⟨t,rfl⟩:=r;rfl
 |str _=>obtain⟨t,rfl⟩:=r;rfl
 |VF _=>obtain⟨t,rfl⟩:=r;rfl
 |flt _=>obtain⟨t,rfl⟩:=r;rfl
 |ref _=>cases r;rfl
 |ty _=>cases r;rfl
theorem adm{j pos'}(ha:PE X a ta):PC X .Is a (.Constant .none j pos') (aiu ta):=by
 intro pins s σ H Q I h;refine ic (ha pins s σ H _ I h) fun v s1 ⟨x,H1,I1,r1,q1⟩=>?_;exact Constant_none (is_none_gen ⟨.bl _,H1,I1,by rw[r1.XB];rfl,q1⟩)
inductive tBI(Q:Bool->Hp->Prop)(x:V)(H1:Hp):Prop
 |mk (c:_) (_:x=.bl c) (_:Q c H1)
def tB(t:TE):TT:=fun σ H Q=>t σ H fun x H1=>tBI Q x H1
theorem DI{op:We}{t:TE}(h:PC X op a b t)(h1:oS op b=af:=by first|exact XC _ (by decide) (by decide)|rfl):PT X (.Compare a [op] [b] pos) (tB t):=by
 intro pins s σ H Q I hw;refine Zw (ic (h pins s σ H _ I hw) fun v s1 h1=>ic h1 fun u s2 h2=>ic h2 fun c s3 ⟨x,H1,I1,r1,q1⟩=>?_) h1;obtain⟨d,rfl,q⟩:=q1;cases r1;exact ij ⟨H1,I1,q⟩
theorem jy{e:Expr}{t:TE}(h:PE X e t)(he:∀whole,isTrue e X.env whole=(do let v<-whole;sy e.pos;qI [v] (truthy v)):=by intro _;rfl):PT X e (tB t):=by
 intro pins s σ H Q I hw;refine isTrue_plain (ic (h pins s σ H _ I hw) fun v s1 ⟨x,H1,I1,r1,q1⟩=>?_) (he _);obtain⟨d,rfl,q⟩:=q1;cases r1;exact ij ⟨H1,I1,q⟩
variable{tA tB':TT}{rest:List Expr}
def aiz(t u:TT):TT:=fun σ H Q=>t σ H fun c H1=>if c=ae then u σ H1 Q else Q af H1
def tOr(t u:TT):TT:=fun σ H Q=>t σ H fun c H1=>if c=ae then Q ae H1 else u σ H1 Q
def air(t:TT):TT:=fun σ H Q=>t σ H fun c H1=>Q (!c) H1
theorem sZ(ha:PT X a tA):PW X (.BoolOp .And [a] pos) tA:=by
 intro wh pins s σ H Q I h;refine isTrue_and (ic (ha pins s σ H Q I h) fun c s1 e=>?_);cases c with
 |true=>exact isTrue_and_nil e
 |false=>exact e
theorem DH(ha:PT X a tA):PW X (.BoolOp .Or [a] pos) tA:=by
 intro wh pins s σ H Q I h;refine isTrue_or (ic (ha pins s σ H Q I h) fun c s1 e=>?_);cases c with
 |false=>exact isTrue_or_nil e
 |true=>exact e
theorem xF(ha:PT X a tA)(hb:PW X (.BoolOp .And (b::rest) pos) tB'):PW X (.BoolOp .And (a::b::rest) pos) (aiz tA tB'):=by
 intro wh pins s σ H Q I h;refine isTrue_and (ic (ha pins s σ H _ I h) fun c s1 ⟨H1,I1,q1⟩=>?_);cases c with
 |true=>exact hb wh pins s1 σ H1 Q I1 q1
 |false=>exact⟨H1,I1,q1⟩
theorem KC(ha:PT X a tA)(hb:PW X (.BoolOp .Or (b::rest) pos) tB'):PW X (.BoolOp .Or (a::b::rest) pos) (tOr tA tB'):=by
 intro wh pins s σ H Q I h;refine isTrue_or (ic (ha pins s σ H _ I h) fun c s1 ⟨H1,I1,q1⟩=>?_);cases c with
 |true=>exact⟨H1,I1,q1⟩
 |false=>exact hb wh pins s1 σ H1 Q I1 q1
theorem ue(ha:PT X a tA):PT X (.UnaryOp .Not a pos) (air tA):=by
 intro pins s σ H Q I h;exact isTrue_not (ic (ha pins s σ H (fun c H1=>Q (!c) H1) I h) fun _ _ ⟨H',I',q⟩=>⟨H',I',q⟩)
inductive acU(tb:TE)(σ:L2.St)(Q:VK)(x:V)(H1:Hp):Prop
 |mk (c:_) (_:x=.bl c) (_:if c=ae then tb σ H1 Q else Q (.bl af) H1)
def afE(ta tb:TE):TE:=fun σ H Q=>ta σ H fun x H1=>acU tb σ Q x H1
inductive afu(tb:TE)(σ:L2.St)(Q:VK)(x:V)(H1:Hp):Prop
 |mk (c:_) (_:x=.bl c) (_:if c=ae then Q (.bl ae) H1 else tb σ H1 Q)
def aiq(ta tb:TE):TE:=fun σ H Q=>ta σ H fun x H1=>afu tb σ Q x H1
inductive acM(Q:VK)(x:V)(H1:Hp):Prop
 |mk (c:_) (_:x=.bl c) (_:Q (.bl (!c)) H1)
def afv(ta:TE):TE:=fun σ H Q=>ta σ H fun x H1=>acM Q x H1
theorem vM{op}{t:TE}(h:PE X a t):PE X (.BoolOp op [a] pos) t:=fun pins s σ H Q I hw=>BoolOp_one (h pins s σ H Q I hw)
theorem vN(ha:PE X a ta)(hb:PE X (.BoolOp .And (b::rest) pos) tb):PE X (.BoolOp .And (a::b::rest) pos) (afE ta tb):=by
 intro pins s σ H Q I h;refine BoolOp_and (ic (ha pins s σ H _ I h) fun v s1 ⟨x,H1,I1,r1,q1⟩=>?_);obtain⟨c,rfl,q1⟩:=q1;cases r1;refine ij ?_;cases c with
 |true=>exact hb pins s1 σ H1 Q I1 q1
 |false=>exact⟨.bl af,H1,I1,rfl,q1⟩
theorem afY(ha:PE X a ta)(hb:PE X (.BoolOp .Or (b::rest) pos) tb):PE X (.BoolOp .Or (a::b::rest) pos) (aiq ta tb):=by
 intro pins s σ H Q I h;refine BoolOp_or (ic (ha pins s σ H _ I h) fun v s1 ⟨x,H1,I1,r1,q1⟩=>?_);obtain⟨c,rfl,q1⟩:=q1;cases r1;refine ij ?_;cases c with
 |false=>exact hb pins s1 σ H1 Q I1 q1
 |true=>exact⟨.bl ae,H1,I1,rfl,q1⟩
theorem adh(ha:PE X a ta):PE X (.UnaryOp .Not a pos) (afv ta):=by
 intro pins s σ H Q I h;refine UnaryOp_ (ic (ha pins s σ H _ I h) fun v s1 ⟨x,H1,I1,r1,q1⟩=>?_);obtain⟨c,rfl,q1⟩:=q1;cases r1;exact not_of (ij ⟨.bl (!c),H1,I1,rfl,q1⟩)
def tIf(t:TT)(ta tb:TE):TE:=fun σ H Q=>t σ H fun c H1=>if c=ae then ta σ H1 Q else tb σ H1 Q
theorem Xp{c:Expr}(hc:PT X c tA)(ha:PE X a ta)(hb:PE X b tb):PE X (.IfExp c a b pos) (tIf tA ta tb):=by
 intro pins s σ H Q I h;refine wpAny_IfExp (ic (hc pins s σ H _ I h) fun d s1 ⟨H1,I1,q1⟩=>?_);cases d with
 |true=>exact ha pins s1 σ H1 Q I1 q1
 |false=>exact hb pins s1 σ H1 Q I1 q1
end
def dw(K:aY)(H:Hp)(a:Addr)(xs:ao):Prop:=
 Rd H a (.lst xs)\/
  ∃(o:Obj)(its:Array aX)(n:Nat),K.lookup a=aa o/\o.cls=.type "list"/\o.dict=ab/\o.data=.seq its n/\its.size<=bz/\Vals xs its.toList
def wF(K:aY)(H:Hp)(a:Addr)(xs:ao):Prop:=
 Rd H a (.tup xs)\/
  ∃(o:Obj)(its:Array aX)(n:Nat),K.lookup a=aa o/\o.cls=.type "tuple"/\o.data=.seq its n/\its.size<=bz/\Vals xs its.toList
def aa5:aX->Option V
 |.none=>aa .j7
 |.bool b=>aa (.bl b)
 |.int i _=>aa (.int i)
 |.str x _=>aa (.str x)
 |.bytes b _=>aa (.VF b)
 |.float b _=>aa (.flt b)
 |.ref a=>aa (.ref a)
 |.type n=>aa (.ty n)
 |_=>ab
theorem RelV.abs{x:V}{u:aX}(r:RelV x u):aa5 u=aa x:=by
 cases x with
 |j7=>cases r;rfl
 |bl _=>cases r;rfl
 |int _=>obtain⟨t,rfl⟩:=r;rfl
 |str _=>obtain⟨t,rfl⟩:=r;rfl
 |VF _=>obtain⟨t,rfl⟩:=r;rfl
 |flt _=>obtain⟨t,rfl⟩:=r;rfl
 |ref _=>cases r;rfl
 |ty _=>cases r;rfl
theorem RelV.inj{x y:V}{u:aX}(r:RelV x u)(q:RelV y u):x=y:=bT (r.abs.symm.trans q.abs)
theorem Vals.inj:∀{xs ys:ao}{us:au},Vals xs us->Vals ys us->xs=ys
 |_,_,_,.nil,.nil=>rfl
 |_,_,_,.cons r t,.cons r' t'=>by rw[r.inj r',Vals.inj t t']
section
variable{X:Cx}{pins:ah}{σ:St}{H:Hp}{s:a9}{a:Addr}{xs ys:ao}
theorem dw.of{K:aY}(h:H a=aa (.lst xs)):dw K H a xs:=.inl (.inl h)
theorem wF.of{K:aY}(h:H a=aa (.tup xs)):wF K H a xs:=.inl (.inl h)
theorem Inv.list(I:Inv X pins σ H s)(h:dw X.K H a xs):∃its:au,Vals xs its/\PlainL s.heap a its.toArray/\xs.length<=bz:=by
 rcases h with h|⟨o,its,n,hk,hc,hd,hs,hz,r⟩
 ·obtain⟨z,its,n,r,e⟩:=h.ok I.gx;exact⟨its,r,⟨_,n,e,rfl,rfl,rfl⟩,z⟩
 refine⟨its.toList,r,⟨o,n,I.wQ a o hk,hc,hd,by simpa using hs⟩,?_⟩;have e:=r.length;simp only[c7]at e;omega
theorem Inv.tuple(I:Inv X pins σ H s)(h:wF X.K H a xs):∃its:au,Vals xs its/\IsTup s.heap a its.toArray/\xs.length<=bz:=by
 rcases h with h|⟨o,its,n,hk,hc,hs,hz,r⟩
 ·obtain⟨z,its,r,p⟩:=h.ok I.gx;exact⟨its,r,p,z⟩
 refine⟨its.toList,r,⟨o,I.wQ a o hk,hc,n,by simpa using hs⟩,?_⟩;have e:=r.length;simp only[c7]at e;omega
theorem Inv.HX(I:Inv X pins σ H s)(h:dw X.K H a xs)(h':dw X.K H a ys):xs=ys:=by
 obtain⟨its,r,⟨o,n,e,_,_,d⟩,_⟩:=I.list h;obtain⟨its',r',⟨o',n',e',_,_,d'⟩,_⟩:=I.list h';rw[e]at e';cases e';rw[d]at d';injection d' with d1 _
 have:its=its':=by simpa using congrArg Array.toList d1
 subst this;exact r.inj r'
end
abbrev Cx.tL(X:Cx)(E:ar):Cx:={X with xe:=E}
abbrev Cx.nox(X:Cx):Cx:=X.tL fun _ _=>False
theorem Cx.Ok.tL{X:Cx}(ok:X.Ok)(E:ar):(X.tL E).Ok:=
 ⟨ok.mod,ok.kind,ok.glob,ok.blt,ok.above,ok.inj,ok.has,ok.cab,ok.hd,ok.frames,ok.QS,ok.exf,ok.bs,ok.Sb,ok.L8,ok.MI,ok.yb,ok.Vm⟩
theorem Cx.Ok.pb{X:Cx}{E:ar}(ok:(X.tL E).Ok):X.Ok:=
 ⟨ok.mod,ok.kind,ok.glob,ok.blt,ok.above,ok.inj,ok.has,ok.cab,ok.hd,ok.frames,ok.QS,ok.exf,ok.bs,ok.Sb,ok.L8,ok.MI,ok.yb,ok.Vm⟩
section
variable{X:Cx}{pins:ah}{σ:St}{H:Hp}{s:a9}{E:ar}
theorem Inv.tL(I:Inv X pins σ H s)(E:ar):Inv (X.tL E) pins σ H s:=⟨I.ok.tL E,I.os,I.bare,I.base,I.loc,I.cell,I.free,I.p0,I.pin,I.gx,I.len⟩
theorem Inv.pb(I:Inv (X.tL E) pins σ H s):Inv X pins σ H s:=⟨I.ok.pb,I.os,I.bare,I.base,I.loc,I.cell,I.free,I.p0,I.pin,I.gx,I.len⟩
theorem SP.pb{D:Ends}{f:Flow}{s':a9}(h:SP (X.tL E) pins D f s'):SP X pins D f s':=by
 cases f with
 |next=>obtain⟨σ',H',I,q⟩:=h;exact⟨σ',H',I.pb,q⟩
 |brk=>obtain⟨σ',H',I,q⟩:=h;exact⟨σ',H',I.pb,q⟩
 |cont=>obtain⟨σ',H',I,q⟩:=h;exact⟨σ',H',I.pb,q⟩
 |ret u=>obtain⟨v,σ',H',I,r,q⟩:=h;exact⟨v,σ',H',I.pb,r,q⟩
theorem Nt.nox{st:List Stmt}{t:TS}(h:Nt X.nox st t):Nt X st t:=fun pins s σ H D I hw=>
 eE (h pins s σ H D (I.tL _) hw) (fun _ _ q=>q.pb) fun _ _ z=>fB z
end
section
variable{X:Cx}{st:Stmt}{rest:List Stmt}{t u:TS}{e:Expr}{te:TE}{pos:Pos}
def afw:TS:=fun D σ H=>D.nx σ H
def aio(t u:TS):TS:=fun D σ H=>t {D with nx:=u D} σ H
theorem cT:Nt X [] afw:=fun _ _ σ H _ I h=>uq ⟨σ,H,I,h⟩
theorem bh(h1:PS X st t)(h2:Nt X rest u):Nt X (st::rest) (aio t u):=by
 intro pins s σ H D I h;refine wpAny_execs_cons (ic (h1 pins s σ H {D with nx:=u D} I h) fun f s1 q=>?_);cases f with
 |next=>
  obtain⟨σ',H',I',q⟩:=q;exact h2 pins s1 σ' H' D I' q
 |ret v=>exact q
 |brk=>exact q
 |cont=>exact q
theorem bj(h1:PS X st t):Nt X [st] t:=by
 intro pins s σ H D I h;refine wpAny_execs_cons (ic (h1 pins s σ H D I h) fun f s1 q=>?_);cases f with
 |next=>exact uq q
 |ret v=>exact q
 |brk=>exact q
 |cont=>exact q
theorem Inv.quiet{pins:ah}{σ:St}{H:Hp}{s:a9}(I:Inv X pins σ H s):interactive X.env=af:=by simp[interactive,I.ok.kind]
def afB(te:TE):TS:=fun D σ H=>te σ H fun _ H1=>D.nx σ H1
theorem dN(he:PE X e te)(hs:pU e ab pos.line X.env=pure af:=by rfl):PS X (.Expr e pos) (afB te):=by
 intro pins s σ H D I h;exact wpAny_Expr_any (ic (he pins s σ H _ I h) fun v s1 ⟨x,H1,I1,r1,q1⟩=>⟨σ,H1,I1,q1⟩) I.quiet hs
def aip(te:TE):TS:=fun D σ H=>te σ H D.rt
theorem cf(he:PE X e te):PS X (.Return (aa e) pos) (aip te):=by
 intro pins s σ H D I h;exact wpAny_Return_some (ic (he pins s σ H _ I h) fun v s1 ⟨x,H1,I1,r1,q1⟩=>⟨x,σ,H1,I1,r1,q1⟩)
def afs:TS:=fun D _ H=>D.rt .j7 H
theorem Tf:PS X (.Return ab pos) afs:=fun _ _ σ H _ I h=>wpAny_Return_none ⟨.j7,σ,H,I,rfl,h⟩
def aiv(c:TT)(t u:TS):TS:=fun D σ H=>c σ H fun b H1=>if b=ae then t D σ H1 else u D σ H1
theorem d9{c:Expr}{a b:List Stmt}{tc:TT}(hc:PT X c tc)(ha:Nt X a t)(hb:Nt X b u):PS X (.If c a b pos) (aiv tc t u):=by
 intro pins s σ H D I h;refine wpAny_If (ic (hc pins s σ H _ I h) fun d s1 ⟨H1,I1,q1⟩=>?_);cases d with
 |true=>exact ha pins s1 σ H1 D I1 q1
 |false=>exact hb pins s1 σ H1 D I1 q1
end
abbrev TG:=V->St->Hp->(St->Hp->Prop)->Prop
abbrev TGs:=ao->St->Hp->(St->Hp->Prop)->Prop
def PG(X:Cx)(target:Expr)(t:TG):Prop:=
 ∀(pins:ah)(s:a9)(σ:St)(H:Hp)(v:V)(u:aX)(Q:St->Hp->Prop),Inv X pins σ H s->RelV v u->t v σ H Q->
  bM (bK X.prog X.w) X.A (Sx target X.env u) (fun _ s'=>∃σ' H',Inv X pins σ' H' s'/\Q σ' H') X.xe s
def PGs(X:Cx)(ts:List Expr)(t:TGs):Prop:=
 ∀(pins:ah)(s:a9)(σ:St)(H:Hp)(vs:ao)(us:au)(Q:St->Hp->Prop),Inv X pins σ H s->Vals vs us->t vs σ H Q->
  bM (bK X.prog X.w) X.A (assignInOrder ((A9 ts X.env).map (·.2)) us) (fun _ s'=>∃σ' H',Inv X pins σ' H' s'/\Q σ' H') X.xe s
abbrev aeK:=V->V->V->Hp->(Hp->Prop)->Prop
def ahm(X:Cx)(t:aeK):Prop:=
 ∀(pins:ah)(s:a9)(σ:St)(H:Hp)(o i v:V)(ov iv u:aX)(Q:Hp->Prop),Inv X pins σ H s->RelV o ov->RelV i iv->RelV v u->t o i v H Q->
  bM (bK X.prog X.w) X.A (setItem ov iv u) (fun _ s'=>∃H',Inv X pins σ H' s'/\Q H') X.xe s
abbrev TIp:=V->V->Hp->VK->Prop
def PIp(X:Cx)(op:Sz)(t:TIp):Prop:=
 ∀(pins:ah)(s:a9)(σ:St)(H:Hp)(x y:V)(v u:aX)(Q:VK),Inv X pins σ H s->RelV x v->RelV y u->t x y H Q->
  bM (bK X.prog X.w) X.A (inplaceOp op v u) (EP X pins σ Q) X.xe s
section
variable{X:Cx}{pos:Pos}
def zZ(i:Nat):TG:=fun v σ H Q=>Q (σ.set i (aa v)) H
theorem aaa{i:Nat}{x:Str}(hN:X.N.Nodup)(hi:X.N[i]?=aa x)(hx:Loc X.env.scope x)(hf:X.fn x=ae\/X.env.scope.names.lookup x=aa .local:=by first|exact .inl rfl|exact .inr rfl|assumption):PG X (.Name x pos) (zZ i):=by
 intro pins s σ H v u Q I r h;exact wpAny_assign_Name (Bq I hN hi hx r (fun s' I'=>⟨_,H,I',h⟩) hf)
def ag2:TGs:=fun vs σ H Q=>vs=[]/\Q σ H
inductive Ym(t:TG)(u:TGs)(vs:ao)(σ:L2.St)(H:Hp)(Q:L2.St->Hp->Prop):Prop
 |mk (v:_) (r:_) (_:vs=v::r) (_:t v σ H fun σ' H'=>u r σ' H' Q)
theorem mE:PGs X [] ag2:=by
 intro pins s σ H vs us Q I r h;obtain⟨e,h⟩:=h;subst e;cases r;exact assignInOrder_nil ⟨σ,H,I,h⟩
theorem fq{e:Expr}{es:List Expr}{t:TG}{u:TGs}(h1:PG X e t)(h2:PGs X es u)
 (hs:(A9 (e::es) X.env).map (·.2)=Sx e X.env::(A9 es X.env).map (·.2):=by rfl):PGs X (e::es) (Ym t u):=by
 intro pins s σ H vs us Q I r h
 obtain⟨v,vr,e1,h⟩:=h
 subst e1
 cases r with
 |cons r rr=>
  rw[hs]
  refine assignInOrder_cons (ic (h1 pins s σ H _ _ _ I r h) fun _ s1 ⟨σ1,H1,I1,q1⟩=>?_)
  exact h2 pins s1 σ1 H1 _ _ Q I1 rr q1
inductive ag1(K:aY)(n:Nat)(t:TGs)(v:V)(σ:L2.St)(H:Hp)(Q:L2.St->Hp->Prop):Prop
 |mk (a:_) (xs:_) (_:v=.ref a) (_:wF K H a xs) (_:xs.length=n) (_:t xs σ H Q)
theorem qA{es:List Expr}{k:Nat}{t:TGs}{n:Nat}(hc:X.calm=ae)(h:PGs X es t)
 (hn:(A9 es X.env).length=n:=by rfl)(KS:(A9 es X.env).findIdx? (·.1)=ab:=by rfl):PG X (.Tuple es k pos) (ag1 X.K n t):=by
 intro pins s σ H v u Q I r hw
 obtain⟨a,xs,e1,hq,hl,hw⟩:=hw
 subst e1
 cases r
 obtain⟨its,rv,ht,hz⟩:=I.tuple hq
 refine assign_Tuple_tuple (I.ok.hd hc) ht (by simp[hn,<-hl,rv.length]) KS fun h' hx=>?_
 have I1:Inv X pins σ H {s with heap:=h'}:=I.kept (t':=s.toks) fun b o e=>hx b o (ck (bG e)) e
 exact h pins _ σ H xs _ Q I1 (by simpa using rv) hw
def akk(to ti:TE)(t:aeK):TG:=fun v σ H Q=>to σ H fun o H1=>ti σ H1 fun i H2=>t o i v H2 fun H3=>Q σ H3
theorem DK{o i:Expr}{to ti:TE}{t:aeK}(ho:PE X o to)(hi:PE X i ti)(hs:ahm X t)
 (ha:∀v,Sx (.Subscript o i pos) X.env v=(do
  let ov<-qI [v] (eval o X.env)
  let iv<-qI [v,ov] (eval i X.env)
  sy pos
  qI [v,ov,iv] (setItem ov iv v)
  release [v,ov,iv] []):=by intro _;rfl):PG X (.Subscript o i pos) (akk to ti t):=by
 intro pins s σ H v u Q I r h
 rw[ha]
 refine aP (d8 (ic (ho pins s σ H _ I h) fun ov s1 ⟨x,H1,I1,r1,q1⟩=>?_))
 refine aP (d8 (ic (hi pins s1 σ H1 _ I1 q1) fun iv s2 ⟨y,H2,I2,r2,q2⟩=>?_))
 refine aP (lU (aP (d8 (ic (hs pins s2 σ H2 x y v ov iv u _ I2 r1 r2 r q2) fun _ s3 ⟨H3,I3,q3⟩=>?_))))
 exact wpAny_release ⟨σ,H3,I3,q3⟩
def ZQ(te:TE)(g:TG):TS:=fun D σ H=>te σ H fun x H1=>g x σ H1 D.nx
theorem DJ{tg e:Expr}{te:TE}{g:TG}(he:PE X e te)(hg:PG X tg g)(hs:swapsWithSole [tg] e pos.line X.env=pure af:=by rfl)(hw:swappedStores [tg] e X.env=pure ab:=by rfl)
 (h1:(A9 [tg] X.env).map (·.2)=[Sx tg X.env]:=by rfl):PS X (.Assign [tg] e pos) (ZQ te g):=by
 intro pins s σ H D I h
 refine wpAny_Assign_stores (ic (he pins s σ H _ I h) fun v s1 ⟨x,H1,I1,r1,q1⟩=>?_) hs hw
 rw[h1]
 exact ic (hg pins s1 σ H1 x v _ I1 r1 q1) fun _ s2 q=>q
theorem Q5{i:Nat}{x:Str}{e:Expr}{te:TE}{pos':Pos}(hN:X.N.Nodup)(hi:X.N[i]?=aa x)(hx:Loc X.env.scope x)(he:PE X e te)(hs:pU e (aa (.Name x pos')) pos.line X.env=pure af:=by rfl)(hf:X.fn x=ae\/X.env.scope.names.lookup x=aa .local:=by first|exact .inl rfl|exact .inr rfl|assumption):
 PS X (.Assign [.Name x pos'] e pos) (ZQ te (zZ i)):=by
 intro pins s σ H D I h
 refine wpAny_Assign_Name (ic (he pins s σ H _ I h) fun v s1 ⟨y,H1,I1,r1,q1⟩=>?_) hs
 exact Bq I1 hN hi hx r1 (fun s2 I2=>⟨_,H1,I2,q1⟩) hf
inductive aiy(i:Nat)(te:TE)(ti:TIp)(D:L2.Ends)(σ:L2.St)(H:Hp):Prop
 |mk (x:_) (_:σ[i]?=aa (aa x)) (_:te σ H fun y H1=>ti x y H1 fun z H2=>D.nx (σ.set i (aa z)) H2)
theorem rM{i:Nat}{x:Str}{e:Expr}{te:TE}{op:Sz}{ti:TIp}{pos':Pos}(hN:X.N.Nodup)(hi:X.N[i]?=aa x)(hx:Loc X.env.scope x)(he:PE X e te)(ho:PIp X op ti)(hf:X.fn x=ae\/X.env.scope.names.lookup x=aa .local:=by first|exact .inl rfl|exact .inr rfl|assumption):
 PS X (.AugAssign (.Name x pos') op e pos) (aiy i te ti):=by
 intro pins s σ H D I h
 obtain⟨v,e1,h⟩:=h
 obtain⟨m,hn,hl⟩:=I.loc
 have vis:Vis X.env.scope x:=by rcases hx with k|k;exact .inl k;exact .inr (.inl k)
 obtain⟨u,r,l⟩:=hl i x v hi e1 vis
 refine wpAny_AugAssign_Name ?_
 have go:bM (bK X.prog X.w) X.A (eval e X.env) (fun w s₂=>bM (bK X.prog X.w) X.A (inplaceOp op u w) (fun r s₃=>bM (bK X.prog X.w) X.A (storeName X.env x r) (fun _=>SP X pins D .next) X.xe s₃) X.xe s₂) X.xe s:=by
  refine ic (he pins s σ H _ I h) fun w s1 ⟨y,H1,I1,r1,q1⟩=>?_;refine ic (ho pins s1 σ H1 v y u w _ I1 r r1 q1) fun z s2 ⟨zv,H2,I2,r2,q2⟩=>?_;exact Bq I2 hN hi hx r2 (fun s3 I3=>⟨_,H2,I3,q2⟩) hf
 rcases l with⟨hk,hm⟩|⟨hk,c,hc,TZ⟩
 ·exact sQ I.ok.kind hk hn hm go
 rcases hk with hk|hk
 ·exact wpAny_loadName_cell I.ok.kind hk hc TZ go
 rcases hx with k|k
 ·have:X.env.scope.names.lookup x=aa .free:=hk
  rw[k]at this;cases this
 have:X.env.scope.names.lookup x=aa .free:=hk
 rw[k]at this;cases this
end
section
variable{X:Cx}{pos:Pos}
def acH(c:TT)(tb:TS):TS:=fun D σ H=>∃W:Nat->St->Hp->Prop,(∃m,W m σ H)/\∀m σ H,W m σ H->
 c σ H fun b H1=>if b=ae then∃N:St->Hp->Prop,(∀σ' H',N σ' H'->∃m',m'<m/\W m' σ' H')/\tb {D with nx:=N,ct:=N,bk:=D.nx} σ H1 else D.nx σ H1
theorem oj{c:Expr}{body:List Stmt}{tc:TT}{tb:TS}(hp:PassesOwn (bK X.prog X.w) X.A X.env X.xe)(hc:PT X c tc)(hb:Nt X body tb):PS X (.While c body [] pos) (acH tc tb):=by
 intro pins s σ H D I h;obtain⟨W,⟨m0,w0⟩,turn⟩:=h;refine wpAny_While (codeAny_whileLoop (fun n s'=>∃σ' H',Inv X pins σ' H' s'/\W n σ' H') ?_ m0 ⟨σ,H,I,w0⟩);rintro n s1 ⟨σ1,H1,I1,w1⟩;refine lP hp (ic (hc pins s1 σ1 H1 _ I1 (turn n σ1 H1 w1)) fun b s2 ⟨H2,I2,q2⟩=>?_);cases b with
 |true=>
  obtain⟨N,hN,q2⟩:=q2;rw[da rfl];refine lP hp (ic (hb pins s2 σ1 H2 _ I2 q2) fun f s3 q3=>?_);cases f with
  |next=>
   obtain⟨σ3,H3,I3,n3⟩:=q3;obtain⟨m',hm,w3⟩:=hN σ3 H3 n3;exact⟨m',hm,σ3,H3,I3,w3⟩
  |cont=>
   obtain⟨σ3,H3,I3,n3⟩:=q3;obtain⟨m',hm,w3⟩:=hN σ3 H3 n3;exact⟨m',hm,σ3,H3,I3,w3⟩
  |brk=>exact q3
  |ret v=>exact q3
 |false=>
  rw[cQ cB];exact uq ⟨σ1,H2,I2,q2⟩
end
structure It where
 go:Nat->Hp->Prop
 Wh:Nat->Hp->V->Hp->Prop
 stop:Nat->Hp->Prop
def IM(X:Cx)(pins:ah)(H:Hp)(b:Addr):Prop:=
 H b=ab/\b≠X.env.locals/\b∉X.fs/\(b∈X.ex\/X.DE.heap.objs.size<=b)/\(∀x c,X.env.cells.lookup x=aa c->c≠b)/\∀p∈X.pn++pins,p.1≠b
theorem Inv.Vo{X:Cx}{pins:ah}{σ:St}{H H':Hp}{s:a9}{b:Addr}(I:Inv X pins σ H s)(hb:s.heap.objs.size<=b)(hn:H' b=ab):IM X pins H' b:=by
 refine⟨hn,dm (bJ I.lt hb),I.ai6 hb,.inr (cR I.sz hb),fun x c e z=>?_,fun p hp z=>?_⟩
 ·obtain⟨v,q⟩:=I.cell x c e;exact absurd (bJ q.lt (by rw[z];exact hb)) (gC _)
 exact absurd (bJ (bG (I.pin p hp).1) (by rw[z];exact hb)) (gC _)
structure Turn(P:bY)(w:cX)(K:aY)(tg:Expr)(J:It)(fp:ag)(it:Addr)(tn:Nat->Heap->Prop):Prop where
 mem:it∈fp
 obj:∀i h,tn i h->∀b∈fp,∃o,h.get? b=aa o/\∀v,o.data≠ .cell v
 keep:∀i h h',tn i h->(∀b∈fp,∀o,h.get? b=aa o->h'.get? b=aa o)->tn i h'
 item:∀(X:Cx),X.prog=P->X.w=w->X.K=K->X.calm=ae->∀(i:Nat)(pins:ah)(s:a9)(σ:St)(H:Hp)(E:ar),Inv X pins σ H s->(∀b∈fp,IM X pins H b)->tn i s.heap->J.go i H->
  bM (bK P w) X.A (qH (.ref it)) (fun r s1=>∃u,r=aa u/\
   bM (bK P w) X.A (Bh tg (.ref it) u) (fun _ s2=>∃x H',Inv X pins σ H' s2/\RelV x u/\J.Wh i H x H'/\tn (i+1) s2.heap/\∀b∈fp,H' b=ab) E s1) E s
 done:∀(X:Cx),X.prog=P->X.w=w->X.K=K->X.calm=ae->∀(i:Nat)(pins:ah)(s:a9)(σ:St)(H:Hp)(E:ar),Inv X pins σ H s->(∀b∈fp,IM X pins H b)->tn i s.heap->J.stop i H->
  bM (bK P w) X.A (qH (.ref it)) (fun r s1=>r=ab/\Inv X pins σ H s1) E s
 self:∀(A:cZ)(i:Nat)(s:a9)(Q:ar)(E:ar),tn i s.heap->Q (.ref it) s->bM (bK P w) A (So (.ref it)) Q E s
abbrev TI:=St->Hp->(It->Hp->Prop)->Prop
def PIE(X:Cx)(pins:ah)(σ:St)(tg:Expr)(R:It->Hp->Prop)(itv:aX)(s2:a9):Prop:=
 ∃(it:Addr)(fp:ag)(tn:Nat->Heap->Prop)(J:It)(H':Hp),itv=.ref it/\Inv X pins σ H' s2/\Turn X.prog X.w X.K tg J fp it tn/\tn 0 s2.heap/\(∀b∈fp,IM X pins H' b)/\R J H'
def PI(X:Cx)(tg iter:Expr)(wi:TI):Prop:=
 ∀(pins:ah)(s:a9)(σ:St)(H:Hp)(R:It->Hp->Prop),Inv X pins σ H s->wi σ H R->
  bM (bK X.prog X.w) X.A (eval iter X.env) (fun v s1=>bM (bK X.prog X.w) X.A (So v) (PIE X pins σ tg R) X.xe s1) X.xe s
theorem Yj{M:Gx}{A:cZ}{E:ar}{s:a9}{tg:Expr}{it:Addr}{u:aX}{o:Obj}{n:String}{vs:Array aX}{Q:Unit->a9->Prop}(ho:s.heap.get? it=aa o)(hc:o.cls=.type n)(hd:o.data=.fields vs)
 (hn:["enumerate","zip","dict_itemiterator","dict_reverseitemiterator","odict_iterator","itertools.zip_longest","itertools.pairwise"].contains n=af)(hQ:Q () s):bM M A (Bh tg (.ref it) u) Q E s:=by
 unfold Bh
 cases tg<;>first
  |exact bg hQ
  |(cases u<;>first
   |exact bg hQ
   |(refine aP (IT ho ?_);rw[hc,hd];show bM M A (if(["enumerate","zip","dict_itemiterator","dict_reverseitemiterator","odict_iterator","itertools.zip_longest","itertools.pairwise"].contains n&&vs[0]?==aa (j6 _))=ae then _ else _) Q E s;rw[cQ (by intro h;rw[hn,eD]at h;cases h)];exact bg hQ))
def Itl(K:aY)(a:Addr):It:=
 ⟨fun i H=>∃xs x,dw K H a xs/\xs[i]?=aa x,fun i H x H'=>H'=H/\∀xs,dw K H a xs->xs[i]?=aa x,fun i H=>∃xs,dw K H a xs/\xs.length<=i⟩
def Itr(lo:Int)(n:Nat):It:=⟨fun i _=>i<n,fun i H x H'=>H'=H/\x=.int (lo+i),fun i _=>n<=i⟩
theorem Uw{P:bY}{w:cX}{K:aY}{tg:Expr}(a it:Addr):Turn P w K tg (Itl K a) [it] it (fun i h=>h.IsListIter it a i) where
 mem:=by simp
 obj:=fun i h st b hb=>by
  have e:b=it:=by simpa using hb
  subst e;obtain⟨o,e,c,d⟩:=st;exact⟨o,e,fun v z=>by rw[d]at z;cases z⟩
 keep:=fun i h h' st k=>st.at fun o e=>k it (by simp) o e
 item:=by
  intro X hP hw hK hc i pins s σ H E I hf st hg;subst hP hw hK;obtain⟨xs,x,hq,hx⟩:=hg;obtain⟨its,rv,p,hz⟩:=I.list hq;obtain⟨u,hu,ru⟩:=rv.get hx;obtain⟨f0,f1,f2,f3,f4,f5⟩:=hf it (by simp);refine wpAny_pyNext_list_item st p.isList (x:=u) (by simpa using hu) fun h' GQ sb=>?_;have I1:Inv X pins σ H {s with heap:=h'}:=I.turned (t':=s.toks) (fun b o hb e=>(sb.2 b hb).trans e) f0 f1 f3 f4 f5;obtain⟨o,e,c,d⟩:=id GQ;exact⟨u,rfl,Yj (s:={s with heap:=h'}) e c d (by decide) ⟨x,H,I1,ru,⟨rfl,fun ys hy=>by rw[I.HX hy hq];exact hx⟩,GQ,fun b hb=>(hf b hb).1⟩⟩
 done:=by
  intro X hP hw hK hc i pins s σ H E I hf st hg;subst hP hw hK;obtain⟨xs,hq,hx⟩:=hg;obtain⟨its,rv,p,hz⟩:=I.list hq;obtain⟨f0,f1,f2,f3,f4,f5⟩:=hf it (by simp);have hl:=rv.length;exact wpAny_pyNext_list_end (I.ok.hd hc) st p.isList (by simp;omega) fun h' eb=>⟨rfl,I.turned (t':=s.toks) (fun b o hb e=>eb b o hb e) f0 f1 f3 f4 f5⟩
 self:=fun _ _ _ _ _ st h=>wpAny_pyIter_listiter st h
theorem QI{P:bY}{w:cX}{K:aY}{tg:Expr}(it:Addr)(lo:Int)(n:Nat):Turn P w K tg (Itr lo n) [it] it (fun i h=>IsRangeIter h it (lo+(i:Nat)*1) ((n:Int)-(i:Nat)) 1) where
 mem:=by simp
 obj:=fun i h st b hb=>by
  have e:b=it:=by simpa using hb
  subst e
  exact⟨_,st,fun v z=>by
   have z':Data.fields _=Data.cell v:=z;cases z'⟩
 keep:=fun i h h' st k=>k it (by simp) _ st
 item:=by
  intro X hP hw hK hc i pins s σ H E I hf st hg;subst hP hw hK;obtain⟨f0,f1,f2,f3,f4,f5⟩:=hf it (by simp);have W:=Walks.range (prog:=X.prog) (w:=X.w) (I.ok.hd hc) it lo 1 n;refine W.item i s _ _ hg st fun v h' tk hv GQ kk=>?_;obtain⟨t,rfl⟩:=hv;have I1:Inv X pins σ H {s with heap:=h',toks:=tk}:=I.turned (fun b o hb e=>kk b o (by simpa using hb) e) f0 f1 f3 f4 f5;refine⟨_,rfl,Yj (s:={s with heap:=h',toks:=tk}) (n:="range_iterator") GQ rfl rfl (by decide) ⟨.int (lo+i),H,I1,⟨t,?_⟩,⟨rfl,rfl⟩,GQ,fun b hb=>(hf b hb).1⟩⟩;rw[Int.mul_one]
 done:=by
  intro X hP hw hK hc i pins s σ H E I hf st hg;subst hP hw hK;obtain⟨f0,f1,f2,f3,f4,f5⟩:=hf it (by simp);exact wpAny_pyNext_range_end (I.ok.hd hc) st (by have:n<=i:=hg;omega) fun h' eb=>⟨rfl,I.turned (t':=s.toks) (fun b o hb e=>eb b o hb e) f0 f1 f3 f4 f5⟩
 self:=fun _ _ _ _ _ st h=>wpAny_pyIter_rangeiter st h
section
variable{X:Cx}{tg:Expr}
inductive adT(K:aY)(R:L2.It->Hp->Prop)(x:V)(H1:Hp):Prop
 |mk (a:_) (_:x=.ref a) (_:(∃xs,dw K H1 a xs)) (_:R (Itl K a) H1)
def ags(K:aY)(tl:TE):TI:=fun σ H R=>tl σ H fun x H1=>adT K R x H1
theorem fT{l:Expr}{tl:TE}(hl:PE X l tl):PI X tg l (ags X.K tl):=by
 intro pins s σ H R I h;refine ic (hl pins s σ H _ I h) fun v s1 ⟨x,H1,I1,r1,q1⟩=>?_;obtain⟨a,e,⟨xs,hq⟩,q⟩:=q1;subst e;cases r1;obtain⟨its,rv,p,hz⟩:=I1.list hq;refine wU p.isList ?_;refine⟨s1.heap.objs.size,[s1.heap.objs.size],_,_,H1,rfl,I1.kept (t':=s1.toks) fun b o e=>ba _ e,Uw a _,⟨_,bI _ rfl,rfl,rfl⟩,fun b hb=>?_,q⟩;have e:b=s1.heap.objs.size:=by simpa using hb
 subst e;exact I1.Vo (bu _) (I1.gx.fresh (bu _))
theorem OO{pins:ah}{σ:St}{H:Hp}{s:a9}{R:It->Hp->Prop}{E:ar}{lo hi:Int}{t u v:Tok}{tk:Nat}(I:Inv X pins σ H s)(h1: -(2^62)<=lo)(h2:lo<2^62)(h3: -(2^62)<=hi)(h4:hi<2^62)
 (q:R (Itr lo (hi-lo).toNat) H):bM (bK X.prog X.w) X.A (So (.ref s.heap.objs.size)) (PIE X pins σ tg R) E {s with heap:=s.heap.push {cls:=.type "range",data:=.fields #[.int lo t,.int hi u,.int 1 v]},toks:=tk}:=by
 refine wpAny_pyIter_range (IsRange.new ..) (small_one h1 h2 h3 h4) ?_
 have I1:Inv X pins σ H {s with heap:=s.heap.push {cls:=.type "range",data:=.fields #[.int lo t,.int hi u,.int 1 v]},toks:=tk}:=I.kept fun b o e=>ba _ e
 refine⟨(s.heap.push {cls:=.type "range",data:=.fields #[.int lo t,.int hi u,.int 1 v]}).objs.size,[(s.heap.push {cls:=.type "range",data:=.fields #[.int lo t,.int hi u,.int 1 v]}).objs.size],_,_,H,rfl,
  I1.kept (t':=tk) fun b o e=>ba _ e,QI _ lo (hi-lo).toNat,?_,fun b hb=>?_,q⟩
 ·have e1:lo+((0:Nat):Int)*1=lo:=by simp
  have e2:(((hi-lo).toNat:Nat):Int)-((0:Nat):Int)=E7 lo hi 1:=by rw[rangeSize_one];split<;>omega
  show IsRangeIter _ _ (lo+((0:Nat):Int)*1) ((((hi-lo).toNat:Nat):Int)-((0:Nat):Int)) 1
  rw[e1,e2]
  exact bI _ rfl
 have e:b=(s.heap.push {cls:=.type "range",data:=.fields #[.int lo t,.int hi u,.int 1 v]}).objs.size:=by simpa using hb
 subst e
 exact I1.Vo (bu _) (I1.gx.fresh (bu _))
inductive adS(R:L2.It->Hp->Prop)(vs:ao)(H1:Hp):Prop
 |mk (j:Int) (_:vs=[.int j]) (_: -(2^62)<=j) (_:j<2^62) (_:R (Itr 0 j.toNat) H1)
def agr(ta:TA):TI:=fun σ H R=>ta σ H fun vs H1=>adS R vs H1
inductive adR(R:L2.It->Hp->Prop)(vs:ao)(H1:Hp):Prop
 |mk (i j:Int) (_:vs=[.int i,.int j]) (_:(-(2^62)<=i/\i<2^62/\-(2^62)<=j/\j<2^62)) (_:R (Itr i (j-i).toNat) H1)
def agq(ta:TA):TI:=fun σ H R=>ta σ H fun vs H1=>adR R vs H1
theorem uK{a:Expr}{ta:TA}{p pos:Pos}(hg:Gl X "range")(hm:X.mg "range"=ab)(ha:PA X [a] ta)(hs:bX [a] X.env=[(af,eval a X.env)]:=by rfl):PI X tg (.Call (.Name "range" p) [a] [] pos) (agr ta):=by
 intro pins s σ H R I h;refine Call_ (rQ I hg hm boot_range (kE (ic (ha pos pins s σ H _ I h) fun us s1 ⟨vs,H1,I1,r1,q1⟩=>?_) hs rfl));obtain⟨j,e,q1,q2,q⟩:=q1;subst e;cases r1 with
 |cons r rr=>
  cases rr;obtain⟨t,rfl⟩:=r;exact call_range_1 (OO I1 (by omega) (by omega) q1 q2 (by simpa using q))
theorem UQ{a b:Expr}{ta:TA}{p pos:Pos}(hg:Gl X "range")(hm:X.mg "range"=ab)(ha:PA X [a,b] ta)(hs:bX [a,b] X.env=[(af,eval a X.env),(af,eval b X.env)]:=by rfl)(hs2:bX [b] X.env=[(af,eval b X.env)]:=by rfl):
 PI X tg (.Call (.Name "range" p) [a,b] [] pos) (agq ta):=by
 intro pins s σ H R I h
 refine Call_ (rQ I hg hm boot_range (kE (ic (ha pos pins s σ H _ I h) fun us s1 ⟨vs,H1,I1,r1,q1⟩=>?_) (by rw[hs,hs2]) (by rw[hs2];rfl)))
 obtain⟨i,j,e,⟨q1,q2,q3,q4⟩,q⟩:=q1
 subst e
 cases r1 with
 |cons r rr=>
  cases rr with
  |cons r' rr=>
   cases rr
   obtain⟨t,rfl⟩:=r
   obtain⟨t',rfl⟩:=r'
   exact call_range_2 (OO I1 q1 q2 q3 q4 q)
def aiw(wi:TI)(g:TG)(tb:TS):TS:=fun D σ H=>wi σ H fun J H1=>∃W:Nat->Nat->St->Hp->Prop,(∃m,W 0 m σ H1)/\∀i m σ H,W i m σ H->
 (J.stop i H/\D.nx σ H)\/(J.go i H/\∃N:St->Hp->Prop,(∀σ' H',N σ' H'->∃m',m'<m/\W (i+1) m' σ' H')/\∀x H',J.Wh i H x H'->g x σ H' fun σ2 H2=>tb {D with nx:=N,ct:=N,bk:=D.nx} σ2 H2)
def Ht(fp:ag)(h:Heap):ah:=fp.filterMap fun b=>(h.get? b).map fun o=>(b,o)
theorem AE{fp:ag}{h:Heap}{b:Addr}{o:Obj}(hb:b∈fp)(e:h.get? b=aa o):(b,o)∈Ht fp h:=Wa.mpr ⟨b,hb,by rw[e];rfl⟩
theorem UZ{fp:ag}{h:Heap}{p:Addr×Obj}(hp:p∈Ht fp h):p.1∈fp/\h.get? p.1=aa p.2:=by
 obtain⟨b,hb,e⟩:=Wa.mp hp;cases q:h.get? b with
 |none=>rw[q]at e;cases e
 |some o=>
  rw[q]at e;have e':(b,o)=p:=bT e;subst e';exact⟨hb,q⟩
theorem Inv.pinned{pins:ah}{σ:St}{H:Hp}{s:a9}{fp:ag}(I:Inv X pins σ H s)(hf:∀b∈fp,IM X pins H b)(ho:∀b∈fp,∃o,s.heap.get? b=aa o/\∀v,o.data≠ .cell v):Inv X (pins++Ht fp s.heap) σ H s:=
 I.BD fun p hp=>(d7.mp hp).elim (fun z=>I.pin p (dY _ z)) fun z=>by
  obtain⟨hb,e⟩:=UZ z;obtain⟨f0,f1,f2,_⟩:=hf p.1 hb;obtain⟨o,e',d⟩:=ho p.1 hb;rw[e]at e';cases e';exact⟨e,f0,f1,f2,d⟩
theorem Inv.ma{pins pl:ah}{σ:St}{H:Hp}{s:a9}(I:Inv X (pins++pl) σ H s):Inv X pins σ H s:=I.BD fun p hp=>I.pin p (dY _ (fK _ hp))
theorem fg{iter:Expr}{body:List Stmt}{wi:TI}{g:TG}{tb:TS}{pos:Pos}(hp:PassesOwn (bK X.prog X.w) X.A X.env X.xe)(hc:X.calm=ae)(hi:PI X tg iter wi)(hg:PG X tg g)(hb:Nt X body tb)
 (hs:∀x,wX iter X.env x=pure x:=by intro _;rfl):PS X (.For tg iter body [] pos) (aiw wi g tb):=by
 intro pins s σ H D I h
 refine wpAny_For (ic (hi pins s σ H _ I h) fun v s1 h1=>ic h1 fun itv s2 h2=>?_) hs
 obtain⟨it,fp,tn,J,H2,e,I2,T,st2,f2,W,⟨m0,w0⟩,turn⟩:=h2
 subst e
 have QT:∀{H':Hp},(∀b∈fp,H' b=ab)->∀b∈fp,IM X pins H' b:=fun hn b hb=>⟨hn b hb,(f2 b hb).2⟩
 refine codeAny_forLoop_any (fun n s'=>∃i σ' H',Inv X pins σ' H' s'/\tn i s'.heap/\(∀b∈fp,H' b=ab)/\W i n σ' H') ?_ m0 ⟨0,σ,H2,I2,st2,fun b hb=>(f2 b hb).1,w0⟩
 rintro n s3 ⟨i,σ3,H3,I3,st3,fr3,w3⟩
 rcases turn i n σ3 H3 w3 with⟨stop,qn⟩|⟨go,N,hN,step⟩
 ·refine lP hp (ic (T.done X rfl rfl rfl hc i pins s3 σ3 H3 X.xe I3 (QT fr3) st3 stop) fun r s4 ⟨hr,I4⟩=>?_)
  subst hr
  exact uq ⟨σ3,H3,I4,qn⟩
 refine lP hp (ic (T.item X rfl rfl rfl hc i pins s3 σ3 H3 X.xe I3 (QT fr3) st3 go) fun r s4 ⟨u,hr,h4⟩=>?_)
 subst hr
 refine lP hp (ic h4 fun _ s5 ⟨x,H5,I5,r5,y5,st5,fr5⟩=>?_)
 have I5':=I5.pinned (QT fr5) (T.obj _ _ st5)
 refine lP hp (ic (hg _ s5 σ3 H5 x u _ I5' r5 (step x H5 y5)) fun _ s6 ⟨σ6,H6,I6,q6⟩=>?_)
 refine lP hp (ic (hb _ s6 σ6 H6 _ I6 q6) fun f s7 q7=>?_)
 have again:∀{σ7:St}{H7:Hp},Inv X (pins++Ht fp s5.heap) σ7 H7 s7->N σ7 H7->∃m,m<n/\∃i σ' H',Inv X pins σ' H' s7/\tn i s7.heap/\(∀b∈fp,H' b=ab)/\W i m σ' H':=fun{σ7 H7} I7 n7=>by
  obtain⟨m',hm,w7⟩:=hN σ7 H7 n7;refine⟨m',hm,i+1,σ7,H7,I7.ma,T.keep _ _ _ st5 fun b hb o e=>(I7.pin (b,o) (dY _ (dY _ (AE hb e)))).1,fun b hb=>?_,w7⟩;obtain⟨o,e,d⟩:=T.obj _ _ st5 b hb;exact(I7.pin (b,o) (dY _ (dY _ (AE hb e)))).2.1
 cases f with
 |next=>obtain⟨σ7,H7,I7,n7⟩:=q7;exact again I7 n7
 |cont=>obtain⟨σ7,H7,I7,n7⟩:=q7;exact again I7 n7
 |brk=>obtain⟨σ7,H7,I7,q7⟩:=q7;exact⟨σ7,H7,I7.ma,q7⟩
 |ret v=>obtain⟨x7,σ7,H7,I7,r7,q7⟩:=q7;exact⟨x7,σ7,H7,I7.ma,r7,q7⟩
end
theorem f7{K:aY}{a:Addr}{xs:ao}{g:TG}{tb:TS}{D:Ends}{σ:St}{H:Hp}(Pv:Nat->St->Hp->Prop)(h0:Pv 0 σ H)(hl:∀i σ H,i<=xs.length->Pv i σ H->dw K H a xs)
 (hs:∀i x σ H,xs[i]?=aa x->Pv i σ H->g x σ H fun σ2 H2=>tb {D with nx:=Pv (i+1),ct:=Pv (i+1),bk:=D.nx} σ2 H2)(hd:∀σ H,Pv xs.length σ H->D.nx σ H):
 ∃W:Nat->Nat->St->Hp->Prop,(∃m,W 0 m σ H)/\∀i m σ H,W i m σ H->
  ((Itl K a).stop i H/\D.nx σ H)\/((Itl K a).go i H/\∃N:St->Hp->Prop,(∀σ' H',N σ' H'->∃m',m'<m/\W (i+1) m' σ' H')/\∀x H',(Itl K a).Wh i H x H'->g x σ H' fun σ2 H2=>tb {D with nx:=N,ct:=N,bk:=D.nx} σ2 H2):=by
 refine⟨fun i m σ H=>m=xs.length-i/\i<=xs.length/\Pv i σ H,⟨xs.length,by simp,cC _,h0⟩,?_⟩
 rintro i m σ H ⟨rfl,hi,p⟩
 have q:=hl i σ H hi p
 by_cases zy:i<xs.length
 ·refine .inr ⟨⟨xs,xs[i],q,by simp[zy]⟩,Pv (i+1),fun σ' H' p'=>⟨xs.length-(i+1),by omega,rfl,zy,p'⟩,fun x H' y=>?_⟩
  obtain⟨e,y⟩:=y
  subst e
  exact hs i x σ _ (y xs q) p
 have e:i=xs.length:=by omega
 subst e
 exact .inl ⟨⟨xs,q,bu _⟩,hd σ H p⟩
theorem rf{lo:Int}{n:Nat}{g:TG}{tb:TS}{D:Ends}{σ:St}{H:Hp}(Pv:Nat->St->Hp->Prop)(h0:Pv 0 σ H)
 (hs:∀i σ H,i<n->Pv i σ H->g (.int (lo+i)) σ H fun σ2 H2=>tb {D with nx:=Pv (i+1),ct:=Pv (i+1),bk:=D.nx} σ2 H2)(hd:∀σ H,Pv n σ H->D.nx σ H):
 ∃W:Nat->Nat->St->Hp->Prop,(∃m,W 0 m σ H)/\∀i m σ H,W i m σ H->
  ((Itr lo n).stop i H/\D.nx σ H)\/((Itr lo n).go i H/\∃N:St->Hp->Prop,(∀σ' H',N σ' H'->∃m',m'<m/\W (i+1) m' σ' H')/\∀x H',(Itr lo n).Wh i H x H'->g x σ H' fun σ2 H2=>tb {D with nx:=N,ct:=N,bk:=D.nx} σ2 H2):=by
 refine⟨fun i m σ H=>m=n-i/\i<=n/\Pv i σ H,⟨n,by simp,cC _,h0⟩,?_⟩
 rintro i m σ H ⟨rfl,hi,p⟩
 by_cases zy:i<n
 ·refine .inr ⟨zy,Pv (i+1),fun σ' H' p'=>⟨n-(i+1),by omega,rfl,zy,p'⟩,fun x H' y=>?_⟩
  obtain⟨e,y⟩:=y
  subst e y
  exact hs i σ _ zy p
 have e:i=n:=by omega
 subst e
 exact .inl ⟨bu _,hd σ H p⟩
abbrev R2:=V->V->Hp->VK->Prop
def Gn(X:Cx)(f:aX->aX->Sem aX)(r:R2):Prop:=
 ∀(pins:ah)(s:a9)(σ:St)(H:Hp)(x y:V)(v u:aX)(Q:VK),Inv X pins σ H s->RelV x v->RelV y u->r x y H Q->
  bM (bK X.prog X.w) X.A (f v u) (EP X pins σ Q) X.xe s
def UnR(X:Cx)(f:aX->Sem aX)(r:V->Hp->VK->Prop):Prop:=
 ∀(pins:ah)(s:a9)(σ:St)(H:Hp)(x:V)(v:aX)(Q:VK),Inv X pins σ H s->RelV x v->r x H Q->
  bM (bK X.prog X.w) X.A (f v) (EP X pins σ Q) X.xe s
def wG(X:Cx)(f:aX)(r:ao->Hp->VK->Prop):Prop:=
 ∀(pins:ah)(s:a9)(σ:St)(H:Hp)(xs:ao)(us:au)(Q:VK),Inv X pins σ H s->Vals xs us->r xs H Q->
  bM (bK X.prog X.w) X.A (call f us) (EP X pins σ Q) X.xe s
def tOp(r:R2)(ta tb:TE):TE:=fun σ H Q=>ta σ H fun x H1=>tb σ H1 fun y H2=>r x y H2 Q
def tUn(r:V->Hp->VK->Prop)(ta:TE):TE:=fun σ H Q=>ta σ H fun x H1=>r x H1 Q
inductive rI(C:Int->Int->Prop)(g:Int->Int->V)(x:V)(y:V)(H:Hp)(Q:VK):Prop
 |mk (i:_) (j:_) (_:x=.int i) (_:y=.int j) (_:C i j) (_:Q (g i j) H)
inductive rI0(g:Int->Int->V)(x:V)(y:V)(H:Hp)(Q:VK):Prop
 |mk (i:_) (j:_) (_:x=.int i) (_:y=.int j) (_:Q (g i j) H)
inductive rU(g:Int->V)(x:V)(H:Hp)(Q:VK):Prop
 |mk (i:_) (_:x=.int i) (_:Q (g i) H)
section
variable{X:Cx}{a b c:Expr}{ta tb tc:TE}{pos:Pos}
theorem aeD(ha:PE X a ta)(hb:PE X b tb){pins:ah}{s:a9}{σ:St}{H:Hp}{R:V->V->Hp->Prop}(I:Inv X pins σ H s)
 (h:ta σ H fun x H1=>tb σ H1 fun y H2=>R x y H2){Q:ar}{f:aX->aX->Sem aX}
 (hf:∀v u s2 x y H2,Inv X pins σ H2 s2->RelV x v->RelV y u->R x y H2->bM (bK X.prog X.w) X.A (f v u) Q X.xe s2):
 bM (bK X.prog X.w) X.A (eval a X.env) (fun v s₁=>bM (bK X.prog X.w) X.A (eval b X.env) (fun u s₂=>bM (bK X.prog X.w) X.A (f v u) Q X.xe s₂) X.xe s₁) X.xe s:=by
 refine ic (ha pins s σ H _ I h) fun v s1 ⟨x,H1,I1,r1,q1⟩=>?_
 refine ic (hb pins s1 σ H1 _ I1 q1) fun u s2 ⟨y,H2,I2,r2,q2⟩=>?_
 exact hf v u s2 x y H2 I2 r1 r2 q2
theorem fZ{op:Sz}{r:R2}(ho:Gn X (zE op) r)(ha:PE X a ta)(hb:PE X b tb):PE X (.BinOp a op b pos) (tOp r ta tb):=by
 intro pins s σ H Q I h;exact wpAny_BinOp (aeD ha hb I h fun v u s2 x y H2 I2 rx ry q=>ho pins s2 σ H2 x y v u Q I2 rx ry q)
theorem xJ{op:UnaryOp}{r:V->Hp->VK->Prop}(ho:UnR X (unaryOp op) r)(ha:PE X a ta):PE X (.UnaryOp op a pos) (tUn r ta):=by
 intro pins s σ H Q I h;exact UnaryOp_ (ic (ha pins s σ H _ I h) fun v s1 ⟨x,H1,I1,r1,q1⟩=>ho pins s1 σ H1 x v Q I1 r1 q1)
theorem DO{f:aX->aX->Sem aX}{C:Int->Int->Prop}{g:Int->Int->Int}
 (rule:∀(i j:Int)(t u:Tok)(s:a9)(Q:ar)(E:ar),C i j->Q (.int (g i j) s.toks) {s with toks:=s.toks+1}->bM (bK X.prog X.w) X.A (f (.int i t) (.int j u)) Q E s):
 Gn X f (rI C fun i j=>.int (g i j)):=by
 intro pins s σ H x y v u Q I rx ry h
 obtain⟨i,j,rfl,rfl,hc,q⟩:=h
 obtain⟨t,rfl⟩:=rx
 obtain⟨t',rfl⟩:=ry
 exact rule i j t t' s _ _ hc ⟨.int (g i j),H,I.tok _,⟨_,rfl⟩,q⟩
theorem af4{f:aX->aX->Sem aX}{g:Int->Int->Int}
 (rule:∀(i j:Int)(t u:Tok)(s:a9)(Q:ar)(E:ar),Q (.int (g i j) s.toks) {s with toks:=s.toks+1}->bM (bK X.prog X.w) X.A (f (.int i t) (.int j u)) Q E s):
 Gn X f (rI0 fun i j=>.int (g i j)):=by
 intro pins s σ H x y v u Q I rx ry h
 obtain⟨i,j,rfl,rfl,q⟩:=h
 obtain⟨t,rfl⟩:=rx
 obtain⟨t',rfl⟩:=ry
 exact rule i j t t' s _ _ ⟨.int (g i j),H,I.tok _,⟨_,rfl⟩,q⟩
theorem adq{f:aX->aX->Sem aX}{g:Int->Int->Bool}
 (rule:∀(i j:Int)(t u:Tok)(s:a9)(Q:ar)(E:ar),Q (.bool (g i j)) s->bM (bK X.prog X.w) X.A (f (.int i t) (.int j u)) Q E s):
 Gn X f (rI0 fun i j=>.bl (g i j)):=by
 intro pins s σ H x y v u Q I rx ry h
 obtain⟨i,j,rfl,rfl,q⟩:=h
 obtain⟨t,rfl⟩:=rx
 obtain⟨t',rfl⟩:=ry
 exact rule i j t t' s _ _ ⟨.bl (g i j),H,I,rfl,q⟩
def aeQ(i j:Int):Prop:=(-(2^64)<i/\i<2^64)\/(-(2^64)<j/\j<2^64)
theorem aeQ.ok{i j:Int}(h:aeQ i j):IntMulOk i j:=by
 rcases h with⟨h1,h2⟩|⟨h1,h2⟩
 ·exact .of_left (intBits_le_64 h1 h2)
 exact .of_right (intBits_le_64 h1 h2)
theorem j5:Gn X (zE .Add) (rI0 fun i j=>.int (i+j)):=af4 fun _ _ _ _ _ _ _ q=>add_int q
theorem DN:Gn X (zE .Sub) (rI0 fun i j=>.int (i-j)):=af4 fun _ _ _ _ _ _ _ q=>sub_int q
theorem Xt:Gn X (zE .Mult) (rI aeQ fun i j=>.int (i*j)):=DO fun _ _ _ _ _ _ _ hc q=>mul_int q hc.ok
theorem Rc:Gn X (zE .Mod) (rI (fun _ j=>0<j) fun i j=>.int (i%j)):=DO fun i j _ _ _ _ _ hc q=>by
 have h1:(0:Int)<j:=hc;exact mod_int' (by omega) (by rw[Int.fmod_eq_emod_of_nonneg i (by omega)];exact q)
theorem unI{f:aX->Sem aX}{g:Int->Int}
 (rule:∀(i:Int)(t:Tok)(s:a9)(Q:ar)(E:ar),Q (.int (g i) s.toks) {s with toks:=s.toks+1}->bM (bK X.prog X.w) X.A (f (.int i t)) Q E s):
 UnR X f (rU fun i=>.int (g i)):=by
 intro pins s σ H x v Q I rx h
 obtain⟨i,rfl,q⟩:=h
 obtain⟨t,rfl⟩:=rx
 exact rule i t s _ _ ⟨.int (g i),H,I.tok _,⟨_,rfl⟩,q⟩
theorem rl:UnR X (unaryOp .USub) (rU fun i=>.int (-i)):=unI fun _ _ _ _ _ q=>neg_int q
end
def afK:V->V->Bool
 |.j7,.j7=>ae|.j7,.int _=>ae|.int _,.j7=>ae|.j7,.bl _=>ae|.bl _,.j7=>ae|.j7,.str _=>ae|.str _,.j7=>ae
 |.int _,.int _=>ae|.bl _,.bl _=>ae|.str _,.str _=>ae|.VF _,.VF _=>ae
 |.int _,.str _=>ae|.str _,.int _=>ae|.bl _,.str _=>ae|.str _,.bl _=>ae
 |_,_=>af
def rEq:R2:=fun x y H Q=>afK x y=ae/\Q (.bl (decide (x=y))) H
def rNe:R2:=fun x y H Q=>afK x y=ae/\Q (.bl (!decide (x=y))) H
theorem T6{i j:Int}:decide (V.int i=V.int j)=(i==j):=by
 rw[eN];simp
theorem Yx{i j:Bool}:decide (V.bl i=V.bl j)=(i==j):=by
 rw[eN];simp
theorem T5{i j:Str}:decide (V.str i=V.str j)=(i==j):=by
 rw[eN];simp
theorem T7{i j:Array UInt8}:decide (V.VF i=V.VF j)=(i.toList==j.toList):=by
 rw[eN];cases i;cases j;simp
section
variable{X:Cx}{a b c:Expr}{ta tb tc:TE}{pos:Pos}
theorem gJ{pins:ah}{σ:St}{H:Hp}{s:a9}{Q:VK}{k k':Bool}(I:Inv X pins σ H s)(q:Q (.bl k) H)(e:k=k'):EP X pins σ Q (.bool k') s:=by
 subst e;exact⟨.bl k,H,I,rfl,q⟩
theorem iY:Gn X (jb .Eq) rEq:=by
 intro pins s σ H x y v u Q I rx ry h;obtain⟨hs,q⟩:=h;cases x with
 |j7=>
  cases rx;cases y with
  |j7=>cases ry;exact PySem.EqNone.eq_none_none (gJ I q (by simp))
  |bl j=>cases ry;exact PySem.EqNone.eq_none_bool (gJ I q (by simp))
  |int j=>obtain⟨t',rfl⟩:=ry;exact PySem.EqNone.eq_none_int (gJ I q (by simp))
  |str j=>obtain⟨t',rfl⟩:=ry;exact PySem.EqNone.eq_none_str (gJ I q (by simp))
  |_=>exact absurd (show af=ae from hs) cB
 |bl i=>
  cases rx;cases y with
  |j7=>cases ry;exact PySem.EqNone.eq_bool_none (gJ I q (by simp))
  |bl j=>cases ry;exact eq_bool (gJ I q Yx)
  |str j=>obtain⟨t',rfl⟩:=ry;exact PySem.EqMixed.eq_bool_str (gJ I q (by simp))
  |_=>exact absurd (show af=ae from hs) cB
 |int i=>
  obtain⟨t,rfl⟩:=rx;cases y with
  |j7=>cases ry;exact PySem.EqNone.eq_int_none (gJ I q (by simp))
  |int j=>obtain⟨t',rfl⟩:=ry;exact eq_int (gJ I q T6)
  |str j=>obtain⟨t',rfl⟩:=ry;exact PySem.EqMixed.eq_int_str (gJ I q (by simp))
  |_=>exact absurd (show af=ae from hs) cB
 |str i=>
  obtain⟨t,rfl⟩:=rx;cases y with
  |j7=>cases ry;exact PySem.EqNone.eq_str_none (gJ I q (by simp))
  |bl j=>cases ry;exact PySem.EqMixed.eq_str_bool (gJ I q (by simp))
  |int j=>obtain⟨t',rfl⟩:=ry;exact PySem.EqMixed.eq_str_int (gJ I q (by simp))
  |str j=>obtain⟨t',rfl⟩:=ry;exact eq_str (gJ I q T5)
  |_=>exact absurd (show af=ae from hs) cB
 |VF i=>
  obtain⟨t,rfl⟩:=rx;cases y with
  |VF j=>obtain⟨t',rfl⟩:=ry;exact PySem.W.eq_bytes (gJ I q T7)
  |_=>exact absurd (show af=ae from hs) cB
 |_=>cases y<;>exact absurd (show af=ae from hs) cB
theorem wz:Gn X (jb .NotEq) rNe:=by
 intro pins s σ H x y v u Q I rx ry h;obtain⟨hs,q⟩:=h;cases x with
 |j7=>
  cases rx;cases y with
  |j7=>cases ry;exact PySem.EqNone.ne_none_none (gJ I q (by simp))
  |bl j=>cases ry;exact PySem.EqNone.ne_none_bool (gJ I q (by simp))
  |int j=>obtain⟨t',rfl⟩:=ry;exact PySem.EqNone.ne_none_int (gJ I q (by simp))
  |str j=>obtain⟨t',rfl⟩:=ry;exact PySem.EqNone.ne_none_str (gJ I q (by simp))
  |_=>exact absurd (show af=ae from hs) cB
 |bl i=>
  cases rx;cases y with
  |j7=>cases ry;exact PySem.EqNone.ne_bool_none (gJ I q (by simp))
  |bl j=>cases ry;exact ne_bool (gJ I q (congrArg not Yx))
  |str j=>obtain⟨t',rfl⟩:=ry;exact PySem.EqMixed.ne_bool_str (gJ I q (by simp))
  |_=>exact absurd (show af=ae from hs) cB
 |int i=>
  obtain⟨t,rfl⟩:=rx;cases y with
  |j7=>cases ry;exact PySem.EqNone.ne_int_none (gJ I q (by simp))
  |int j=>obtain⟨t',rfl⟩:=ry;exact ne_int (gJ I q (congrArg not T6))
  |str j=>obtain⟨t',rfl⟩:=ry;exact PySem.EqMixed.ne_int_str (gJ I q (by simp))
  |_=>exact absurd (show af=ae from hs) cB
 |str i=>
  obtain⟨t,rfl⟩:=rx;cases y with
  |j7=>cases ry;exact PySem.EqNone.ne_str_none (gJ I q (by simp))
  |bl j=>cases ry;exact PySem.EqMixed.ne_str_bool (gJ I q (by simp))
  |int j=>obtain⟨t',rfl⟩:=ry;exact PySem.EqMixed.ne_str_int (gJ I q (by simp))
  |str j=>obtain⟨t',rfl⟩:=ry;exact ne_str (gJ I q (congrArg not T5))
  |_=>exact absurd (show af=ae from hs) cB
 |VF i=>
  obtain⟨t,rfl⟩:=rx;cases y with
  |VF j=>obtain⟨t',rfl⟩:=ry;exact PySem.W.ne_bytes (gJ I q (congrArg not T7))
  |_=>exact absurd (show af=ae from hs) cB
 |_=>cases y<;>exact absurd (show af=ae from hs) cB
theorem tm:Gn X (jb .Lt) (rI0 fun i j=>.bl (decide (i<j))):=adq fun _ _ _ _ _ _ _ q=>lt_int q
theorem BG:Gn X (jb .LtE) (rI0 fun i j=>.bl (decide (i<=j))):=adq fun _ _ _ _ _ _ _ q=>le_int q
theorem zX:Gn X (jb .Gt) (rI0 fun i j=>.bl (decide (j<i))):=adq fun _ _ _ _ _ _ _ q=>gt_int q
theorem dg(b:Expr){op:We}(h:op≠ .In:=by decide)(h2:op≠ .NotIn:=by decide):oS op b=af:=by
 have e1:(op==CmpOp.In)=af:=by cases op<;>first|rfl|exact absurd rfl h
 have e2:(op==CmpOp.NotIn)=af:=by cases op<;>first|rfl|exact absurd rfl h2
 cases b<;>simp[oS,e1,e2]
theorem jD{op:We}{r:R2}(ho:Gn X (jb op) r)(ha:PE X a ta)(hb:PE X b tb)(hm:oS op b=af):PE X (.Compare a [op] [b] pos) (tOp r ta tb):=by
 intro pins s σ H Q I h;exact wpAny_Compare1 (aeD ha hb I h fun v u s2 x y H2 I2 rx ry q=>ho pins s2 σ H2 x y v u Q I2 rx ry q) hm
inductive acI(Q:Bool->Hp->Prop)(x:V)(H':Hp):Prop
 |mk (k:_) (_:x=.bl k) (_:Q k H')
def SS(t:TE):TT:=fun σ H Q=>t σ H fun x H'=>acI Q x H'
theorem cS{op:We}{r:R2}(ho:Gn X (jb op) r)(ha:PE X a ta)(hb:PE X b tb)(hm:oS op b=af):PT X (.Compare a [op] [b] pos) (SS (tOp r ta tb)):=by
 intro pins s σ H Q I h
 refine Zw (ic (ha pins s σ H _ I h) fun v s1 ⟨x,H1,I1,r1,q1⟩=>ic (hb pins s1 σ H1 _ I1 q1) fun u s2 ⟨y,H2,I2,r2,q2⟩=>
  ic (ho pins s2 σ H2 x y v u _ I2 r1 r2 q2) fun c s3 ⟨z,H3,I3,r3,k,e,q3⟩=>?_) hm
 subst e;cases r3;exact ij ⟨H3,I3,q3⟩
inductive ZP(r':R2)(tc:TE)(σ:L2.St)(Q:VK)(y:V)(z:V)(H3:Hp):Prop
 |mk (k:_) (_:z=.bl k) (_:(if k=ae then tc σ H3 fun w' H4=>r' y w' H4 Q else Q (.bl af) H3))
def Wt(r r':R2)(ta tb tc:TE):TE:=fun σ H Q=>ta σ H fun x H1=>tb σ H1 fun y H2=>r x y H2 fun z H3=>ZP r' tc σ Q y z H3
theorem Hx{op op':We}{r r':R2}(ho:Gn X (jb op) r)(EV:Gn X (jb op') r')(ha:PE X a ta)(hb:PE X b tb)(hc:PE X c tc)
 (hm:lastMarks [op,op'] [b,c]=af:=by with_unfolding_all rfl):PE X (.Compare a [op,op'] [b,c] pos) (Wt r r' ta tb tc):=by
 intro pins s σ H Q I h
 refine Compare_chain (ic (ha pins s σ H _ I h) fun v s1 ⟨x,H1,I1,r1,q1⟩=>chain_link (ic (hb pins s1 σ H1 _ I1 q1) fun u s2 ⟨y,H2,I2,r2,q2⟩=>
  ic (ho pins s2 σ H2 x y v u _ I2 r1 r2 q2) fun d s3 ⟨z,H3,I3,r3,k,e,q3⟩=>?_)) hm
 subst e
 cases r3
 refine ij ?_
 cases k with
 |false=>exact ite_ff ⟨.bl af,H3,I3,rfl,q3⟩
 |true=>exact ite_tt (chain_last (ic (hc pins s3 σ H3 _ I3 q3) fun w' s4 ⟨z',H4,I4,r4,q4⟩=>EV pins s4 σ H4 y z' u w' Q I4 r2 r4 q4))
theorem Xa{op op':We}{r r':R2}(ho:Gn X (jb op) r)(EV:Gn X (jb op') r')(ha:PE X a ta)(hb:PE X b tb)(hc:PE X c tc)
 (hm:lastMarks [op,op'] [b,c]=af:=by with_unfolding_all rfl):PT X (.Compare a [op,op'] [b,c] pos) (SS (Wt r r' ta tb tc)):=by
 intro pins s σ H Q I h
 refine isTrue_chain (ic (ha pins s σ H _ I h) fun v s1 ⟨x,H1,I1,r1,q1⟩=>test_link (ic (hb pins s1 σ H1 _ I1 q1) fun u s2 ⟨y,H2,I2,r2,q2⟩=>
  ic (ho pins s2 σ H2 x y v u _ I2 r1 r2 q2) fun d s3 ⟨z,H3,I3,r3,k,e,q3⟩=>?_)) hm
 subst e
 cases r3
 refine ij ?_
 cases k with
 |false=>
  obtain⟨k',e',q'⟩:=q3
  cases e'
  exact ite_ff ⟨H3,I3,q'⟩
 |true=>
  refine ite_tt (test_last (ic (hc pins s3 σ H3 _ I3 q3) fun w' s4 ⟨z',H4,I4,r4,q4⟩=>ic (EV pins s4 σ H4 y z' u w' _ I4 r2 r4 q4) fun d' s5 ⟨z2,H5,I5,r5,k2,e2,q5⟩=>?_))
  subst e2
  cases r5
  exact ij ⟨H5,I5,q5⟩
theorem xY:(bz:Nat)<2^63:=by rw[bZ];decide
theorem Rf:Gn X (zE .Add) (fun x y H Q=>∃i j,x=.str i/\y=.str j/\i.length+j.length<=bz/\Q (.str (i++j)) H):=by
 intro pins s σ H x y v u Q I rx ry h;obtain⟨i,j,rfl,rfl,hz,q⟩:=h;obtain⟨t,rfl⟩:=rx;obtain⟨t',rfl⟩:=ry;exact add_str (fun t' tk=>⟨.str (i++j),H,I.tok _,⟨_,rfl⟩,q⟩) hz
theorem vals1{x:V}{us:au}(r:Vals [x] us):∃u,us=[u]/\RelV x u:=by
 cases r with
 |cons r1 r2=>cases r2;exact⟨_,rfl,r1⟩
theorem vals2{x y:V}{us:au}(r:Vals [x,y] us):∃u w',us=[u,w']/\RelV x u/\RelV y w':=by
 cases r with
 |cons r1 r2=>
  cases r2 with
  |cons r3 r4=>cases r4;exact⟨_,_,rfl,r1,r3⟩
theorem Ei(hc:X.calm=ae):wG X (.builtin "max") (fun xs H Q=>∃i j,xs=[.int i,.int j]/\Q (.int (if j>i then j else i)) H):=by
 intro pins s σ H xs us Q I r h;obtain⟨i,j,rfl,q⟩:=h;obtain⟨u,w',rfl,⟨t,rfl⟩,⟨t',rfl⟩⟩:=vals2 r;refine max_two_ints (I.ok.hd hc) fun h' tk k=>⟨_,H,I.kept k,?_,q⟩;by_cases hj:j>i
 ·rw[da hj,da hj];exact⟨_,rfl⟩
 rw[cQ hj,cQ hj];exact⟨_,rfl⟩
theorem Na:wG X (.type "str") (fun xs H Q=>∃i,xs=[.int i]/\i.natAbs.log2<1920/\Q (.str (toString i)) H):=by
 intro pins s σ H xs us Q I r h;obtain⟨i,rfl,hz,q⟩:=h;obtain⟨u,rfl,t,rfl⟩:=vals1 r;exact PySem.P.str_of_int hz ⟨.str _,H,I.tok _,⟨_,rfl⟩,q⟩
theorem YC:wG X (.builtin "ord") (fun xs H Q=>∃x,xs=[.str x]/\x.length=1/\Q (.int (x.cps.getD 0 0:Nat)) H):=by
 intro pins s σ H xs us Q I r h;obtain⟨x,rfl,hz,q⟩:=h;obtain⟨u,rfl,t,rfl⟩:=vals1 r;exact ord_of_one hz ⟨.int _,H,I.tok _,⟨_,rfl⟩,q⟩
end
structure Sh(h:Heap)(x dx C:Addr)(mA:aj):Prop where
 obj:h.get? x=aa (jC C dx)
 ns:h.Ns1 dx mA
 ne:dx≠x
theorem KN{h:Heap}{dx:Addr}{mA:aj}(n:h.Ns1 dx mA):∃od,h.get? dx=aa od/\∀name,yt name od=aa (mA name):=by
 obtain⟨o,es,ep,ho,hd,hk,_,hm⟩:=n;refine⟨o,ho,fun name=>?_⟩;have e:=hm name;unfold nsFind findBy at e;rw[<-Dc]at e;unfold yt;rw[hd];dsimp only;split
 ·rename_i y q;rw[q]at e;exact congrArg aa e
 rename_i q;rw[q]at e
 have a:es.toList.any (·.refKey)=af:=by
  rw[hX];intro y hy;obtain⟨z,t,ajU⟩:=hk y (Array.mem_toList_iff.mp hy);simp[DictEntry.refKey,ajU]
 have a':¬es.toList.any (·.refKey)=ae:=by rw[a];exact cB
 rw[cQ a'];exact congrArg aa e
theorem Sh.look{h:Heap}{x dx C:Addr}{mA:aj}(I:Sh h x dx C mA):∃od,PySem.W.InstAt h x (jC C dx) C (aa od)/\∀name,yt name od=aa (mA name):=
 let⟨od,ho,hl⟩:=KN I.ns
 ⟨od,⟨I.obj,rfl,rfl,ho⟩,hl⟩
section
variable{prog:bY}{w:cX}{A:cZ}{E:ar}{s:a9}{K:aY}{x dx C f:Addr}{mA:aj}{name:Str}{v:aX}
theorem get_map{expr:Bool}{Q:ar}(X:K.In s.heap)(I:Sh s.heap x dx C mA)(hg:va K C name=ae)(hh:oB K C=ae)
 (ha:gb K (.ref C) name=aa ab)(hv:mA name=aa v)(hv':VS v=ae)(h:Q v {s with toks:=s.toks+1}):
 bM (bK prog w) A (Y7 (.ref x) name expr) Q E s:=by
 obtain⟨od,J,hl⟩:=I.look
 exact PySem.W.get_value X J (zF hg).1 (PySem.W.findObj_own hh ha rfl (by rw[hl,hv])) hv' h
theorem Yl{pl:Sem Bool}{Q:aX×au->a9->Prop}(X:K.In s.heap)(I:Sh s.heap x dx C mA)(hg:va K C name=ae)
 (hf:gb K (.ref C) name=aa (aa (.ref f)))(ht:NH K (.ref f)=ae)(hv:mA name=ab)(h:Q (.ref f,[.ref x]) s):
 bM (bK prog w) A (pW (.ref x) name pl) Q E s:=by
 obtain⟨od,J,hl⟩:=I.look
 exact PySem.W.method_fn X J (zF hg).1 (zF hg).2 hf (beq_iff_eq.mp ht) (by show(yt name od).map (·.isSome)=aa af;rw[hl,hv];rfl) h
theorem F9{ns:ak}{Q:Unit->a9->Prop}(X:K.In s.heap)(I:Sh s.heap x dx C mA)
 (hs:gb K (.ref C) "__setattr__"=aa (aa (.builtin "object.__setattr__")))(hp:Ui K C=ae)(ht:FP K C name=aa ab)(hh:oB K C=ae)
 (hw:oV mA ns)(hsz:ns.length<=bz)
 (h:∀h',Sh h' x dx C (fun y=>if y=name then aa v else mA y)->kQ dx s.heap h'->Q () {s with heap:=h',toks:=s.toks+2}):
 bM (bK prog w) A (setAttr (.ref x) name v) Q E s:=by
 obtain⟨od,J,hl⟩:=I.look
 refine PySem.W.set_plain X J hs (PySem.W.osa_open (s:={s with toks:=s.toks+1}) (r:=ab) X J hp ht fun b=>?_)
 obtain⟨cd,hc,hd'⟩:=PySem.W.any_some hh
 have hx:s.heap.get? x=aa ⟨.ref C,aa dx,.plain,#[]⟩:=I.obj
 refine aP (bg (aP (aP (Et hx (aP (PySem.W.Looks.here (s:={s with toks:=s.toks+1}) (PySem.W.looks_clsIn X hc) ?_))))))
 rw[hd']
 refine bg (a:=aa dx) (aP (bg (aP ?_)))
 refine Y2 (s:={s with toks:=s.toks+1}) I.ns fun h' zw hs2=>?_
 obtain⟨oD,esD,epD,hoD,hdD,hcD⟩:=zw.count (y8 name v hw)
 refine aP (Ny hoD (by rw[hdD];exact NC (cR hcD (by rw[cK];omega))) ?_)
 exact bg (h _ ⟨(hs2.2 _ (dh I.ne)).trans I.obj,zw,I.ne⟩ hs2)
theorem XO{R:Ey->a9->Prop}{vs:au}{kw:List (Str×aX)}(X:K.In s.heap)(hm:V7 K C=ae)
 (hi:gb K (.ref C) "__init__"=aa (aa (.ref f)))(hf:PySem.W.typeIn K (.ref f)=aa (.type "function"))
 (h:jA (bK prog w) (A.under (.builtin "type.__call__" ⟨.ref C::vs,kw⟩)) (.call (.ref f) ⟨.ref (s.heap.objs.size+1)::vs,kw⟩) (PySem.W.InitBack (s.heap.objs.size+1) R)
  {s with heap:=(s.heap.push gR).push (jC C s.heap.objs.size)}):
 jA (bK prog w) A (.call (.ref C) ⟨vs,kw⟩) R s:=by
 obtain⟨hh,g,d,t,os⟩:=s
 exact PySem.W.make_core (PySem.W.makes_of X hm) (PySem.W.looks_findIn X hi) (fun self=>PySem.W.bind_fn X self hf) (.inl rfl) h
end
def rL(f:Str)(v:V):aq->aq
 |[]=>[(f,v)]
 |(g,x)::r=>if g=f then(g,v)::r else(g,x)::rL f v r
theorem xX(f g:Str)(v:V):∀fs:aq,(rL f v fs).lookup g=if g=f then aa v else fs.lookup g
 |[]=>by
  show ig g [(f,v)]=_;by_cases h:g=f
  ·have hb:(g==f)=ae:=beq_iff_eq.mpr h;simp only[ig,hb,da h]
  have hb:(g==f)=af:=beq_eq_false_iff_ne.mpr h;simp only[ig,hb,cQ h]
 |(k,x)::r=>by
  have ih:=xX f g v r;rw[show rL f v ((k,x)::r)=(if k=f then(k,v)::r else(k,x)::rL f v r)from rfl];by_cases hk:k=f
  ·rw[da hk];by_cases h:g=k
   ·have hb:(g==k)=ae:=beq_iff_eq.mpr h;simp only[ig,hb,da (h.trans hk)]
   have hb:(g==k)=af:=beq_eq_false_iff_ne.mpr h;simp only[ig,hb,cQ (fun e:g=f=>h (e.trans hk.symm))]
  rw[cQ hk];by_cases h:g=k
  ·have hb:(g==k)=ae:=beq_iff_eq.mpr h;simp only[ig,hb,cQ (fun e:g=f=>hk (h.symm.trans e))]
  have hb:(g==k)=af:=beq_eq_false_iff_ne.mpr h;simp only[ig,hb];exact ih
theorem uR(f:Str)(v:V):∀fs:aq,f∈(rL f v fs).map (·.1)/\∀g,g∈fs.map (·.1)->g∈(rL f v fs).map (·.1)
 |[]=>⟨by simp[rL],fun g h=>by simp at h⟩
 |(k,x)::r=>by
  obtain⟨i1,i2⟩:=uR f v r;rw[show rL f v ((k,x)::r)=(if k=f then(k,v)::r else(k,x)::rL f v r)from rfl];by_cases hk:k=f
  ·rw[da hk];subst hk;exact⟨by simp,fun g h=>by simpa using h⟩
  rw[cQ hk];refine⟨?_,fun g h=>?_⟩
  ·rw[dE];exact bD _ i1
  rw[dE]at h⊢;rcases bQ.mp h with e|e
  ·exact bQ.mpr (.inl e)
  exact bD _ (i2 g e)
theorem x5(f:Str)(v:V):∀fs:aq,(rL f v fs).length<=fs.length+1
 |[]=>by simp[rL]
 |(k,x)::r=>by
  have ih:=x5 f v r;rw[show rL f v ((k,x)::r)=(if k=f then(k,v)::r else(k,x)::rL f v r)from rfl];by_cases hk:k=f
  ·rw[da hk,cK,cK];omega
  rw[cQ hk,cK,cK];omega
theorem qW.some_of{v:V}{o:Option aX}(r:qW (aa v) o):∃u,o=aa u/\RelV v u:=by
 cases o with
 |none=>exact(show False from r).elim
 |some u=>exact⟨u,rfl,r⟩
theorem qW.none_of{o:Option aX}(r:qW ab o):o=ab:=by
 cases o with
 |none=>rfl
 |some u=>exact(show False from r).elim
theorem KZ{v:V}{u:aX}(r:RelV v u):VS u=ae:=by
 cases v with
 |j7=>cases(show u=eG from r);rfl
 |bl b=>cases(show u=Value.bool b from r);rfl
 |int i=>obtain⟨t,e⟩:=(show∃t,u=l6 i t from r);cases e;rfl
 |str x=>obtain⟨t,e⟩:=(show∃t,u=Ai x t from r);cases e;rfl
 |VF b=>obtain⟨t,e⟩:=(show∃t,u=Value.bytes b t from r);cases e;rfl
 |flt b=>obtain⟨t,e⟩:=(show∃t,u=Value.float b t from r);cases e;rfl
 |ref a=>cases(show u=cu a from r);rfl
 |ty n=>cases(show u=iV n from r);rfl
section
variable{P:bY}{w:cX}{H H':Hp}{h h':Heap}{a C dx:Addr}{fs fs':aq}
theorem Mo(gx:yq P w H h)(e:H a=aa (.ins C dx fs)):∃mA,Sh h a dx C mA/\(∀f,qW (fs.lookup f) (mA f))/\oV mA (fs.map (·.1))/\fs.length<=1000/\H dx=aa (.own a):=by
 obtain⟨d,z,ne,ob,mA,n,r,q⟩:=(show jc P w H h a (.ins C dx fs)from gx a _ e);exact⟨mA,⟨ob,n,ne⟩,r,q,z,d⟩
end
structure Gq(K:aY)(C:Addr):Prop where
 pg:va K C Str.empty=ae
 hd:oB K C=ae
 po:Ui K C=ae
 sa:gb K (.ref C) "__setattr__"=aa (aa (.builtin "object.__setattr__"))
theorem Gq.get{K:aY}{C:Addr}(c:Gq K C)(f:Str):va K C f=ae:=c.pg
def eV(K:aY)(C:Addr)(f:Str):Prop:=gb K (.ref C) f=aa ab
theorem eV.afr{K:aY}{C:Addr}{f:Str}(n:eV K C f):FP K C f=aa ab:=by
 unfold FP;rw[show gb K (.ref C) f=aa ab from n];rfl
structure Meth(K:aY)(C:Addr)(m:Str)(f:Addr):Prop where
 at_:gb K (.ref C) m=aa (aa (.ref f))
 fn:NH K (.ref f)=ae
 kp:jg K (.ref f)=ae
section
variable{X:Cx}{pins:ah}{σ:St}{H:Hp}{s:a9}{a C dx:Addr}{fs:aq}{f:Str}{v:V}{A:cZ}{E:ar}
theorem Ir{b:Bool}{Q:ar}(I:Inv X pins σ H s)(e:H a=aa (.ins C dx fs))(c:Gq X.K C)(n:eV X.K C f)(l:fs.lookup f=aa v)
 (h:∀u s',Inv X pins σ H s'->RelV v u->Q u s'):bM (bK X.prog X.w) A (Y7 (.ref a) f b) Q E s:=by
 obtain⟨mA,O,r,_,_,_⟩:=Mo I.gx e
 obtain⟨u,hu,ru⟩:=qW.some_of (v:=v) (o:=mA f) (by rw[<-l];exact r f)
 exact get_map I.wQ O (c.get f) c.hd n hu (KZ ru) (h u _ (I.tok _) ru)
theorem Iq{m:Str}{g:Addr}{pl:Sem Bool}{Q:aX×au->a9->Prop}(I:Inv X pins σ H s)(e:H a=aa (.ins C dx fs))(c:Gq X.K C)(k:Meth X.K C m g)(l:fs.lookup m=ab)
 (h:Q (.ref g,[.ref a]) s):bM (bK X.prog X.w) A (pW (.ref a) m pl) Q E s:=by
 obtain⟨mA,O,r,_,_,_⟩:=Mo I.gx e
 have hn:mA m=ab:=qW.none_of (by rw[<-l];exact r m)
 exact Yl I.wQ O (c.get m) k.at_ k.fn hn h
theorem Hc{y:V}{u:aX}{Q:Unit->a9->Prop}(I:Inv X pins σ H s)(e:H a=aa (.ins C dx fs))(c:Gq X.K C)(n:eV X.K C f)(hl:fs.length<1000)(ry:RelV y u)
 (h:∀s',Inv X pins σ (upd H a (.ins C dx (rL f y fs))) s'->Q () s'):bM (bK X.prog X.w) A (setAttr (.ref a) f u) Q E s:=by
 obtain⟨mA,O,r,wi,_,ho⟩:=Mo I.gx e
 have hz:(fs.map (·.1)).length<=bz:=by rw[aV,bZ];omega
 refine F9 I.wQ O c.sa c.po n.afr c.hd wi hz fun h' O' sb=>h _ ?_
 have hd:∃o,h'.get? dx=aa o:=let⟨o,_,_,e',_⟩:=O'.ns;⟨o,e'⟩
 refine I.write (x:=a) (e:=dx) (by rw[e];exact jw) (.inr ho) (fun b q hb z=>(sb.2 b hb).trans z) hd ?_
 refine⟨by rw[bB O.ne];exact ho,?_,O.ne,O'.obj,_,O'.ns,fun g=>?_,fun g hg=>?_⟩
 ·have:=x5 f y fs;omega
 ·show qW ((rL f y fs).lookup g) (if g=f then aa u else mA g)
  rw[xX]
  by_cases q:g=f
  ·rw[da q,da q];exact ry
  rw[cQ q,cQ q];exact r g
 by_cases q:g=f
 ·rw[q];exact(uR f y fs).1
 refine(uR f y fs).2 g (wi g fun z=>hg ?_)
 show(if g=f then aa u else mA g)=ab
 rw[cQ q];exact z
theorem Inv.made(I:Inv X pins σ H s):Inv X pins σ (upd (upd H s.heap.objs.size (.own (s.heap.objs.size+1))) (s.heap.objs.size+1) (.ins C s.heap.objs.size []))
 {s with heap:=(s.heap.push gR).push (jC C s.heap.objs.size)}:=by
 have e1:(s.heap.push gR).get? s.heap.objs.size=aa gR:=bI s.heap rfl
 have e2:((s.heap.push gR).push (jC C s.heap.objs.size)).get? (s.heap.objs.size+1)=aa (jC C s.heap.objs.size):=by
  have:=bI (s.heap.push gR) (o:=jC C s.heap.objs.size) rfl;rwa [dB]at this
 have e3:(s.heap.push gR).Ns s.heap.objs.size (fun _=>ab):=⟨gR,#[],_,e1,rfl,(fun e he=>absurd he (by simp)),fun _=>rfl⟩
 have I1:=I.laid (a:=s.heap.objs.size) (o:=.own (s.heap.objs.size+1)) (h':=s.heap.push gR) (t':=s.toks) (fun b u q=>ba _ q) (bu _) ⟨_,e1⟩
 refine I1.laid (a:=s.heap.objs.size+1) (o:=.ins C s.heap.objs.size []) (t':=s.toks) (fun b u q=>ba _ q) (k4 (dB _ _)) ?_
 have ne:s.heap.objs.size≠s.heap.objs.size+1:=ck (eQ _)
 refine⟨by rw[bB ne,bf],cC _,ne,e2,fun _=>ab,(SG e3).at fun o q=>ba _ q,fun _=>jw,fun y hy=>absurd rfl hy⟩
theorem Uc{prog:bY}{w:cX}{env:Env}{e:Expr}{f:Str}{pos:Pos}{s:a9}{Q:ar}(hb:sA e f env (eval e env)=eval e env)
 (h:bM (bK prog w) A (eval e env) (fun o s₁=>bM (bK prog w) A (Y7 o f ae) Q E s₁) E s):bM (bK prog w) A (eval (.Attribute e f pos) env) Q E s:=
 Attribute_any_ h (by rw[arm_eval_Attribute,hb])
end
inductive afA(K:aY)(f:Str)(Q:VK)(x:V)(H1:Hp):Prop
 |mk (a:_) (C:_) (dx:_) (fs:_) (v:_) (_:x=.ref a) (_:H1 a=aa (.ins C dx fs)) (_:Gq K C) (_:eV K C f) (_:fs.lookup f=aa v) (_:Q v H1)
def ZN(K:aY)(ta:TE)(f:Str):TE:=fun σ H Q=>ta σ H fun x H1=>afA K f Q x H1
inductive afM(K:aY)(f:Str)(D:L2.Ends)(σ:L2.St)(y:V)(x:V)(H2:Hp):Prop
 |mk (a:_) (C:_) (dx:_) (fs:_) (_:x=.ref a) (_:H2 a=aa (.ins C dx fs)) (_:Gq K C) (_:eV K C f) (_:fs.length<1000) (_:D.nx σ (upd H2 a (.ins C dx (rL f y fs))))
def aiM(K:aY)(ta tv:TE)(f:Str):TS:=fun D σ H=>tv σ H fun y H1=>ta σ H1 fun x H2=>afM K f D σ y x H2
def ahp(X:Cx)(op:Sz)(rd:V->V->Hp->VK->Prop):Prop:=
 ∀(pins:ah)(s:a9)(σ:St)(H:Hp)(x y:V)(u v:aX)(Q:VK),Inv X pins σ H s->RelV x u->RelV y v->rd x y H Q->bM (bK X.prog X.w) X.A (inplaceOp op u v) (EP X pins σ Q) X.xe s
def Z1(K:aY)(ta tv:TE)(rd:V->V->Hp->VK->Prop)(f:Str):TS:=fun D σ H=>ta σ H fun x H1=>∃a C dx fs v,x=.ref a/\H1 a=aa (.ins C dx fs)/\Gq K C/\eV K C f/\fs.lookup f=aa v/\
 tv σ H1 fun y H2=>rd v y H2 fun z H3=>∃dx' fs',H3 a=aa (.ins C dx' fs')/\fs'.length<1000/\D.nx σ (upd H3 a (.ins C dx' (rL f z fs')))
section
variable{X:Cx}{o e value:Expr}{f:Str}{pos pos' GG:Pos}{ta tv:TE}
theorem cw(he:PE X e ta)(hb:sA e f X.env (eval e X.env)=eval e X.env):PE X (.Attribute e f pos) (ZN X.K ta f):=by
 intro pins s σ H Q I h;refine Uc hb (ic (he pins s σ H _ I h) fun u s1 ⟨x,H1,I1,rx,a,C,dx,fs,v,ex,ea,c,n,l,q⟩=>?_);subst ex;obtain rfl:u=cu a:=rx;exact Ir I1 ea c n l fun u' s2 I2 ru=>⟨v,H1,I2,ru,q⟩
theorem lC(ha:PE X o ta)(hv:PE X value tv)(hs:pU value (aa (.Attribute o f pos')) pos.line X.env=pure af):PS X (.Assign [.Attribute o f pos'] value pos) (aiM X.K ta tv f):=by
 intro pins s σ H D I h;refine qX (ic (hv pins s σ H _ I h) fun u s1 ⟨y,H1,I1,ry,q⟩=>ic (ha pins s1 σ H1 _ I1 q) fun ov s2 ⟨x,H2,I2,rx,a,C,dx,fs,ex,ea,c,n,l,q2⟩=>?_) hs;subst ex;obtain rfl:ov=cu a:=rx;exact Hc I2 ea c n l ry fun s3 I3=>⟨σ,_,I3,q2⟩
theorem UL{op:Sz}{rd:V->V->Hp->VK->Prop}(ha:PE X o ta)(hv:PE X value tv)(hop:ahp X op rd):PS X (.AugAssign (.Attribute o f GG) op value pos) (Z1 X.K ta tv rd f):=by
 intro pins s σ H D I h;refine wpAny_AugAssign_AttributeAny (ic (ha pins s σ H _ I h) fun ov s1 ⟨x,H1,I1,rx,a,C,dx,fs,v,ex,ea,c,n,l,q⟩=>?_);subst ex;obtain rfl:ov=cu a:=rx;refine Ir I1 ea c n l fun u s2 I2 ru=>ic (hv pins s2 σ H1 _ I2 q) fun w3 s3 ⟨y,H2,I3,ry,q3⟩=>ic (hop pins s3 σ H2 v y u w3 _ I3 ru ry q3) fun w4 s4 ⟨z,H3,I4,rz,dx',fs',ea',l',q4⟩=>?_;exact Hc I4 ea' c n l' rz fun s5 I5=>⟨σ,_,I5,q4⟩
inductive aiX(x:V)(y:V)(H:Hp)(Q:VK):Prop
 |mk (i:_) (j:_) (_:x=.int i) (_:y=.int j) (_:Q (.int (i+j)) H)
theorem qB:ahp X .Add aiX:=by
 rintro pins s σ H x y u v Q I rx ry ⟨i,j,rfl,rfl,q⟩;obtain⟨t,rfl⟩:=(show∃t,u=l6 i t from rx);obtain⟨t',rfl⟩:=(show∃t',v=l6 j t' from ry);exact PyProof.Rows.iadd_int ⟨.int (i+j),H,I.tok _,⟨_,rfl⟩,q⟩
end
section
variable{X:Cx}{pins:ah}{σ:St}{H:Hp}{s:a9}{A:cZ}{E:ar}{Q:ar}{c:aX}{b:Bool}
end
structure gG(k:Nat)(A:cZ):Prop where
 hd:A.handled=ab
 dp:A.depth+3*k+5<Sn
 un:A.units+16*k+200<J8
theorem gG.mono{j k:Nat}{A:cZ}(r:gG k A)(h:j<=k):gG j A:=⟨r.hd,by have:=r.dp;omega,by have:=r.un;omega⟩
theorem gG.deeper{k:Nat}{A:cZ}(r:gG (k+1) A)(env:Env):gG k (A.deeper env):=
 ⟨r.hd,by have:=r.dp;show A.depth+1+3*k+5<_;omega,by have:=r.un;show A.units+3+16*k+200<_;omega⟩
theorem Rw{A:cZ}{C:Addr}{us:au}{kw:List (Str×aX)}:(A.under (.builtin "type.__call__" ⟨.ref C::us,kw⟩)).depth=A.depth+1:=by
 first|rfl|simp[N3,Code.weight,Code.isCreation,Code.isGuard,Code.isCaller,Code.frames,QC,guardIds]
theorem Rv{A:cZ}{C:Addr}{us:au}{kw:List (Str×aX)}:(A.under (.builtin "type.__call__" ⟨.ref C::us,kw⟩)).units=A.units+1:=by
 first|rfl|simp[N3,Code.cUnits,Code.frames,QC]
theorem gG.make{k:Nat}{A:cZ}(r:gG (k+1) A)(C:Addr)(us:au)(kw:List (Str×aX)):gG k (A.under (.builtin "type.__call__" ⟨.ref C::us,kw⟩)):=
 ⟨r.hd,by have:=r.dp;rw[Rw];omega,by have:=r.un;rw[Rv];omega⟩
theorem gG.depth{k:Nat}{A:cZ}(r:gG k A):A.depth<Sn:=by have:=r.dp;omega
theorem gG.units{k:Nat}{A:cZ}(r:gG k A):A.units+64<J8:=by have:=r.un;omega
def Dr:TA:=fun _ H Q=>Q [] H
def EF(ta:TE)(tr:TA):TA:=fun σ H Q=>ta σ H fun x H1=>tr σ H1 fun xs H2=>Q (x::xs) H2
section
variable{X:Cx}{e:Expr}{es:List Expr}{te:TE}{t:TA}{pos:Pos}
theorem bq:PA X [] Dr:=fun _ _ _ _ H Q I h=>jM ⟨[],H,I,.nil,h⟩
theorem aQ(ha:PE X e te)(hr:PA X es t)(hs:bX (e::es) X.env=(af,eval e X.env)::bX es X.env:=by rfl):PA X (e::es) (EF te t):=by
 intro pos pins s σ H Q I h;rw[hs];show bM _ _ (E3 ((af,eval e X.env)::gz pos (bX es X.env))) _ _ s;refine iA (ic (ha pins s σ H _ I h) fun u s1 ⟨x,H1,I1,r1,q1⟩=>?_);exact ic (hr pos pins s1 σ H1 _ I1 q1) fun us s2 ⟨xs,H2,I2,r2,q2⟩=>⟨x::xs,H2,I2,.cons r1 r2,q2⟩
def aim(t:TA):TE:=fun σ H Q=>t σ H fun xs H1=>xs.length<=bz/\∀p,H1 p=ab->Q (.ref p) (upd H1 p (.tup xs))
def ais(t:TA):TE:=fun σ H Q=>t σ H fun xs H1=>xs.length<=bz/\∀p,H1 p=ab->Q (.ref p) (upd H1 p (.lst xs))
theorem Hv{x1}(h:PA X es t):PE X (.Tuple es x1 pos) (aim t):=by
 intro pins s σ H Q I hq;refine wpAny_Tuple_spliced (ic (h pos pins s σ H _ I hq) fun us s1 ⟨xs,H1,I1,r,z,q⟩=>⟨by rw[<-r.length];exact z,?_⟩);have hf:H1 s1.heap.objs.size=ab:=I1.gx.fresh (bu _);refine⟨.ref s1.heap.objs.size,upd H1 s1.heap.objs.size (.tup xs),I1.laid (t':=s1.toks) (fun b u e=>ba _ e) (bu _) ?_,rfl,q _ hf⟩;exact⟨z,us,r,⟨_,bI _ rfl,rfl,_,rfl⟩⟩
theorem eB(h:PA X es t):PE X (.List es pos) (ais t):=by
 intro pins s σ H Q I hq;refine wpAny_List_spliced (ic (h pos pins s σ H _ I hq) fun us s1 ⟨xs,H1,I1,r,z,q⟩=>⟨by rw[<-r.length];exact z,?_⟩);have hf:H1 s1.heap.objs.size=ab:=I1.gx.fresh (bu _);refine⟨.ref s1.heap.objs.size,upd H1 s1.heap.objs.size (.lst xs),I1.laid (t':=s1.toks) (fun b u e=>ba _ e) (bu _) ?_,rfl,q _ hf⟩;exact⟨z,us,0,r,bI _ rfl⟩
end
abbrev Sp:=ao->Hp->VK->XK->Prop
abbrev Qp:=List Env->Hp->a9->XK->aX->a9->Prop
structure Qc(P:bY)(w:cX)(K:aY)(mg:aj)(base:Heap)(A:cZ)(outer:List Env)(s:a9)(H:Hp):Prop where
 frames:A.frames=aa outer
 mod:Mod K mg base
 bs:∀b o,base.get? b=aa o->s.heap.get? b=aa o/\H b=ab
 Sb:base.objs.size<=s.heap.objs.size
 yb:s.heap.FunFrames base outer
 Vm:∀b∈RL outer,H b=ab
 gx:yq P w H s.heap
 bare:E9 s.gens
inductive CE(outer:List Env)(P:bY)(w:cX)(H:Hp)(s:a9)(Q:VK)(u:aX)(s':a9):Prop
 |mk (v:_) (H':_) (_:s'.os=s.os) (_:E9 s'.gens) (_:Un (RL outer) [] H H' s.heap s'.heap) (_:yq P w H' s'.heap) (_:RelV v u) (_:Q v H')
def CR(CX:Qp)(outer:List Env)(P:bY)(w:cX)(H:Hp)(s:a9)(Q:VK)(E:XK)(r:Ey)(s':a9):Prop:=
 match r with
 |.ok (.ret u)=>CE outer P w H s Q u s'
 |.ok _=>False
 |.error e=>CX outer H s E e s'
structure dy(P:bY)(w:cX)(K:aY)(mg:aj)(base:Heap)(CX:Qp)(k:Nat)(f:Addr)(fd:bC)(ps:ak)(sp:Sp):Prop where
 len:∀vs H Q E,sp vs H Q E->vs.length=ps.length
 run:∀(A:cZ)(outer:List Env)(s:a9)(H:Hp)(args:Args)(us:au)(vs:ao)(Q:VK)(E:XK),gG k A->Qc P w K mg base A outer s H->BindsTo s fd args (ps.zip us)->Vals vs us->sp vs H Q E->
  jA (bK P w) A (.call (.ref f) args) (CR CX outer P w H s Q E) s
theorem dy.imp{P:bY}{w:cX}{K:aY}{mg:aj}{base:Heap}{CX:Qp}{k:Nat}{f:Addr}{fd:bC}{ps:ak}{sp sp':Sp}(F:dy P w K mg base CX k f fd ps sp)
 (h:∀vs H Q E,sp' vs H Q E->sp vs H Q E):dy P w K mg base CX k f fd ps sp':=
 ⟨fun vs H Q E q=>F.len vs H Q E (h _ _ _ _ q),fun A outer s H args us vs Q E hr he hb hv hs=>F.run A outer s H args us vs Q E hr he hb hv (h _ _ _ _ hs)⟩
theorem Qc.make{P:bY}{w:cX}{K:aY}{mg:aj}{base:Heap}{A:cZ}{outer:List Env}{s:a9}{H:Hp}(e:Qc P w K mg base A outer s H)(C:Addr)(us:au)(kw:List (Str×aX)):
 Qc P w K mg base (A.under (.builtin "type.__call__" ⟨.ref C::us,kw⟩)) outer s H:=⟨by first|exact e.frames|(simpa[N3,Code.envs,QC,pushEnvs]using e.frames),e.mod,e.bs,e.Sb,e.yb,e.Vm,e.gx,e.bare⟩
section
variable{X:Cx}{pins:ah}{σ:St}{H:Hp}{s s':a9}
theorem Inv.aev(I:Inv X pins σ H s):Qc X.prog X.w X.K X.mg X.base X.A X.stack s H:=
 ⟨I.ok.frames,I.ok.mod,I.bs,cR I.ok.Sb I.sz,I.stack,I.Lv,I.gx,I.bare⟩
theorem Inv.after{Q:VK}{u:aX}(I:Inv X pins σ H s)(h:CE X.stack X.prog X.w H s Q u s'):EP X pins σ Q u s':=by
 obtain⟨v,H',os,bare,un,gx,r,q⟩:=h;obtain⟨hh,g,d,t,os'⟩:=s';obtain rfl:os'=s.os:=os;exact⟨v,H',I.call (h':=hh) (g':=g) (d':=d) (t':=t) (ch:=[]) un gx bare (fun b z=>absurd z (by simp)),r,q⟩
end
def SV(sp:Sp)(De:ao)(E:XK)(t:TA):TE:=fun σ H Q=>t σ H fun vs H1=>sp (vs++De) H1 Q E
inductive acN(C:Addr)(m:Str)(sp:Sp)(De:ao)(E:XK)(t:TA)(σ:L2.St)(Q:VK)(x:V)(H1:Hp):Prop
 |mk (a:_) (dx:_) (fs:_) (_:x=.ref a) (_:H1 a=aa (.ins C dx fs)) (_:fs.lookup m=ab) (_:t σ H1 fun vs H2=>sp (x::(vs++De)) H2 Q E)
def GL(C:Addr)(m:Str)(sp:Sp)(De:ao)(E:XK)(ta:TE)(t:TA):TE:=fun σ H Q=>ta σ H fun x H1=>acN C m sp De E t σ Q x H1
def Oh(C:Addr)(sp:Sp)(De:ao)(E:XK)(t:TA):TE:=fun σ H Q=>t σ H fun vs H1=>∀x dx,H1 x=ab->H1 dx=ab->dx≠x->
 sp (.ref x::(vs++De)) (upd (upd H1 dx (.own x)) x (.ins C dx [])) (fun v H2=>v=.j7/\Q (.ref x) H2) E
def Binds(K:aY)(fd:bC)(ps:ak)(ds:au):Prop:=
 ∀(s:a9)(us:au),K.In s.heap->(us++ds).length=ps.length->BindsTo s fd ⟨us,[]⟩ (ps.zip (us++ds))
theorem Binds.all{K:aY}{fd:bC}{ps:ak}(h:∀us:au,us.length=ps.length->oR fd ⟨us,[]⟩=pure (ps.zip us)):Binds K fd ps []:=fun s us _ hl=>by
 rw[cp]at hl⊢;exact .of_eq (h us hl)
def Passes(CX:Qp)(X:Cx)(E:XK):Prop:=∀(pins:ah)(σ:St)(H:Hp)(s:a9)(e:aX)(s':a9),Inv X pins σ H s->CX X.stack H s E e s'->X.xe e s'
section
variable{X:Cx}{CX:Qp}{k:Nat}{f C:Addr}{fd:bC}{ps:ak}{sp:Sp}{De:ao}{ds:au}{E:XK}{x m:Str}{p pos apos:Pos}{e o:Expr}{es:List Expr}{ta:TE}{t:TA}
theorem LK{pins:ah}{σ:St}{H:Hp}{s:a9}{Q:VK}{us:au}{vs:ao}(F:dy X.prog X.w X.K X.mg X.base CX k f fd ps sp)(hr:gG k X.A)(hb:Binds X.K fd ps ds)(hd:Vals De ds)(hx:Passes CX X E)
 (I:Inv X pins σ H s)(r:Vals vs us)(h:sp (vs++De) H Q E):bM (bK X.prog X.w) X.A (call (.ref f) us) (EP X pins σ Q) X.xe s:=by
 have r2:Vals (vs++De) (us++ds):=r.append hd
 have hl:(us++ds).length=ps.length:=by rw[<-r2.length];exact F.len _ _ _ _ h
 refine m8 (iU (F.run X.A X.stack s H ⟨us,[]⟩ (us++ds) (vs++De) Q E hr I.aev (hb s us I.wQ hl) r2 h) fun r s' hq=>?_)
 cases r with
 |error e=>exact hx pins σ H s e s' I hq
 |ok fl=>
  cases fl with
  |ret u=>exact I.after hq
  |next=>exact fB hq
  |brk=>exact fB hq
  |cont=>exact fB hq
theorem Ts(F:dy X.prog X.w X.K X.mg X.base CX k f fd ps sp)(hr:gG k X.A)(hg:Gl X x)(hm:X.mg x=aa (.ref f))(hk:jg X.K (.ref f)=ae)(hb:Binds X.K fd ps ds)(hd:Vals De ds)(hx:Passes CX X E)
 (ha:PA X (e::es) t)(AG:(x==("__debug__":Str))=af:=by decide)(he:bX (e::es) X.env=(af,eval e X.env)::bX es X.env:=by rfl)(yT:(gz pos (bX es X.env)).any (·.1)=af:=by rfl):
 PE X (.Call (.Name x p) (e::es) [] pos) (SV sp De E t):=by
 intro pins s σ H Q I h
 refine fh (tp I hg hm ?_ AG)
 refine nF (h₀:=X.base) I.ok.mod.kin hk (ic (ha pos pins s σ H _ I h) fun us s1 ⟨vs,H1,I1,r,q⟩=>⟨I1.wQ,?_⟩) he yT
 exact LK F hr hb hd hx I1 r q
theorem To{pl:Sem Bool}(he:PE X o ta)(c:Gq X.K C)(hm:Meth X.K C m f)(F:dy X.prog X.w X.K X.mg X.base CX k f fd ps sp)(hr:gG k X.A)(hb:Binds X.K fd ps ds)(hd:Vals De ds)(hx:Passes CX X E)(ha:PA X (e::es) t)
 (KS:bX (e::es) X.env=(af,eval e X.env)::bX es X.env:=by rfl)(yT:(gz pos (bX es X.env)).any (·.1)=af:=by rfl)
 (ht:eval (.Call (.Attribute o m apos) (e::es) [] pos) X.env=(do
  let ov<-eval o X.env
  sy apos.atName
  let(f,first)<-qI [ov] (pW ov m pl)
  sS pos f first (gz pos (bX (e::es) X.env)) (wm pos (m9 [] X.env))):=by rfl):
 PE X (.Call (.Attribute o m apos) (e::es) [] pos) (GL C m sp De E ta t):=by
 intro pins s σ H Q I h
 refine o5 (pl:=pl) (ic (he pins s σ H _ I h) fun u s1 ⟨x,H1,I1,rx,a,dx,fs,ex,ea,l,q⟩=>?_) ht
 subst ex
 obtain rfl:u=cu a:=rx
 refine Iq I1 ea c hm l ?_
 refine nF (first:=[.ref a]) (h₀:=X.base) I.ok.mod.kin hm.kp (ic (ha pos pins s1 σ H1 _ I1 q) fun us s2 ⟨vs,H2,I2,r,q2⟩=>⟨I2.wQ,?_⟩) KS yT
 exact LK (us:=.ref a::us) (vs:=.ref a::vs) F hr hb hd hx I2 (.cons rfl r) q2
theorem OS{pl:Sem Bool}(he:PE X o ta)(c:Gq X.K C)(hm:Meth X.K C m f)(F:dy X.prog X.w X.K X.mg X.base CX k f fd ps sp)(hr:gG k X.A)(hb:Binds X.K fd ps ds)(hd:Vals De ds)(hx:Passes CX X E)
 (ht:eval (.Call (.Attribute o m apos) [] [] pos) X.env=(do
  let ov<-eval o X.env
  sy apos.atName
  let(f,first)<-qI [ov] (pW ov m pl)
  sS pos f first (gz pos (bX [] X.env)) (wm pos (m9 [] X.env))):=by rfl):
 PE X (.Call (.Attribute o m apos) [] [] pos) (GL C m sp De E ta Dr):=by
 intro pins s σ H Q I h
 refine o5 (pl:=pl) (ic (he pins s σ H _ I h) fun u s1 ⟨x,H1,I1,rx,a,dx,fs,ex,ea,l,q⟩=>?_) ht
 subst ex
 obtain rfl:u=cu a:=rx
 refine Iq I1 ea c hm l ?_
 exact zG (first:=[.ref a]) I1.wQ hm.kp (LK (us:=[.ref a]) (vs:=[.ref a]) F hr hb hd hx I1 (.cons rfl .nil) q)
structure Mk(K:aY)(C f:Addr):Prop where
 makes:V7 K C=ae
 init:gb K (.ref C) "__init__"=aa (aa (.ref f))
 fn:NH K (.ref f)=ae
 kp:jg K (.ref C)=ae
theorem OH{pins:ah}{σ:St}{H:Hp}{s:a9}{Q:VK}{us:au}{vs:ao}(M:Mk X.K C f)(F:dy X.prog X.w X.K X.mg X.base CX k f fd ps sp)(hr:gG (k+1) X.A)(hb:Binds X.K fd ps ds)(hd:Vals De ds)
 (hx:Passes CX X E)(I:Inv X pins σ H s)(r:Vals vs us)
 (h:∀x dx,H x=ab->H dx=ab->dx≠x->sp (.ref x::(vs++De)) (upd (upd H dx (.own x)) x (.ins C dx [])) (fun v H2=>v=.j7/\Q (.ref x) H2) E):
 bM (bK X.prog X.w) X.A (call (.ref C) us) (EP X pins σ Q) X.xe s:=by
 have hq:=h (s.heap.objs.size+1) s.heap.objs.size (I.gx.fresh (qZ _)) (I.gx.fresh (bu _)) (ck (eQ _))
 have I2:=Inv.made (C:=C) I
 have r2:Vals (V.ref (s.heap.objs.size+1)::(vs++De)) (cu (s.heap.objs.size+1)::(us++ds)):=.cons rfl (r.append hd)
 have hl:(cu (s.heap.objs.size+1)::us++ds).length=ps.length:=by
  have e:=r2.length;rw[F.len _ _ _ _ hq]at e;exact e.symm
 refine m8 (XO (f:=f) I.wQ M.makes M.init (beq_iff_eq.mp M.fn) (iU (F.run _ X.stack _ _ ⟨cu (s.heap.objs.size+1)::us,[]⟩ (cu (s.heap.objs.size+1)::(us++ds)) _ _ E (hr.make C us [])
  (I2.aev.make C us []) (hb _ (cu (s.heap.objs.size+1)::us) I2.wQ hl) r2 hq) fun r s' X8=>?_))
 cases r with
 |error e=>exact hx pins σ _ _ e s' I2 X8
 |ok fl=>
  cases fl with
  |ret u=>
   obtain⟨v,H',I3,rv,ev,q3⟩:=I2.after X8
   subst ev
   exact⟨rv,⟨V.ref (s.heap.objs.size+1),H',I3,rfl,q3⟩⟩
  |next=>exact fB X8
  |brk=>exact fB X8
  |cont=>exact fB X8
theorem aab(M:Mk X.K C f)(F:dy X.prog X.w X.K X.mg X.base CX k f fd ps sp)(hr:gG (k+1) X.A)(hg:Gl X x)(hm:X.mg x=aa (.ref C))(hb:Binds X.K fd ps ds)(hd:Vals De ds)(hx:Passes CX X E)
 (ha:PA X (e::es) t)(AG:(x==("__debug__":Str))=af:=by decide)(he:bX (e::es) X.env=(af,eval e X.env)::bX es X.env:=by rfl)(yT:(gz pos (bX es X.env)).any (·.1)=af:=by rfl):
 PE X (.Call (.Name x p) (e::es) [] pos) (Oh C sp De E t):=by
 intro pins s σ H Q I h
 refine fh (tp I hg hm ?_ AG)
 refine nF (h₀:=X.base) I.ok.mod.kin M.kp (ic (ha pos pins s σ H _ I h) fun us s1 ⟨vs,H1,I1,r,q⟩=>⟨I1.wQ,?_⟩) he yT
 exact OH M F hr hb hd hx I1 r q
theorem Xo(M:Mk X.K C f)(F:dy X.prog X.w X.K X.mg X.base CX k f fd ps sp)(hr:gG (k+1) X.A)(hg:Gl X x)(hm:X.mg x=aa (.ref C))(hb:Binds X.K fd ps ds)(hd:Vals De ds)(hx:Passes CX X E)
 (AG:(x==("__debug__":Str))=af:=by decide):PE X (.Call (.Name x p) [] [] pos) (Oh C sp De E Dr):=by
 intro pins s σ H Q I h
 refine fh (tp I hg hm ?_ AG)
 exact zG I.wQ M.kp (OH (us:=[]) M F hr hb hd hx I .nil h)
end
section
variable{X:Cx}{CX:Qp}{k:Nat}{f C:Addr}{fd:bC}{ps ks:ak}{sp:Sp}{E:XK}{x m:Str}{p pos apos U5:Pos}{e o:Expr}{es:List Expr}{kws:List Keyword}{te ta:TE}{t tk:TA}{nm:Option Str}
variable{g:au->au->au}{gV:ao->ao->ao}
end
structure bV(N P:ak)(sc:kG):Prop where
 kind:sc.kind=.function
 co:sc.isCoroutine=af
 gen:sc.isGenerator=af
 nd:N.Nodup
 pre:N.take P.length=P
 par:∀x∈P,sc.names.lookup x=aa .local\/sc.names.lookup x=aa .cell
 adw:∀y∈sc.names,y.2≠ .free
theorem K8{ur:Str->Option ke}{x:Str}:∀{binds:List (Str×aX)}{m:aj},(∀v,(x,v)∉binds)->V1 ur binds m x=m x
 |[],_,_=>rfl
 |(n,v)::r,m,h=>by
  unfold V1;rw[K8 fun w hw=>h w (bD _ hw)];split
  ·have:x≠n:=by rintro rfl;exact h v bO
   simp[this]
  rfl
theorem La{ur:Str->Option ke}{x:Str}:∀{binds:List (Str×aX)}{m:aj},(∀v,(x,v)∉binds)->V2 ur binds m x=m x
 |[],_,_=>rfl
 |(n,v)::r,m,h=>by
  unfold V2;rw[La fun w hw=>h w (bD _ hw)];split
  ·rfl
  have:x≠n:=by rintro rfl;exact h v bO
  simp[this]
theorem K9{ur:Str->Option ke}{x:Str}{v:aX}:∀{P:ak}{vs:au}{i:Nat}{m:aj},P.Nodup->P[i]?=aa x->vs[i]?=aa v->ur x=aa .local->
 V1 ur (P.zip vs) m x=aa v
 |[],_,_,_,_,h,_,_=>by simp at h
 |_::_,[],_,_,_,_,h,_=>by simp at h
 |p::P,w::vs,0,m,nd,h1,h2,hk=>by
  simp at h1 h2;subst h1;subst h2;show V1 ur ((p,w)::P.zip vs) m p=_;unfold V1;rw[K8 fun v hv=>(iX.mp nd).1 (nO hv).1,da hk];simp
 |p::P,w::vs,i+1,m,nd,h1,h2,hk=>by
  show V1 ur ((p,w)::P.zip vs) m x=_;unfold V1;exact K9 (i:=i) (iX.mp nd).2 (by simpa using h1) (by simpa using h2) hk
theorem Lb{ur:Str->Option ke}{x:Str}{v:aX}:∀{P:ak}{vs:au}{i:Nat}{m:aj},P.Nodup->P[i]?=aa x->vs[i]?=aa v->ur x≠aa .local->
 V2 ur (P.zip vs) m x=aa v
 |[],_,_,_,_,h,_,_=>by simp at h
 |_::_,[],_,_,_,_,h,_=>by simp at h
 |p::P,w::vs,0,m,nd,h1,h2,hk=>by
  simp at h1 h2;subst h1;subst h2;show V2 ur ((p,w)::P.zip vs) m p=_;unfold V2;rw[La fun v hv=>(iX.mp nd).1 (nO hv).1,cQ hk];simp
 |p::P,w::vs,i+1,m,nd,h1,h2,hk=>by
  show V2 ur ((p,w)::P.zip vs) m x=_;unfold V2;exact Lb (i:=i) (iX.mp nd).2 (by simpa using h1) (by simpa using h2) hk
def start(N:ak)(vs:ao):St:=vs.map aa++cA (N.length-vs.length) ab
def MY(CX:Qp)(P:bY)(w:cX)(K:aY)(mg:aj)(base:Heap)(N:ak)(qual:Str)(scope:kG)(f:Addr)(cd:aX)(A:cZ)(outer:List Env)(s:a9)(H:Hp)(E:XK):Cx where
 prog:=P
 w:=w
 K:=K
 mg:=mg
 base:=base
 A:=A.deeper (AY qual scope s.heap.objs.size f cd)
 N:=N
 DE:=s
 H_0:=H
 env:=AY qual scope s.heap.objs.size f cd
 outer:=outer
 stack:=AY qual scope s.heap.objs.size f cd::outer
 ex:=[]
 calm:=ae
 fn:=fun _=>ae
 pn:=[]
 xe:=fun e s'=>bM (bK P w) (A.deeper (AY qual scope s.heap.objs.size f cd)) (leaving (AY qual scope s.heap.objs.size f cd) e) (fun _ s''=>CX outer H s E e s'') (fun e' s''=>CX outer H s E e' s'') s'
theorem PY{sc:kG}{n:Nat}{x:Str}(h:sc.names.lookup x=aa .cell):∃c,(f9 n sc.names []).lookup x=aa c:=by
 have q:=NI sc.names n [] (.inl h);exact mM.mp q
theorem Va{CX:Qp}{P:bY}{w:cX}{K:aY}{mg:aj}{base:Heap}{N ps:ak}{qual:Str}{scope:kG}{f:Addr}{cd:aX}{A:cZ}{outer:List Env}{s s1:a9}{H:Hp}{E:XK}{us:au}{vs:ao}
 (S:bV N ps scope)(hd:A.handled=ab)(e0:Qc P w K mg base A outer s H)(hl:vs.length=ps.length)(r:Vals vs us)
 (x:InCallC s s.heap.objs.size (V1 (AY qual scope s.heap.objs.size f cd).kindOf (ps.zip us) fun _=>ab) (f9 (s.heap.objs.size+1) scope.names []) (V2 (AY qual scope s.heap.objs.size f cd).kindOf (ps.zip us) fun _=>ab) s1):
 Inv (MY CX P w K mg base N qual scope f cd A outer s H E) [] (start N vs) H s1:=by
 have yT:ps.length<=N.length:=by have:=congrArg Jc S.pre;rw[dX]at this;omega
 obtain⟨h1,tk,rfl,hk⟩:=x.done
 have noA:∀b:Addr,b∉(MY CX P w K mg base N qual scope f cd A outer s H E).ex:=fun b z=>absurd (show b∈([]:ag)from z) (by simp)
 refine⟨⟨e0.mod,S.kind,rfl,rfl,bu _,fun y z c h1 h2=>?_,fun y hy=>?_,fun y c _ h=>?_,fun _=>hd,Around.frames_deeper e0.frames,.inr ⟨rfl,rfl⟩,fun b z=>absurd z (noA b),e0.bs,e0.Sb,fun b _ _=>noA b,fun b z=>absurd z (noA b),e0.yb,e0.Vm⟩,
  rfl,e0.bare,Un.kept hk,⟨_,x.toInCall.ns,fun i y v h1 h2 h3=>?_⟩,fun y c h=>⟨_,x.cell y c h⟩,e0.gx.fresh (bu _),fun y c h=>?_,fun p hp=>absurd (show p∈([]:ah)from hp) (by simp),e0.gx.kept hk,?_⟩
 ·exact name_of_addr x.apart (dI h1) (dI h2)
 ·have hy:scope.names.lookup y=aa .cell\/scope.names.lookup y=aa .free:=hy
  rcases hy with hy|hy
  ·exact PY hy
  exact absurd rfl (S.adw _ (dI hy))
 ·exact du (x.above y c (dI h))
 ·have hi:i<vs.length:=by
   unfold start at h2;by_cases hi:i<vs.length
   ·exact hi
   rw[hJ (by simpa using hi)]at h2;rw[Qi]at h2;split at h2<;>cases h2
  have ha:vs[i]?=aa v:=by
   unfold start at h2;rw[eX (by simpa using hi),bL]at h2;cases e:vs[i]? with
   |none=>rw[e]at h2;cases h2
   |some a=>rw[e]at h2;cases h2;rfl
  obtain⟨u,hu,rv⟩:=r.get ha
  have hp:ps[i]?=aa y:=by
   rw[<-S.pre,nI (by omega)];exact h1
  have ndP:ps.Nodup:=by rw[<-S.pre];exact S.nd.sublist (Zf _ _)
  refine⟨u,rv,?_⟩
  rcases S.par y (br hp)with k|k
  ·exact .inl ⟨k,K9 ndP hp hu k⟩
  obtain⟨c,e⟩:=PY (n:=s.heap.objs.size+1) k
  refine .inr ⟨.inl k,c,e,?_⟩
  have q:=x.cell y c e
  rw[Lb ndP hp hu (by show scope.names.lookup y≠_;rw[k];decide)]at q
  exact q
 ·exact e0.gx.fresh (du (x.above y c (dI h)))
 unfold start
 show _=N.length
 rw[bR,aV,iu]
 omega
theorem Yn{CX:Qp}{P:bY}{w:cX}{K:aY}{mg:aj}{base:Heap}{k:Nat}{f:Addr}{name qual:Str}{params:vk}{body:List Stmt}{scope:kG}{dV kV doc pm fz ct oc:aX}{an od:Option Addr}
 {Xs:Array (Option aX)}{N ps:ak}{sp:Sp}(lk:K.lookup f=aa ⟨oc,od,.func (gQ name qual params body scope dV kV doc pm an fz ct),Xs⟩)(NS:IZ K fz qual=ae)(S:bV N ps scope)
 (len:∀vs H Q E,sp vs H Q E->vs.length=ps.length)
 (Im:∀(A:cZ)(outer:List Env)(s:a9)(H:Hp)(vs:ao)(Q:VK)(E:XK),gG k (A.deeper (AY qual scope s.heap.objs.size f fz))->sp vs H Q E->
  ∃t,Nt (MY CX P w K mg base N qual scope f fz A outer s H E) body t/\t {nx:=fun _ H'=>Q .j7 H',rt:=Q} (start N vs) H):
 dy P w K mg base CX (k+1) f (gQ name qual params body scope dV kV doc pm an fz ct) ps sp:=by
 refine⟨len,fun A outer s H args us vs Q E hr e0 hb r VW=>?_⟩
 have hl:=len _ _ _ _ VW
 have KX:K.In s.heap:=e0.mod.kin.keeps fun b o e=>(e0.bs b o e).1
 have lim:s.heap.NoLimit:=e0.mod.nolimit.keeps fun b o e=>(e0.bs b o e).1
 have agQ:∀y∈ps.zip us,scope.names.lookup y.1=aa .local\/(scope.names.lookup y.1=aa .cell/\((f9 (s.heap.objs.size+1) scope.names []).lookup y.1).isSome=ae):=fun⟨n,v⟩ hy=>by
  rcases S.par n (nO hy).1 with q|q
  ·exact .inl q
  exact .inr ⟨q,NI _ _ _ (.inl q)⟩
 refine codeAny_call_function hr.depth (KX _ _ lk) rfl S.co S.gen rfl (PySem.W.codeRec_of KX NS) (hb _ _ _ _ ?_)
 refine wpAny_newFunctionEnv_cells S.kind agQ fun env he s1 x=>?_
 subst he
 refine⟨lim.keeps x.toInCall.keep,codeAny_func ?_⟩
 obtain⟨t,ht,hq⟩:=Im A outer s H vs Q E (hr.deeper _) VW
 have I:Inv (MY CX P w K mg base N qual scope f fz A outer s H E) [] (start N vs) H s1:=Va S hr.hd e0 hl r x
 refine eE (ht [] s1 (start N vs) H _ I hq) (fun fl s' hs=>?_) fun e s' hs=>hs
 have fin:∀{σ':St}{H':Hp}{v:V}{u:aX},Inv (MY CX P w K mg base N qual scope f fz A outer s H E) [] σ' H' s'->RelV v u->Q v H'->CE outer P w H s Q u s':=
  fun{σ' H' v u} J rv q=>⟨v,H',J.os,J.bare,J.base,J.gx,rv,q⟩
 cases fl with
 |ret u=>
  obtain⟨v,σ',H',J,rv,q⟩:=hs
  exact fin J rv q
 |next=>
  obtain⟨σ',H',J,q⟩:=hs
  exact fin (v:=V.j7) (u:=eG) J rfl q
 |brk=>
  obtain⟨_,_,_,q⟩:=hs
  exact fB q
 |cont=>
  obtain⟨_,_,_,q⟩:=hs
  exact fB q
section
variable{X:Cx}{x:Str}{p pos:Pos}{e:Expr}{es:List Expr}{t:TA}{id T:String}{r:ao->Hp->VK->Prop}
def tCB(r:ao->Hp->VK->Prop)(t:TA):TE:=fun σ H Q=>t σ H fun vs H1=>r vs H1 Q
theorem dD(hc:wG X (.builtin id) r)(hg:Gl X x)(hm:X.mg x=ab)(hv:ip x=aa (.builtin id))(ha:PA X (e::es) t)(hn:x≠"__name__":=by decide)(AG:(x==("__debug__":Str))=af:=by decide)
 (he:bX (e::es) X.env=(af,eval e X.env)::bX es X.env:=by rfl)(yT:(gz pos (bX es X.env)).any (·.1)=af:=by rfl):PE X (.Call (.Name x p) (e::es) [] pos) (tCB r t):=by
 intro pins s σ H Q I h
 refine fh (rQ I hg hm hv ?_ hn AG)
 exact PyProof.Rows.callWith_builtin1 (ic (ha pos pins s σ H _ I h) fun us s1 ⟨vs,H1,I1,r1,q1⟩=>hc pins s1 σ H1 vs us Q I1 r1 q1) he yT
theorem pE(hc:wG X (.type T) r)(hg:Gl X x)(hm:X.mg x=ab)(hv:ip x=aa (.type T))(ha:PA X (e::es) t)(hn:x≠"__name__":=by decide)(AG:(x==("__debug__":Str))=af:=by decide)
 (he:bX (e::es) X.env=(af,eval e X.env)::bX es X.env:=by rfl)(yT:(gz pos (bX es X.env)).any (·.1)=af:=by rfl):PE X (.Call (.Name x p) (e::es) [] pos) (tCB r t):=by
 intro pins s σ H Q I h
 refine fh (rQ I hg hm hv ?_ hn AG)
 exact kE (ic (ha pos pins s σ H _ I h) fun us s1 ⟨vs,H1,I1,r1,q1⟩=>hc pins s1 σ H1 vs us Q I1 r1 q1) he yT
end
end L2
namespace HT
open PySem PyProof.Rows
section
open PySem.SeqAt
open PySem.AutoSeq1 (wpAny_loadPart')
open PySem.MeetsSeq PySem.MeetsSeq2 PySem.MeetsSeq3
end
section
variable{prog:bY}{w:cX}{A:cZ}{E:ar}{s:a9}
def Ql(n d:Nat):Option Int->Nat
 |none=>d
 |some v=>if v<0 then(v+(n:Int)).toNat else min v.toNat n
theorem yK(n d k:Nat):Ql n d (aa (k:Int))=min k n:=by
 show(if(k:Int)<0 then((k:Int)+(n:Int)).toNat else min (k:Int).toNat n)=min k n;rw[cQ (by omega),pJ]
end
end HT
namespace L2
open PySem PySem.Spec PyProof.Rows
abbrev TO:=St->Hp->(Option Int->Hp->Prop)->Prop
def PO(X:Cx)(e:Option Expr)(t:TO):Prop:=
 ∀(pins:ah)(s:a9)(σ:St)(H:Hp)(Q:Option Int->Hp->Prop),Inv X pins σ H s->t σ H Q->
  bM (bK X.prog X.w) X.A (evalPart e X.env) (fun u s'=>∃o H',Inv X pins σ H' s'/\IsPart u o/\Q o H') X.xe s
inductive acL(Q:Option Int->Hp->Prop)(x:V)(H1:Hp):Prop
 |mk (i:_) (_:x=.int i) (_:Q (aa i) H1)
def aft(t:TE):TO:=fun σ H Q=>t σ H fun x H1=>acL Q x H1
section
variable{X:Cx}{e:Expr}{te:TE}{lo hi:Option Expr}{tl th:TO}{pos p2:Pos}
theorem tf(h:PE X e te):PO X (aa e) (aft te):=by
 intro pins s σ H Q I hw;rw[evalPart_some];refine ic (h pins s σ H _ I hw) fun u s1 ⟨x,H1,I1,r1,q1⟩=>?_;obtain⟨i,rfl,q⟩:=q1;obtain⟨t,rfl⟩:=r1;exact⟨aa i,H1,I1,.int i t,q⟩
def SlR(X:Cx)(r:V->Option Int->Option Int->Hp->VK->Prop):Prop:=
 ∀(pins:ah)(s:a9)(σ:St)(H:Hp)(x:V)(v vl vu:aX)(lo hi:Option Int)(sl:Addr)(Q:VK),Inv X pins σ H s->RelV x v->s.heap.IsSliceOf sl vl vu .none->IsPart vl lo->IsPart vu hi->r x lo hi H Q->
  ∃T id,AX (.type T) "__getitem__"=pure (aa (.builtin id))/\s.TypeIs v T/\bM (bK X.prog X.w) X.A (Qr v (.ref sl)) (EP X pins σ Q) X.xe s
def tSl(r:V->Option Int->Option Int->Hp->VK->Prop)(te:TE)(tl th:TO):TE:=fun σ H Q=>te σ H fun x H1=>tl σ H1 fun l H2=>th σ H2 fun u H3=>r x l u H3 Q
theorem BE{r:V->Option Int->Option Int->Hp->VK->Prop}(hr:SlR X r)(he:PE X e te)(hl:PO X lo tl)(hu:PO X hi th):PE X (.Subscript e (.Slice lo hi ab p2) pos) (tSl r te tl th):=by
 intro pins s σ H Q I h;refine Ba (ic (he pins s σ H _ I h) fun v s1 ⟨x,H1,I1,r1,q1⟩=>?_);refine wpAny_Slice (ic (hl pins s1 σ H1 _ I1 q1) fun vl s2 ⟨l,H2,I2,pl,q2⟩=>ic (hu pins s2 σ H2 _ I2 q2) fun vu s3 ⟨u,H3,I3,pu,q3⟩=>?_);rw[evalPart_none];refine bg ?_;have I4:Inv X pins σ H3 {s3 with heap:=s3.heap.push {cls:=.type "slice",data:=.fields #[vl,vu,.none]}}:=I3.kept (t':=s3.toks) fun b ob q=>ba _ q;obtain⟨T,id,hT,ht,hg⟩:=hr pins {s3 with heap:=s3.heap.push {cls:=.type "slice",data:=.fields #[vl,vu,.none]}} σ H3 x v vl vu l u s3.heap.objs.size Q I4 r1 (Heap.IsSliceOf.new ..) pl pu q3;show bM (bK X.prog X.w) X.A (VQ e (.Slice lo hi ab p2) v (.ref s3.heap.objs.size)) (EP X pins σ Q) X.xe {s3 with heap:=s3.heap.push {cls:=.type "slice",data:=.fields #[vl,vu,.none]}};exact tail_any (ops:=[.ref s3.heap.objs.size,v]) ht hT hg (by with_unfolding_all rfl)
def CH(xs:ao)(lo hi:Option Int):ao:=(xs.drop (HT.Ql xs.length 0 lo)).take (HT.Ql xs.length xs.length hi-HT.Ql xs.length 0 lo)
theorem PR(xs:ao)(lo hi:Option Int):(CH xs lo hi).length<=xs.length:=by
 unfold CH;rw[dX,qr];omega
end
def U8(n:Nat)(i:Int):Option Nat:=if 0<=i then(if i<n then aa i.toNat else ab)else if-(n:Int)<=i then aa (i+n).toNat else ab
def Zq{α:Type}(xs:List α)(i:Int):Option α:=(U8 xs.length i).bind fun j=>xs[j]?
theorem TQ{n:Nat}{i:Int}{j:Nat}(h:U8 n i=aa j):seqIndex? i n=aa j/\j<n/\-(n:Int)<=i/\i<n:=by
 unfold U8 at h;by_cases h0:0<=i
 ·rw[da h0]at h;by_cases h1:i<n
  ·rw[da h1]at h;have e:i.toNat=j:=bT h;exact⟨by rw[seqIndex_of h0 h1,e],by omega,by omega,h1⟩
  rw[cQ h1]at h;cases h
 rw[cQ h0]at h;by_cases h1: -(n:Int)<=i
 ·rw[da h1]at h;have e:(i+n).toNat=j:=bT h;exact⟨by rw[Y6 (by omega) h1,e],by omega,h1,by omega⟩
 rw[cQ h1]at h;cases h
theorem Nl{α:Type}{xs:List α}{i:Int}{v:α}(h:Zq xs i=aa v):∃j,seqIndex? i xs.length=aa j/\xs[j]?=aa v/\j<xs.length/\-(xs.length:Int)<=i/\i<xs.length:=by
 unfold Zq at h;cases e:U8 xs.length i with
 |none=>rw[e]at h;cases h
 |some j=>
  rw[e]at h;obtain⟨h1,h2,h3,h4⟩:=TQ e;exact⟨j,h1,h,h2,h3,h4⟩
theorem tH{α:Type}{xs:List α}{j:Nat}{v:α}(h:xs[j]?=aa v):Zq xs (j:Int)=aa v:=by
 have hj:j<xs.length:=(aZ.mp h).1
 have e:U8 xs.length (j:Int)=aa j:=by
  unfold U8;rw[da (by omega),da (by omega)];simp
 unfold Zq;rw[e];exact h
theorem YJ{α:Type}(xs:List α)(v:α):Zq (xs++[v]) (-1)=aa v:=by
 have hl:(xs++[v]).length=xs.length+1:=by simp
 have e:U8 (xs++[v]).length (-1)=aa xs.length:=by
  unfold U8;rw[hl,cQ (by decide),da (by omega)];congr 1;omega
 unfold Zq;rw[e];show(xs++[v])[xs.length]?=aa v;simp
def aa8(b:Expr):Prop:=∀o i,NU b af o i=operate [o,i] (Qr o i)
def IxR(X:Cx)(r:R2):Prop:=
 ∀(value slice:Expr)(pins:ah)(s:a9)(σ:St)(H:Hp)(x y:V)(v u:aX)(Q:VK),Inv X pins σ H s->RelV x v->RelV y u->r x y H Q->
  NU slice af v u=operate [v,u] (Qr v u)->bM (bK X.prog X.w) X.A (VQ value slice v u) (EP X pins σ Q) X.xe s
def MtR(X:Cx)(id:String)(r:V->ao->Hp->VK->Prop):Prop:=
 ∀(pins:ah)(s:a9)(σ:St)(H:Hp)(x:V)(xs:ao)(v:aX)(us:au)(Q:VK),Inv X pins σ H s->RelV x v->Vals xs us->r x xs H Q->
  bM (bK X.prog X.w) X.A (call (.builtin id) (v::us)) (EP X pins σ Q) X.xe s
section
variable{X:Cx}{a b:Expr}{ta tb:TE}{pos:Pos}
theorem dW{r:R2}(hr:IxR X r)(ha:PE X a ta)(hb:PE X b tb)(hs:aa8 b):PE X (.Subscript a b pos) (tOp r ta tb):=by
 intro pins s σ H Q I h;exact Ba (aeD ha hb I h fun v u s2 x y H2 I2 rx ry q=>hr a b pins s2 σ H2 x y v u Q I2 rx ry q (hs _ _))
inductive aiW(K:aY)(x:V)(y:V)(H:Hp)(Q:VK):Prop
 |mk (p:_) (xs:_) (i:_) (v:_) (_:x=.ref p) (_:y=.int i) (_:dw K H p xs) (_:Zq xs i=aa v) (_:Q v H)
inductive aiU(K:aY)(x:V)(y:V)(H:Hp)(Q:VK):Prop
 |mk (p:_) (xs:_) (i:_) (v:_) (_:x=.ref p) (_:y=.int i) (_:wF K H p xs) (_:Zq xs i=aa v) (_:Q v H)
inductive aiV(x:V)(y:V)(H:Hp)(Q:VK):Prop
 |mk (z:_) (i:_) (c:_) (_:x=.str z) (_:y=.int i) (_:z.length<=bz) (_:Zq z.cps.toList i=aa c) (_:Q (.str ⟨#[c]⟩) H)
theorem cW:IxR X (aiW X.K):=by
 intro value slice pins s σ H x y v u Q I rx ry h hs;obtain⟨p,xs,i,z,rfl,rfl,hq,he,q⟩:=h;cases rx;obtain⟨t,rfl⟩:=ry;obtain⟨its,r,pl,hz⟩:=I.list hq;obtain⟨j,h1,h2,h3,h4,h5⟩:=Nl he;obtain⟨w,ew,Z2⟩:=r.get h2;have hl:=r.length;have hn:=xY;have fin:EP X pins σ Q w s:=⟨z,H,I,Z2,q⟩;by_cases h0:0<=i
 ·have hj:i.toNat=j:=by
   rw[seqIndex_of h0 h5]at h1;exact bT h1
  exact Sr pl.isList h0 (by omega) (by rw[hj];simpa using ew) fin hs
 have hj:(i+(its.toArray.size:Int)).toNat=j:=by
  rw[Y6 (by omega) h4]at h1;rw[b7,<-hl];exact bT h1
 exact Y4 (x:=w) pl.isList.typeIs slot_list_getitem.lookup
  (wpAny_getItem_list_neg (Q:=fun r s'=>r=w/\EP X pins σ Q r s') pl.isList (by omega) (by rw[b7]<;>omega) (by omega) (by rw[hj];simpa using ew) ⟨rfl,fin⟩) hs
theorem vP:IxR X (aiU X.K):=by
 intro value slice pins s σ H x y v u Q I rx ry h hs;obtain⟨p,xs,i,z,rfl,rfl,hq,he,q⟩:=h;cases rx;obtain⟨t,rfl⟩:=ry;obtain⟨its,r,pl,hz⟩:=I.tuple hq;obtain⟨j,h1,h2,h3,h4,h5⟩:=Nl he;obtain⟨w,ew,Z2⟩:=r.get h2;have hl:=r.length;have hn:=xY;have fin:EP X pins σ Q w s:=⟨z,H,I,Z2,q⟩
 exact Y4 (x:=w) pl.typeIs slot_tuple_getitem.lookup
  (getItem_tuple (j:=j) (Q:=fun r s'=>r=w/\EP X pins σ Q r s') pl (by omega) (by omega) (by rw[b7,<-hl];exact h1) (by simpa using ew) ⟨rfl,fin⟩) hs
theorem X2:IxR X aiV:=by
 intro value slice pins s σ H x y v u Q I rx ry h hs;obtain⟨z,i,c,rfl,rfl,hz,he,q⟩:=h;obtain⟨t,rfl⟩:=rx;obtain⟨t',rfl⟩:=ry;obtain⟨j,h1,h2,h3,h4,h5⟩:=Nl he;have hl:z.cps.toList.length=z.length:=by simp[Str.length]
 rw[hl]at h1 h4 h5;have hn:=xY
 exact tail_any (typeIs_str s z t) slot_str_getitem.lookup (getItem_str (c:=c) (by
  have e1:decide (i< -(2^63:Int))=af:=gX (by omega);have e2:decide (i>=2^63)=af:=gX (by omega);rw[e1,e2,lg]) (by rw[h1];simpa using h2) ⟨.str ⟨#[c]⟩,H,I.tok _,⟨_,rfl⟩,q⟩) hs
theorem Ru(its:au)(n j:Nat)(u:aX):dU (·.setIfInBounds j u) {cls:=.type "list",data:=.seq its.toArray n}={cls:=.type "list",data:=.seq (its.set j u).toArray n}:=by
 simp[dU]
theorem Inv.lst{pins:ah}{σ:St}{H:Hp}{s:a9}{p:Addr}{xs:ao}(I:Inv X pins σ H s)(h:H p=aa (.lst xs)):
 ∃(its:au)(n:Nat),Vals xs its/\s.heap.get? p=aa {cls:=.type "list",data:=.seq its.toArray n}/\xs.length<=bz:=by
 obtain⟨z,its,n,r,e⟩:=I.gx p _ h
 exact⟨its,n,r,e,z⟩
theorem Inv.adz{pins:ah}{σ:St}{H:Hp}{s:a9}{p:Addr}{xs ys:ao}{its its':au}{n n':Nat}{f:Obj->Obj}(I:Inv X pins σ H s)(h:H p=aa (.lst xs))
 (ho:s.heap.get? p=aa {cls:=.type "list",data:=.seq its.toArray n})(hf:f {cls:=.type "list",data:=.seq its.toArray n}={cls:=.type "list",data:=.seq its'.toArray n'})(r:Vals ys its')(hz:ys.length<=bz)(t:Nat):
 Inv X pins σ (upd H p (.lst ys)) {s with heap:=s.heap.update p f,toks:=t}:=by
 have e:(s.heap.update p f).get? p=aa {cls:=.type "list",data:=.seq its'.toArray n'}:=by
  rw[dQ f ho (by rw[hf]<;>rfl),hf]
 refine I.write (x:=p) (e:=p) (by rw[h];trivial) (.inl rfl) (fun b u hb q=>(cv _ _ (dh hb)).trans q) ⟨_,e⟩ ?_
 exact⟨hz,its',n',r,e⟩
inductive afR(o:V)(i:V)(v:V)(H:Hp)(Q:Hp->Prop):Prop
 |mk (p:_) (xs:_) (k:_) (j:_) (_:o=.ref p) (_:i=.int k) (_:H p=aa (.lst xs)) (_:U8 xs.length k=aa j) (_:Q (upd H p (.lst (xs.set j v))))
theorem set_list:ahm X afR:=by
 intro pins s σ H o i v ov iv u Q I ro ri rv h;obtain⟨p,xs,k,j,rfl,rfl,hp,hj,q⟩:=h;cases ro;obtain⟨t,rfl⟩:=ri;obtain⟨its,n,r,ho,hz⟩:=I.lst hp;obtain⟨h1,h2,h3,h4⟩:=TQ hj;have hl:=r.length;have hn:=xY
 have I':Inv X pins σ (upd H p (.lst (xs.set j v))) {s with heap:=s.heap.update p (dU (·.setIfInBounds j u))}:=
  I.adz hp ho (Ru its n j u) (r.set rv j) (by rw[fO];exact hz) s.toks
 by_cases h0:0<=k
 ·have hk:k.toNat=j:=by
   rw[seqIndex_of h0 h4]at h1;exact bT h1
  exact PySem.W.ki_setAt ho h0 (by omega) (by rw[b7,<-hl];exact h4) (by rw[hk];exact⟨_,I',q⟩)
 have hk:(k+(its.toArray.size:Int)).toNat=j:=by
  rw[Y6 (by omega) h3]at h1;rw[b7,<-hl];exact bT h1
 exact PySem.W.ki_setBack ho (by omega) (by rw[b7,<-hl];exact h3) (by omega) (by rw[hk];exact⟨_,I',q⟩)
theorem LC(lo hi:Option Int)(n:Nat):(sR lo hi ab n).1=((HT.Ql n 0 lo:Nat):Int)/\(sR lo hi ab n).2.1=((HT.Ql n n hi:Nat):Int)/\(sR lo hi ab n).2.2=1:=by
 refine⟨?_,?_,rfl⟩
 ·cases lo with
  |none=>simp[sR,HT.Ql]
  |some i=>
   simp only[sR,HT.Ql,V8,show(1:Int)>0 by decide,if_true];by_cases h:i<0
   ·simp only[h,if_true]<;>omega
   simp only[h,if_false]<;>omega
 cases hi with
 |none=>simp[sR,HT.Ql]
 |some i=>
  simp only[sR,HT.Ql,V8,show(1:Int)>0 by decide,if_true];by_cases h:i<0
  ·simp only[h,if_true]<;>omega
  simp only[h,if_false]<;>omega
theorem Jo(its:au)(lo hi:Option Int):slicePick its.toArray lo hi ab=((its.drop (HT.Ql its.length 0 lo)).take (HT.Ql its.length its.length hi-HT.Ql its.length 0 lo)).toArray:=by
 obtain⟨h1,h2,h3⟩:=LC lo hi its.toArray.size;unfold slicePick;rw[h1,h2,h3];simp only[sliceRange_one,pick_run,b7]<;>rfl
inductive aiR(K:aY)(x:V)(lo:Option Int)(hi:Option Int)(H:Hp)(Q:VK):Prop
 |mk (a:_) (xs:_) (_:x=.ref a) (_:dw K H a xs) (_:∀p,H p=ab->Q (.ref p) (upd H p (.lst (CH xs lo hi))))
theorem F7:SlR X (aiR X.K):=by
 intro pins s σ H x v vl vu lo hi sl Q I rx hs pl pu h;obtain⟨a,xs,rfl,hx,q⟩:=h;cases rx;obtain⟨its,r,ht,hz⟩:=I.list hx;have hlen:=r.length;refine⟨"list",_,slot_list_getitem.lookup,ht.isList.typeIs,?_⟩;refine wpAny_getItem_list_slice ht.isList hs pl pu .none (by simp) ?_ (by rw[b7]<;>omega);rw[Jo,<-hlen];refine⟨.ref s.heap.objs.size,_,I.laid (t':=s.toks) (o:=.lst (CH xs lo hi)) (fun b ob q=>ba _ q) (bu _) ?_,rfl,q _ (I.gx.fresh (bu _))⟩;exact⟨cR (PR xs lo hi) hz,_,0,(r.drop (HT.Ql xs.length 0 lo)).take (HT.Ql xs.length xs.length hi-HT.Ql xs.length 0 lo),bI _ rfl⟩
def uX:V->Bool
 |.j7=>ae
 |.bl _=>ae
 |.int _=>ae
 |.str _=>ae
 |_=>af
def Yq:V->V->Bool
 |.j7,.j7=>ae
 |.bl a,.bl b=>a==b
 |.bl a,.int b=>(if a then 1 else 0)==b
 |.int a,.bl b=>a==(if b then 1 else 0)
 |.int a,.int b=>a==b
 |.str a,.str b=>a==b
 |_,_=>af
theorem aeu{A:cZ}{s:a9}{y x:V}{u v:aX}(ry:RelV y u)(rx:RelV x v)(fy:uX y=ae)(fx:uX x=ae):SeqAt.EqAt A s u v (Yq y x):=by
 cases y with
 |j7=>
  cases ry;cases x with
  |j7=>cases rx;exact SeqAt.EqAt.same _
  |bl b=>cases rx;exact SeqAt.EqAt.none_bool b
  |int b=>obtain⟨t,rfl⟩:=rx;exact SeqAt.EqAt.none_int b t
  |str b=>obtain⟨t,rfl⟩:=rx;exact SeqAt.EqAt.none_str b t
  |_=>exact absurd (show af=ae from fx) cB
 |bl a=>
  cases ry;cases x with
  |j7=>cases rx;exact SeqAt.EqAt.bool_none a
  |bl b=>cases rx;exact SeqAt.EqAt.bool_bool a b
  |int b=>obtain⟨t,rfl⟩:=rx;exact SeqAt.EqAt.bool_int a b t
  |str b=>obtain⟨t,rfl⟩:=rx;exact SeqAt.EqAt.bool_str a b t
  |_=>exact absurd (show af=ae from fx) cB
 |int a=>
  obtain⟨t',rfl⟩:=ry;cases x with
  |j7=>cases rx;exact SeqAt.EqAt.int_none a t'
  |bl b=>cases rx;exact SeqAt.EqAt.int_bool a t' b
  |int b=>obtain⟨t,rfl⟩:=rx;exact SeqAt.EqAt.int_int a t' b t
  |str b=>obtain⟨t,rfl⟩:=rx;exact NW a t' b t
  |_=>exact absurd (show af=ae from fx) cB
 |str a=>
  obtain⟨t',rfl⟩:=ry;cases x with
  |j7=>cases rx;exact SeqAt.EqAt.str_none a t'
  |bl b=>cases rx;exact SeqAt.EqAt.str_bool a t' b
  |int b=>obtain⟨t,rfl⟩:=rx;exact NV a t' b t
  |str b=>obtain⟨t,rfl⟩:=rx;exact SeqAt.EqAt.str_str a t' b t
  |_=>exact absurd (show af=ae from fx) cB
 |_=>exact absurd (show af=ae from fy) cB
def RQ(x:V)(u:aX):Bool:=match u with
 |.none=>Yq .j7 x
 |.bool b=>Yq (.bl b) x
 |.int i _=>Yq (.int i) x
 |.str z _=>Yq (.str z) x
 |_=>af
theorem Yr{x y:V}{u:aX}(r:RelV y u)(f:uX y=ae):RQ x u=Yq y x:=by
 cases y with
 |j7=>cases r;rfl
 |bl b=>cases r;rfl
 |int i=>obtain⟨t,rfl⟩:=r;rfl
 |str z=>obtain⟨t,rfl⟩:=r;rfl
 |_=>exact absurd (show af=ae from f) cB
theorem CO{x:V}:∀{xs:ao}{us:au},Vals xs us->xs.all uX=ae->us.any (RQ x)=xs.any fun y=>Yq y x
 |_,_,.nil,_=>rfl
 |y::xs,u::us,.cons r t,f=>by
  rw[N0,cM]at f;rw[vi,vi,Yr r f.1,CO t f.2]
theorem xR{A:cZ}{s:a9}{x:V}{v:aX}(rx:RelV x v)(fx:uX x=ae):∀{xs:ao}{us:au},Vals xs us->xs.all uX=ae->∀u∈us,SeqAt.EqAt A s u v (RQ x u)
 |_,_,.nil,_=>fun u hu=>by cases hu
 |y::xs,u::us,.cons r t,f=>fun u' hu=>by
  rw[N0,cM]at f;rcases bQ.mp hu with rfl|hu
  ·rw[Yr r f.1];exact aeu r rx f.1 fx
  exact xR rx fx t f.2 u' hu
def ve(x:V)(xs:ao):Bool:=xs.any fun y=>Yq y x
inductive rIn(K:aY)(neg:Bool)(x:V)(y:V)(H:Hp)(Q:VK):Prop
 |mk (p:_) (xs:_) (_:y=.ref p) (_:(dw K H p xs\/wF K H p xs)) (_:uX x=ae) (_:xs.all uX=ae) (_:Q (.bl (if neg then !ve x xs else ve x xs)) H)
theorem yO:Gn X (jb .In) (rIn X.K af):=by
 intro pins s σ H x y v u Q I rx ry h;obtain⟨p,xs,rfl,hq,fx,fs,q⟩:=h;cases ry;rcases hq with hq|hq
 ·obtain⟨its,r,pl,hz⟩:=I.list hq;refine SeqAt.in_listAt (RQ x) pl.isList (fun w hw=>xR rx fx r fs w (by simpa using hw)) ⟨.bl _,H,I,rfl,?_⟩;rw[show its.toArray.any (RQ x)=its.any (RQ x)by simp,CO r fs];exact q
 obtain⟨its,r,pl,hz⟩:=I.tuple hq;refine SeqAt.in_tupleAt (RQ x) pl (fun w hw=>xR rx fx r fs w (by simpa using hw)) ⟨.bl _,H,I,rfl,?_⟩;rw[show its.toArray.any (RQ x)=its.any (RQ x)by simp,CO r fs];exact q
theorem qR:Gn X (jb .NotIn) (rIn X.K ae):=by
 intro pins s σ H x y v u Q I rx ry h;obtain⟨p,xs,rfl,hq,fx,fs,q⟩:=h;cases ry;rcases hq with hq|hq
 ·obtain⟨its,r,pl,hz⟩:=I.list hq;refine SeqAt.notIn_listAt (RQ x) pl.isList (fun w hw=>xR rx fx r fs w (by simpa using hw)) ⟨.bl _,H,I,rfl,?_⟩;rw[show its.toArray.any (RQ x)=its.any (RQ x)by simp,CO r fs];exact q
 obtain⟨its,r,pl,hz⟩:=I.tuple hq;refine SeqAt.notIn_tupleAt (RQ x) pl (fun w hw=>xR rx fx r fs w (by simpa using hw)) ⟨.bl _,H,I,rfl,?_⟩;rw[show its.toArray.any (RQ x)=its.any (RQ x)by simp,CO r fs];exact q
inductive afS(K:aY)(xs:ao)(H:Hp)(Q:VK):Prop
 |mk (p:Addr) (ys:ao) (_:xs=[.ref p]) (_:dw K H p ys\/wF K H p ys) (_:Q (.int ys.length) H)
theorem cJ:wG X (.builtin "len") (afS X.K):=by
 intro pins s σ H xs us Q I r h;obtain⟨p,ys,rfl,hq,q⟩:=h;obtain⟨u,rfl,rx⟩:=vals1 r;cases rx;have hn:=xY;rcases hq with hq|hq
 ·obtain⟨its,r',pl,hz⟩:=I.list hq;have hlen:=r'.length;exact Calls.call_len_list pl.isList (by simp only[b7]<;>omega) ⟨.int ys.length,H,I.tok _,⟨s.toks+1,by rw[b7,hlen]⟩,q⟩
 obtain⟨its,r',pl,hz⟩:=I.tuple hq;have hlen:=r'.length;exact len_tuple pl (by simp only[b7]<;>omega) ⟨.int ys.length,H,I.tok _,⟨s.toks+1,by rw[b7,hlen]⟩,q⟩
theorem vV:wG X (.builtin "len") (fun xs H Q=>∃z,xs=[.str z]/\z.length<=bz/\Q (.int z.length) H):=by
 intro pins s σ H xs us Q I r h;obtain⟨z,rfl,hz,q⟩:=h;obtain⟨u,rfl,t,rfl⟩:=vals1 r;have hn:=xY;exact len_str (by omega) ⟨.int z.length,H,I.tok _,⟨_,rfl⟩,q⟩
theorem CJ:wG X (.type "list") (fun xs H Q=>∃p ys,xs=[.ref p]/\(dw X.K H p ys\/wF X.K H p ys)/\∀l,H l=ab->Q (.ref l) (upd H l (.lst ys))):=by
 intro pins s σ H xs us Q I r h;obtain⟨p,ys,rfl,hq,q⟩:=h;obtain⟨u,rfl,rx⟩:=vals1 r;cases rx
 have fin:∀(its:au),Vals ys its->ys.length<=bz->∀(h':Heap)(c':Nat),(∀b o',s.heap.get? b=aa o'->h'.get? b=aa o')->
  h'.get? s.heap.objs.size=aa {cls:=.type "list",dict:=ab,data:=.seq its.toArray c',slots:=#[]}->EP X pins σ Q (.ref s.heap.objs.size) {s with heap:=h'}:=fun its r' hz h' c' kp e=>
  ⟨.ref s.heap.objs.size,_,I.laid (t':=s.toks) kp (bu _) (show jc X.prog X.w _ h' _ (.lst ys)from⟨hz,its,c',r',e⟩),rfl,q _ (I.gx.fresh (bu _))⟩
 rcases hq with hq|hq
 ·obtain⟨its,r',pl,hz⟩:=I.list hq;have hlen:=r'.length;obtain⟨o,ho,hc,n,hd⟩:=pl.isList;exact call_list_seq p (.inl rfl) ho hc hd (fun h' c' kp e=>fin its r' hz h' c' kp e) (by simp only[b7]<;>omega)
 obtain⟨its,r',pl,hz⟩:=I.tuple hq;have hlen:=r'.length;obtain⟨o,ho,hc,n,hd⟩:=pl;exact call_list_seq p (.inr rfl) ho hc hd (fun h' c' kp e=>fin its r' hz h' c' kp e) (by simp only[b7]<;>omega)
def tyV(K:aY)(T:String)(x:V)(H:Hp):Prop:=match x with
 |.str _=>T="str"
 |.int _=>T="int"
 |.ref p=>(T="list"/\∃xs,dw K H p xs)\/(T="tuple"/\∃o,K.lookup p=aa o/\o.cls=.type "tuple"/\o.dict=ab)\/
  (T="dict"/\((∃ef,H p=aa (.dK ef))\/∃ef,H p=aa (.dT ef)))\/(T="set"/\∃S n,H p=aa (.set S n))
 |_=>False
theorem acF{pins:ah}{σ:St}{H:Hp}{s:a9}{T:String}{x:V}{v:aX}(I:Inv X pins σ H s)(r:RelV x v)(ty:tyV X.K T x H):
 s.TypeIs v T/\∀a,v=.ref a->∃ob,s.heap.get? a=aa ob/\ob.dict=ab:=by
 cases x with
 |str z=>
  obtain⟨t,rfl⟩:=r
  cases(show T="str" from ty)
  exact⟨typeIs_str s z t,fun _ e=>nomatch e⟩
 |int i=>
  obtain⟨t,rfl⟩:=r
  cases(show T="int" from ty)
  exact⟨typeIs_int s i t,fun _ e=>nomatch e⟩
 |ref p=>
  cases r
  rcases ty with⟨rfl,xs,hq⟩|⟨rfl,o,hk,hc,hd⟩|⟨rfl,hk⟩|⟨rfl,S,n,hk⟩
  ·obtain⟨its,_,pl,_⟩:=I.list hq
   refine⟨pl.isList.typeIs,fun a e=>?_⟩
   cases e
   obtain⟨o,n,e,c,hd,_⟩:=pl
   exact⟨o,e,hd⟩
  ·refine⟨⟨o,I.wQ p o hk,hc⟩,fun a e=>?_⟩
   cases e
   exact⟨o,I.wQ _ o hk,hd⟩
  ·have z:∃o,s.heap.get? p=aa o/\o.ExactDict:=by
    rcases hk with⟨ef,hk⟩|⟨ef,hk⟩
    ·obtain⟨_,_,_,_,o,_,_,e,ex,_⟩:=I.gx p _ hk;exact⟨o,e,ex⟩
    obtain⟨_,_,_,_,o,_,_,e,ex,_⟩:=I.gx p _ hk;exact⟨o,e,ex⟩
   obtain⟨o,e,ex⟩:=z
   refine⟨⟨o,e,ex.1⟩,fun a e2=>?_⟩
   cases e2
   exact⟨o,e,ex.2.1⟩
  obtain⟨o,_,_,_,e,ex,_⟩:=I.gx p _ hk
  refine⟨⟨o,e,ex.1⟩,fun a e2=>?_⟩
  cases e2
  exact⟨o,e,ex.2.1⟩
 |_=>exact fB ty
def tBM(K:aY)(T:String)(r:V->ao->Hp->VK->Prop)(to:TE)(t:TA):TE:=fun σ H Q=>to σ H fun x H1=>tyV K T x H1/\t σ H1 fun xs H2=>r x xs H2 Q
variable{o e:Expr}{es:List Expr}{to:TE}{t:TA}{name:Str}{apos M0:Pos}{T id:String}{r:V->ao->Hp->VK->Prop}
theorem mq(pa:PlainAttrs T)(slot:Slot T name id)(hty:NA (.builtin id)=pure (.type "method_descriptor"))(hm:MtR X id r)(ho:PE X o to)(ha:PA X (e::es) t)
 (Pn:sA o name X.env (eval o X.env)=eval o X.env:=by rfl)
 (aj5:((gz M0 (bX (e::es) X.env)).all (fun x=>!x.1)&&(wm M0 (m9 [] X.env)).all (fun x=>x.1.isSome)
  &&decide ((e::es).length+([]:List Keyword).length+(if([]:List Keyword).isEmpty then 0 else 1)<30))=ae:=by rfl)
 (Pj:(apos.endLine==M0.line)=ae:=by rfl)(hs:bX (e::es) X.env=(af,eval e X.env)::bX es X.env:=by rfl)(ad1:(gz M0 (bX es X.env)).any (·.1)=af:=by rfl):
 PE X (.Call (.Attribute o name apos) (e::es) [] M0) (tBM X.K T r to t):=by
 intro pins s σ H Q I h
 refine wpAny_Call_method_late Pn aj5 Pj rfl (ic (ho pins s σ H _ I h) fun v s1 ⟨x,H1,I1,r1,ty,q1⟩=>?_)
 obtain⟨h1,h2⟩:=acF I1 r1 ty
 refine⟨T,id,pa,slot,hty,h1,h2,?_⟩
 have hA:=ha M0 pins s1 σ H1 _ I1 q1
 rw[hs]at hA⊢
 refine Qk (by show(af||(gz M0 (bX es X.env)).any (·.1))=af;rw[ad1]<;>rfl) (zH ?_)
 exact ic hA fun us s2 ⟨vs,H2,I2,r2,q2⟩=>hm pins s2 σ H2 x vs v us Q I2 r1 r2 q2
end
def MtM(X:Cx)(id:String)(r:V->ao->Hp->VK->Prop):Prop:=
 ∀(pins:ah)(s:a9)(σ:St)(H:Hp)(x:V)(xs:ao)(v:aX)(us:au)(Q:VK),Inv X pins σ H s->RelV x v->Vals xs us->r x xs H Q->
  bM (bK X.prog X.w) X.A (call (.builtin id) (v::us)) (EP X pins σ Q) X.xe s
theorem Vals.one{x:V}{us:au}(h:Vals [x] us):∃u,us=[u]/\RelV x u:=by
 cases h with
 |cons r t=>
  cases t;exact⟨_,rfl,r⟩
theorem Vals.rep{xs:ao}{us:au}(h:Vals xs us):∀k:Nat,Vals (cA k xs).flatten (cA k us).flatten
 |0=>.nil
 |k+1=>by
  rw[fY,fY,lI,lI];exact Vals.append h (Vals.rep h k)
theorem foldl_rep(its:au):∀(k:Nat)(acc:au),
 Wc (fun x1 x2=>x1++x2) acc.toArray (cA k its.toArray)=(acc++(cA k its).flatten).toArray
 |0,acc=>by simp
 |k+1,acc=>by
  have e:acc.toArray++its.toArray=(acc++its).toArray:=by simp
  have e2:(acc++its)++(cA k its).flatten=acc++(cA (k+1) its).flatten:=by
   rw[fY,lI,de]
  rw[<-e2,<-foldl_rep its k (acc++its),<-e,fY,nR]
section
variable{X:Cx}{pins:ah}{σ:St}{H:Hp}{s:a9}{l b:Addr}{xs ys zs:ao}
theorem Inv.agg{its its':au}{n:Nat}{f:Array aX->Array aX}{t':Nat}(I:Inv X pins σ H s)(hH:H l=aa (.lst xs))
 (e:s.heap.get? l=aa {cls:=.type "list",data:=.seq its.toArray n})(hf:f its.toArray=its'.toArray)(hv:Vals ys its')(hz:ys.length<=bz):
 Inv X pins σ (upd H l (.lst ys)) {s with heap:=s.heap.update l (dU f),toks:=t'}:=by
 have q:=PySem.IsL.update e f
 rw[hf]at q
 refine I.write (x:=l) (e:=l) (by rw[hH];exact trivial) (.inl rfl) (fun b' u hb hu=>(cv s.heap (dU f) (dh hb)).trans hu) ⟨_,q⟩ ?_
 exact⟨hz,its',_,hv,q⟩
theorem Inv.agj{its:au}{t':Nat}(I:Inv X pins σ H s)(hv:Vals ys its)(hz:ys.length<=bz):
 Inv X pins σ (upd H s.heap.objs.size (.lst ys)) {s with heap:=s.heap.push {cls:=.type "list",data:=.seq its.toArray},toks:=t'}:=
 I.laid (fun _ _ q=>ba _ q) (bu _) ⟨hz,its,0,hv,bI _ rfl⟩
theorem Inv.fresh(I:Inv X pins σ H s):H s.heap.objs.size=ab:=I.gx.fresh (bu _)
theorem Inv.U3(I:Inv X pins σ H s)(hH:H l=aa (.lst xs)):xs.length<=bz/\∃(its:au)(n:Nat),Vals xs its/\xs.length=its.length/\s.heap.get? l=aa {cls:=.type "list",data:=.seq its.toArray n}:=by
 obtain⟨z,its,n,r,e⟩:=I.gx l _ hH;exact⟨z,its,n,r,r.length,e⟩
theorem O6{n:Nat}(h:n<=bz):lM n=af:=by
 unfold lM;exact gX (by omega)
end
section
variable{X:Cx}
inductive Z6(x:V)(vs:ao)(H:Hp)(Q:VK):Prop
 |mk (l:_) (xs:_) (y:_) (_:x=.ref l) (_:vs=[y]) (_:H l=aa (.lst xs)) (_:xs.length<bz) (_:Q .j7 (upd H l (.lst (xs++[y]))))
theorem iO:MtM X "list.append" Z6:=by
 intro pins s σ H x vs v us Q I rx rv h;obtain⟨l,xs,y,rfl,rfl,hH,hz,q⟩:=h;cases rx;obtain⟨u,rfl,ru⟩:=rv.one;obtain⟨z,its,n,r,hl,e⟩:=I.U3 hH;refine Sv F.slot_list_append ⟨_,e,rfl⟩ F.entry_list_append (F.args_list_append_2 _ _) (PySem.list_append l its.toArray n u (by rw[b7];omega)) ⟨e,?_⟩;refine⟨.j7,_,I.agg (its':=its++[u]) hH e (by simp) (r.append (.cons ru .nil)) ?_,rfl,q⟩;rw[bR,List.length_singleton];omega
inductive Z5(x:V)(vs:ao)(H:Hp)(Q:VK):Prop
 |mk (l:_) (b:_) (xs:_) (zs:_) (_:x=.ref l) (_:vs=[.ref b]) (_:H l=aa (.lst xs)) (_:H b=aa (.lst zs)) (_:xs.length+zs.length<=bz) (_:Q .j7 (upd H l (.lst (xs++zs))))
theorem pF:MtM X "list.extend" Z5:=by
 intro pins s σ H x vs v us Q I rx rv h;obtain⟨l,b,xs,zs,rfl,rfl,hH,hB,hz,q⟩:=h;cases rx;obtain⟨u,rfl,ru⟩:=rv.one;cases ru;obtain⟨z,its,n,r,hl,e⟩:=I.U3 hH;obtain⟨z2,Mn,n2,r2,uw,e2⟩:=I.U3 hB;have hsz:its.toArray.size+Mn.toArray.size<=bz:=by rw[b7,b7];omega
 have Ya:¬(!its.toArray.isEmpty&&lM (its.toArray.size+Mn.toArray.size))=ae:=by
  rw[O6 hsz,Ll];exact cB
 refine Sv F.slot_list_extend ⟨_,e,rfl⟩ F.entry_list_extend (F.args_list_extend_2 _ _)
  (AutoSeq1.list_extend_list_list_0 l its.toArray n b Mn.toArray n2 Ya (by rw[b7];omega) (by omega)) ⟨e,e2,?_⟩
 refine⟨.j7,_,I.agg (its':=its++Mn) hH e (by simp) (r.append r2) ?_,rfl,q⟩;rw[bR];omega
inductive afT(x:V)(y:V)(H:Hp)(Q:VK):Prop
 |mk (l:_) (b:_) (xs:_) (zs:_) (_:x=.ref l) (_:y=.ref b) (_:H l=aa (.lst xs)) (_:H b=aa (.lst zs)) (_:xs.length+zs.length<=bz) (_:∀p,H p=ab->Q (.ref p) (upd H p (.lst (xs++zs))))
theorem xM:Gn X (zE .Add) afT:=by
 intro pins s σ H x y v u Q I rx ry h;obtain⟨l,b,xs,zs,rfl,rfl,hH,hB,hz,q⟩:=h;cases rx;cases ry;obtain⟨z,its,n,r,hl,e⟩:=I.U3 hH;obtain⟨z2,Mn,n2,r2,uw,e2⟩:=I.U3 hB;refine PySem.P.add_list e e2 ?_ (by rw[b7,b7];omega);have ea:its.toArray++Mn.toArray=(its++Mn).toArray:=by simp
 rw[ea];exact⟨.ref _,_,I.agj (t':=s.toks) (r.append r2) (by rw[bR];omega),rfl,q _ I.fresh⟩
inductive aiT(x:V)(y:V)(H:Hp)(Q:VK):Prop
 |mk (l:_) (k:_) (xs:_) (_:x=.ref l) (_:y=.int k) (_:H l=aa (.lst xs)) (_: -(2^63)<=k) (_:k<2^63) (_:xs.length*k.toNat<=bz) (_:∀p,H p=ab->Q (.ref p) (upd H p (.lst (cA k.toNat xs).flatten)))
theorem len_rep{α:Type}(xs:List α)(k:Nat):(cA k xs).flatten.length=k*xs.length:=by
 induction k with
 |zero=>simp
 |succ k ih=>rw[fY,lI,bR,ih,Nat.succ_mul,Nat.add_comm]
theorem Rb:Gn X (zE .Mult) aiT:=by
 intro pins s σ H x y v u Q I rx ry h;obtain⟨l,k,xs,rfl,rfl,hH,h1,h2,hz,q⟩:=h;cases rx;obtain⟨t,rfl⟩:=ry;obtain⟨z,its,n,r,hl,e⟩:=I.U3 hH;have hlen:its.toArray.size*k.toNat<=bz:=by rw[b7,<-hl];exact hz
 have akd:¬its.toArray.size*k.toNat> (2^63-1)/8:=by
  have:(bz:Nat)<=(2^63-1)/8:=by decide
  omega
 have aj4:¬(!Builtin.List.listFitsIndex k)=ae:=by
  rw[fitsIndex_both h1 h2];exact cB
 have Ya:¬lM (its.toArray.size*k.toNat)=ae:=by
  rw[O6 hlen];exact cB
 have ajL:Wc (fun x1 x2=>x1++x2) #[] (cA (if its.toArray.isEmpty=ae then 0 else k.toNat) its.toArray)=(cA k.toNat its).flatten.toArray:=by
  have f0:∀m:Nat,Wc (fun x1 x2=>x1++x2) #[] (cA m its.toArray)=(cA m its).flatten.toArray:=fun m=>by
   have:=foldl_rep its m [];rw[nP]at this;exact this
  rw[f0];cases its with
  |nil=>simp
  |cons a r'=>rw[cQ (by simp)]
 refine wpAny_binaryOp_repeat_ref (T:="list") (U:="int") (by decide) ⟨_,e,rfl⟩ (fun s'=>typeIs_int s' k t) noFill_list_mul F.fills_int_mul F.slot_int_rmul repeat_list F.slot_int_index.lookup
  (Sv F.slot_int_rmul (typeIs_int s k t) F.entry_int_rmul (F.args_int_rmul_2 _ _) (int___rmul___int_list k t l its.toArray n)
   ⟨e,rfl,⟨_,e,rfl⟩,Sv F.slot_list_mul ⟨_,e,rfl⟩ F.entry_list_mul (F.args_list_mul_2 _ _) (AutoListH.list___mul___list_int_3 l its.toArray n k t aj4 akd Ya) ⟨e,?_⟩⟩)
 rw[ajL];exact⟨.ref _,_,I.agj (t':=s.toks) (r.rep k.toNat) (by rw[len_rep,Nat.mul_comm];exact hz),rfl,q _ I.fresh⟩
end
section
variable{prog:bY}{w:cX}{A:cZ}{E:ar}{s:a9}
set_option maxRecDepth 100000 in
end
section
variable{X:Cx}
end
theorem Vals.ints:∀{ns:List Int}{us:au},Vals (ns.map V.int) us->kf us ns
 |[],us,h=>by
  rw[E6]at h;cases h;exact IntsAre.nil
 |n::ns,us,h=>by
  rw[dE]at h;cases h with
  |cons r t=>
   obtain⟨k,rfl⟩:=r;exact IntsAre.cons n k (Vals.ints t)
theorem qP:∀{us:au}{ns:List Int},kf us ns->Vals (ns.map V.int) us
 |_,_,.nil=>by rw[E6];exact Paired.nil
 |_,_,.cons n t h=>by rw[dE];exact Paired.cons (show RelV (V.int n) (l6 n t)from⟨t,rfl⟩) (qP h)
theorem Vals.ac7{a:Addr}{us:au}(r:Vals [V.ref a] us):us=[cu a]:=by
 cases r with
 |cons r t=>
  cases t;cases r;rfl
section
variable{prog:bY}{w:cX}{A:cZ}{E:ar}{s:a9}{l:Addr}{its:au}{ns:List Int}{Q:ar}
end
section
variable{X:Cx}
end
section
variable{X:Cx}
end
section
variable{X:Cx}
end
section
variable{X:Cx}
end
section
variable{X:Cx}{pins:ah}{σ:St}{H:Hp}{s:a9}
end
section
variable{X:Cx}
end
abbrev Y0(h:Heap)(c:Addr)(v:Option aX):Prop:=h.IsCell c v
def aiP(scope sc:kG):kG:=
 {scope with names:=scope.names.map fun(n,k)=>if(k== .free&&sc.kind== .function&&sc.names.lookup n==aa .cell)then(n,.cell)else(n,k)}
def iy(cells:ai):List (Str×ke)->ai->ai
 |[],acc=>acc
 |(n,k)::r,acc=>if k== .free then iy cells r ((n,(cells.lookup n).getD 0)::acc)else iy cells r acc
theorem CI(env:Env)(f:Str×ke->ai->Sem (ForInStep ai))
 (hf:∀n k c,f (n,k) c=if k== .free then(do let a<-cellOf env n;pure (.yield ((n,a)::c)))else pure (.yield c)):
 ∀(names:List (Str×ke))(acc:ai),(∀y∈names,y.2=.free->∃c,env.cells.lookup y.1=aa c)->forIn names acc f=pure (iy env.cells names acc)
 |[],acc,_=>by rw[tJ];rfl
 |(n,k)::r,acc,h=>by
  rw[nQ,hf];have ih:=fun acc=>CI env f hf r acc fun y hy=>h y (bD _ hy);unfold iy;by_cases hk:(k==pI)=ae
  ·rw[da hk,da hk];obtain⟨c,hc⟩:=h (n,k) bO (by simpa using hk);have e:cellOf env n=pure c:=by unfold cellOf;rw[hc]
   rw[e];have e2:(env.cells.lookup n).getD 0=c:=by rw[hc];rfl
   rw[e2];exact ih _
  rw[cQ hk,cQ hk];exact ih _
theorem R0{scope:kG}{env:Env}(h:∀y∈scope.names,y.2=.free->∃c,env.cells.lookup y.1=aa c):IV scope env=pure (iy env.cells scope.names []):=by
 simp only[IV];rw[CI env _ (fun n k c=>rfl) scope.names [] h];rfl
theorem mem_lookup{α:Type}:∀{l:List (Str×α)}{n:Str}{c:α},(n,c)∈l->∃c',l.lookup n=aa c'
 |(k,v)::r,n,c,h=>by
  rw[kj];cases hb:n==k with
  |true=>exact⟨_,rfl⟩
  |false=>
   rcases bQ.mp h with e|h
   ·cases e;simp at hb
   exact mem_lookup h
theorem tF{cells:ai}:∀{names:List (Str×ke)}{acc:ai}{n:Str}{c:Addr},(n,c)∈iy cells names acc->(n,c)∈acc\/((n,.free)∈names/\c=(cells.lookup n).getD 0)
 |[],_,_,_,h=>.inl h
 |(m,k)::r,acc,n,c,h=>by
  unfold iy at h;split at h
  ·rename_i hk;have hk:k=.free:=by simpa using hk
   rcases tF h with h|⟨h1,h2⟩
   ·rcases bQ.mp h with e|h
    ·cases e;exact .inr ⟨hk▸bO,rfl⟩
    exact .inl h
   exact .inr ⟨bD _ h1,h2⟩
  rcases tF h with h|⟨h1,h2⟩
  ·exact .inl h
  exact .inr ⟨bD _ h1,h2⟩
theorem yj{cells:ai}:∀{names:List (Str×ke)}{acc:ai}{p:Str×Addr},p∈acc->p∈iy cells names acc
 |[],_,_,h=>h
 |(m,k)::r,acc,p,h=>by
  unfold iy;split
  ·exact yj (bD _ h)
  exact yj h
theorem yi{cells:ai}:∀{names:List (Str×ke)}{acc:ai}{n:Str},(n,.free)∈names->(n,(cells.lookup n).getD 0)∈iy cells names acc
 |(m,k)::r,acc,n,h=>by
  unfold iy;rcases bQ.mp h with e|h
  ·cases e;exact yj bO
  split
  ·exact yi h
  exact yi h
theorem u6:∀{names:List (Str×ke)}{h:Heap}{acc:ai}{x:Str}{c:Addr},(x,c)∈f9 h.objs.size names acc->
 (x,c)∈acc\/((x,.cell)∈names/\h.objs.size<=c/\Y0 (vf h names) c ab)
 |[],_,_,_,_,h=>.inl h
 |(n,k)::r,h,acc,x,c,hm=>by
  unfold f9 at hm;unfold vf;split at hm
  ·rename_i hk;rw[da hk];have hk:k=.cell:=by simpa using hk
   rw[<-dB h {cls:=.type "cell",data:=.cell ab}]at hm;rcases u6 hm with hm|⟨h1,h2,h3⟩
   ·rcases bQ.mp hm with e|hm
    ·cases e;exact .inr ⟨hk▸bO,bu _,_,Bg r _ _ _ (bI _ rfl),rfl⟩
    exact .inl hm
   rw[dB]at h2;exact .inr ⟨bD _ h1,vh h2,h3⟩
  rename_i hk;rw[cQ hk];rcases u6 hm with hm|⟨h1,h2,h3⟩
  ·exact .inl hm
  exact .inr ⟨bD _ h1,h2,h3⟩
theorem yW:∀{names:List (Str×ke)}{n:Nat}{acc:ai}{p:Str×Addr},p∈acc->p∈f9 n names acc
 |[],_,_,_,h=>h
 |(m,k)::r,n,acc,p,h=>by
  unfold f9;split
  ·exact yW (bD _ h)
  exact yW h
theorem Eh:∀{names:List (Str×ke)}{n:Nat}{acc:ai}{x:Str},(x,.cell)∈names->∃c,(x,c)∈f9 n names acc
 |(m,k)::r,n,acc,x,h=>by
  unfold f9;rcases bQ.mp h with e|h
  ·cases e;exact⟨n,yW bO⟩
  split
  ·exact Eh h
  exact Eh h
theorem Eg:∀{names:List (Str×ke)}{h:Heap}{acc:ai}{x y:Str}{c:Addr},(∀p∈acc,p.2<h.objs.size)->(∀x y c,(x,c)∈acc->(y,c)∈acc->x=y)->
 (x,c)∈f9 h.objs.size names acc->(y,c)∈f9 h.objs.size names acc->x=y
 |[],_,_,_,_,_,_,hi,h1,h2=>hi _ _ _ h1 h2
 |(n,k)::r,h,acc,x,y,c,hl,hi,h1,h2=>by
  unfold f9 at h1 h2;split at h1
  ·rename_i hk;rw[da hk]at h2;rw[<-dB h {cls:=.type "cell",data:=.cell ab}]at h1 h2;refine Eg (h:=h.push _) (fun p hp=>?_) (fun x y c a b=>?_) h1 h2
   ·rw[dB];rcases bQ.mp hp with rfl|hp
    ·exact eQ _
    exact eU (hl p hp)
   rcases bQ.mp a with e|a<;>rcases bQ.mp b with e'|b
   ·cases e;cases e';rfl
   ·cases e;exact absurd (hl _ b) (gC _)
   ·cases e';exact absurd (hl _ a) (gC _)
   exact hi _ _ _ a b
  rename_i hk;rw[cQ hk]at h2;exact Eg hl hi h1 h2
theorem O7{M:Gx}{A:cZ}{E:ar}{s:a9}{scope:kG}{globals:Addr}{closure:ai}{qual:Str}{func:Option Addr}{code:aX}{around:Env}{builtins:Addr}{Q:Env->a9->Prop}
 (h:Q (newEnv scope s.heap.objs.size globals (f9 (s.heap.objs.size+1) scope.names closure) qual func code (aa around) builtins)
  {s with heap:=vf (s.heap.push {cls:=.type "dict",data:=.dict #[]}) scope.names}):
 bM M A (newFunctionEnv scope globals closure [] qual func code (aa around) builtins) Q E s:=by
 simp only[newFunctionEnv,Uk,if_true]
 refine aP (Eu ?_)
 refine aP (wpAny_layCells _ (fun n k c=>rfl) scope.names closure _ _ ?_)
 rw[show({s with heap:=s.heap.push {cls:=.type "dict",data:=.dict #[]}}:a9).heap.objs.size=s.heap.objs.size+1 from dB ..]
 rw[tJ]
 exact aP (bg (bg h))
theorem xW{sc:kG}:∀{names:List (Str×ke)}{x:Str}{k:ke},
 (names.map fun(n,k)=>if(k==pI&&sc.kind== .function&&sc.names.lookup n==aa .cell)then(n,Jk)else(n,k)).lookup x=aa k->
 ∃k',names.lookup x=aa k'/\(k=k'\/(k'=.free/\k=.cell))
 |[],_,_,h=>by simp at h
 |(n,k₀)::r,x,k,h=>by
  have ih:=@xW sc r x k;have h':ig x ((if(k₀==pI&&sc.kind== .function&&sc.names.lookup n==aa .cell)=ae then(n,Jk)else(n,k₀))::(r.map _))=aa k:=h;cases hx:x==n with
  |true=>
   simp only[kj,hx];by_cases hc:(k₀==pI&&sc.kind== .function&&sc.names.lookup n==aa .cell)=ae
   ·rw[da hc]at h';simp only[kj,hx]at h';cases h';simp only[cM,beq_iff_eq]at hc;exact⟨k₀,rfl,.inr ⟨hc.1.1,rfl⟩⟩
   rw[cQ hc]at h';simp only[kj,hx]at h';cases h';exact⟨_,rfl,.inl rfl⟩
  |false=>
   simp only[kj,hx];by_cases hc:(k₀==pI&&sc.kind== .function&&sc.names.lookup n==aa .cell)=ae
   ·rw[da hc]at h';simp only[kj,hx]at h';exact ih h'
   rw[cQ hc]at h';simp only[kj,hx]at h';exact ih h'
structure Qe(N:ak)(sc scope:kG)(own:List (Str×Nat)):Prop where
 kind:scope.kind=.function
 uniq:∀y∈scope.names,scope.names.lookup y.1=aa y.2
 ix:∀p∈own,N[p.2]?=aa p.1
 free:∀y∈scope.names,y.2=.free->sc.names.lookup y.1=aa .cell\/sc.names.lookup y.1=aa .free
 own:∀y∈scope.names,y.2=.local\/y.2=.cell->y.1∈own.map (·.1)\/y.1∉N
def wipe(σ:St):List Nat->St
 |[]=>σ
 |v::vs=>(wipe σ vs).set v ab
theorem wZ(σ:St):∀vs:List Nat,(wipe σ vs).length=σ.length
 |[]=>rfl
 |v::vs=>by unfold wipe;rw[fO,wZ σ vs]
theorem Dl{σ:St}{i:Nat}{x:V}:∀{vs:List Nat},(wipe σ vs)[i]?=aa (aa x)->σ[i]?=aa (aa x)/\i∉vs
 |[],h=>⟨h,by simp⟩
 |v::vs,h=>by
  unfold wipe at h;by_cases hi:v=i
  ·subst hi;by_cases hv:v<(wipe σ vs).length
   ·rw[o7 hv]at h;cases h
   rw[dZ (by simpa using hv)]at h;cases h
  rw[qO hi]at h;obtain⟨h1,h2⟩:=Dl h;exact⟨h1,by simp only[bQ,not_or];exact⟨fun e=>hi e.symm,h2⟩⟩
abbrev Cx.Nj(X:Cx)(s:a9)(H:Hp)(scope:kG)(nJ:Env)(fp:ag):Cx:={X with DE:=s,H_0:=H,env:=nJ,outer:=X.stack,ex:=fp,fn:=fun x=>scope.names.lookup x==aa .cell,pn:=[],xe:=fun _ _=>False}
section
variable{X:Cx}{pins:ah}{σ:St}{H:Hp}{s:a9}
theorem P4{scope:kG}{own:List (Str×Nat)}{fp:ag}(I:Inv X pins σ H s)(ok:Qe X.N X.env.scope scope own)(hN:X.N.Nodup)(hfp:∀b∈fp,IM X pins H b/\b<s.heap.objs.size):
 Inv (X.Nj s H scope (nu scope (f9 (s.heap.objs.size+1) scope.names (iy X.env.cells scope.names [])) s.heap.objs.size X.env) fp) [] (wipe σ (own.map (·.2))) H {s with heap:=vf (s.heap.push {cls:=.type "dict",data:=.dict #[]}) scope.names}:=by
 have KU:∀y∈scope.names,y.2=.free->∃c,X.env.cells.lookup y.1=aa c:=fun y hy e=>by
  rcases ok.free y hy e with k|k
  ·exact I.ok.has _ (.inl k)
  exact I.ok.has _ (.inr k)
 generalize Pm:nu scope (f9 (s.heap.objs.size+1) scope.names (iy X.env.cells scope.names [])) s.heap.objs.size X.env=nJ
 have kp:∀b o,s.heap.get? b=aa o->(vf (s.heap.push {cls:=.type "dict",data:=.dict #[]}) scope.names).get? b=aa o:=fun b o e=>Bg _ _ _ _ (ba _ e)
 have hL:nJ.locals=s.heap.objs.size:=by rw[<-Pm];rfl
 have JM:nJ.cells=f9 (s.heap.objs.size+1) scope.names (iy X.env.cells scope.names []):=by rw[<-Pm];rfl
 have hsc:nJ.scope=aiP scope X.env.scope:=by rw[<-Pm];rfl
 rw[<-dB s.heap {cls:=.type "dict",data:=.dict #[]}]at JM
 have cm:∀{y c},(y,c)∈iy X.env.cells scope.names []->X.env.cells.lookup y=aa c/\c<s.heap.objs.size:=fun{y c} hm=>by
  rcases tF hm with hm|⟨h1,rfl⟩
  ·cases hm
  obtain⟨c,hc⟩:=KU _ h1 rfl;rw[hc];obtain⟨w,z⟩:=I.cell _ _ hc;exact⟨rfl,z.lt⟩
 have mem:∀{y c},nJ.cells.lookup y=aa c->(X.env.cells.lookup y=aa c/\c<s.heap.objs.size)\/(s.heap.objs.size+1<=c/\Y0 (vf (s.heap.push {cls:=.type "dict",data:=.dict #[]}) scope.names) c ab):=fun{y c} e=>by
  rw[JM]at e;rcases u6 (dI e)with hm|⟨_,h2,h3⟩
  ·exact .inl (cm hm)
  rw[dB]at h2;exact .inr ⟨h2,h3⟩
 have look:∀{y},scope.names.lookup y=aa .free->∃c,nJ.cells.lookup y=aa c/\X.env.cells.lookup y=aa c:=fun{y} hl=>by
  have hy:(y,pI)∈scope.names:=dI hl;obtain⟨c',e'⟩:=mem_lookup (yW (names:=scope.names) (n:=(s.heap.push {cls:=.type "dict",data:=.dict #[]}).objs.size) (yi (cells:=X.env.cells) (acc:=[]) hy));rw[<-JM]at e';refine⟨c',e',?_⟩;rw[JM]at e';rcases u6 (dI e')with hm|⟨h1,_,_⟩
  ·exact(cm hm).1
  have:=ok.uniq _ h1;rw[hl]at this;cases this
 have okB:(X.Nj s H scope nJ fp).Ok:=by
  refine⟨I.ok.mod,by show nJ.scope.kind=_;rw[hsc];exact ok.kind,by show nJ.globals=_;rw[<-Pm];exact I.ok.glob,by show nJ.builtins=_;rw[<-Pm];exact I.ok.blt,by show s.heap.objs.size<=nJ.locals;rw[hL];exact bu _,
   fun y z c e1 e2=>?_,fun y hy=>?_,fun y c z e=>?_,I.ok.hd,I.ok.frames,.inl rfl,fun b hb=>⟨?_,fun y c e z=>?_⟩,I.bs,cR I.ok.Sb I.sz,fun b o e hb=>?_,fun b hb z=>?_,I.stack,I.Lv⟩
  ·have e1:nJ.cells.lookup y=aa c:=e1;have e2:nJ.cells.lookup z=aa c:=e2;rw[JM]at e1 e2;refine Eg (fun p hp=>?_) (fun y z c a b=>I.ok.inj y z c (cm a).1 (cm b).1) (dI e1) (dI e2);rw[dB];exact eU (cm (y:=p.1) (c:=p.2) hp).2
  ·show∃c,nJ.cells.lookup y=aa c
   have key:∀k,nJ.kindOf y=aa k->(k=.cell\/k=.free)->∃c,nJ.cells.lookup y=aa c:=fun k hk hk'=>by
    unfold Env.kindOf at hk;rw[hsc]at hk;obtain⟨k',e,r⟩:=xW hk
    have:k'=.cell\/k'=.free:=by
     rcases r with rfl|⟨rfl,_⟩
     ·exact hk'
     exact .inr rfl
    rcases this with rfl|rfl
    ·obtain⟨c,hm⟩:=Eh (n:=(s.heap.push {cls:=.type "dict",data:=.dict #[]}).objs.size) (acc:=iy X.env.cells scope.names []) (dI e);obtain⟨c',e'⟩:=mem_lookup hm;exact⟨c',by rw[JM];exact e'⟩
    obtain⟨c,h1,_⟩:=look e;exact⟨c,h1⟩
   rcases hy with hy|hy
   ·exact key _ hy (.inl rfl)
   exact key _ hy (.inr rfl)
  ·have z:(scope.names.lookup y==aa Jk)=ae:=z;have z:scope.names.lookup y=aa .cell:=by simpa using z
   have e:nJ.cells.lookup y=aa c:=e;rw[JM]at e;rcases u6 (dI e)with hm|⟨_,h2,_⟩
   ·rcases tF hm with hm|⟨h1,_⟩
    ·cases hm
    have q:=ok.uniq _ h1;rw[z]at q;cases q
   rw[dB]at h2;exact vh h2
  ·show b≠nJ.locals;rw[hL];exact ck (hfp b hb).2
  ·have e:nJ.cells.lookup y=aa c:=e;rcases mem e with⟨h1,_⟩|⟨h1,_⟩
   ·exact(hfp b hb).1.2.2.2.2.1 y c h1 z
   have h2:s.heap.objs.size+1<=b:=by rw[<-z];exact h1
   exact absurd (bJ (hfp b hb).2 (vh h2)) (gC _)
  ·rcases(hfp b hb).1.2.2.2.1 with z|z
   ·exact I.ok.L8 b o e z
   exact absurd (bJ (bG e) (cR I.ok.Sb z)) (gC _)
  rcases bQ.mp (I.QR b z)with z|z
  ·exact(hfp b hb).1.2.1 z
  exact(hfp b hb).1.2.2.1 z
 refine⟨okB,rfl,I.bare,Un.kept kp,⟨fun _=>ab,?_,fun i y av e1 e2 e3=>?_⟩,fun y c e=>?_,?_,fun y c e=>?_,fun p hp=>?_,I.gx.kept kp,by rw[wZ];exact I.len⟩
 ·show Heap.Ns _ nJ.locals _
  rw[hL]
  exact Heap.Ns.keeps (Heap.Ns.new ..) fun b o e=>Bg _ _ _ _ e
 ·obtain⟨e2,Il⟩:=Dl e2
  have hfr:scope.names.lookup y=aa .free/\(nJ.kindOf y=aa .cell\/nJ.kindOf y=aa .free):=by
   have key:∀k,nJ.scope.names.lookup y=aa k->k=.local\/k=.cell\/k=.free->scope.names.lookup y=aa .free/\(nJ.kindOf y=aa .cell\/nJ.kindOf y=aa .free):=fun k hk hk'=>by
    have hk0:=hk;rw[hsc]at hk;obtain⟨k',e,r⟩:=xW hk
    have no:¬(k'=.local\/k'=.cell):=fun hh=>by
     rcases ok.own _ (dI e) hh with e'|e'
     ·obtain⟨p,hp,hpy⟩:=di.mp e';have e3:=ok.ix p hp;have:p.1=y:=hpy;rw[this]at e3;exact Il (di.mpr ⟨p,hp,BQ hN e3 e1⟩)
     exact e' (br e1)
    rcases r with rfl|⟨rfl,rfl⟩
    ·rcases hk' with rfl|rfl|rfl
     ·exact absurd (.inl rfl) no
     ·exact absurd (.inr rfl) no
     exact⟨e,.inr hk0⟩
    exact⟨e,.inl hk0⟩
   have e3:Vis nJ.scope y:=e3;rcases e3 with e3|e3|e3
   ·exact key _ e3 (.inl rfl)
   ·exact key _ e3 (.inr (.inl rfl))
   exact key _ e3 (.inr (.inr rfl))
  obtain⟨m,hn,hl⟩:=I.loc
  have ajw:Vis X.env.scope y:=(ok.free _ (dI hfr.1) rfl).elim (fun k=>.inr (.inl k)) (fun k=>.inr (.inr k))
  obtain⟨w,r,q⟩:=hl i y av e1 e2 ajw
  refine⟨w,r,.inr ⟨hfr.2,?_⟩⟩
  obtain⟨c,h1,h2⟩:=look hfr.1
  rcases q with⟨k,_⟩|⟨_,c',e',z⟩
  ·have k:X.env.scope.names.lookup y=aa .local:=k
   rcases ok.free _ (dI hfr.1) rfl with k'|k'<;>rw[show X.env.scope.names.lookup y=_ from k']at k<;>cases k
  rw[h2]at e';cases e'
  exact⟨c,h1,z.keeps kp⟩
 ·have e:nJ.cells.lookup y=aa c:=e
  rcases mem e with⟨h1,_⟩|⟨_,z⟩
  ·obtain⟨w,z⟩:=I.cell y c h1
   exact⟨w,z.keeps kp⟩
  exact⟨_,z⟩
 ·show H nJ.locals=ab
  rw[hL];exact I.gx.fresh (bu _)
 ·have e:nJ.cells.lookup y=aa c:=e
  rcases mem e with⟨h1,_⟩|⟨h1,_⟩
  ·exact I.p0 y c h1
  exact I.gx.fresh (vh h1)
 exact absurd (show p∈([]:ah)++[]from hp) (by simp)
theorem aeG{E:ar}{D:Addr}{xs:ao}{y:V}{v:aX}{Q:ar}(I:Inv X pins σ H s)(hD:H D=aa (.lst xs))(hz:xs.length<bz)(r:RelV y v)
 (h:∀s',Inv X pins σ (upd H D (.lst (xs++[y]))) s'->Q .none s'):bM (bK X.prog X.w) X.A (call (.builtin "list.append") [.ref D,v]) Q E s:=by
 obtain⟨hz',its,n,ri,e⟩:=I.gx D _ hD
 have hl:=ri.length
 refine append_at (hsz:=by rw[b7];omega) e fun h' sb EV=>?_
 refine h {s with heap:=h'} (I.write (t':=s.toks) (by rw[hD];trivial) (.inl rfl) (fun b u hb q=>(sb.2 b hb).trans q) ⟨_,EV⟩ ⟨by rw[bR];exact hz,its++[v],n+1,ri.append (.cons r .nil),?_⟩)
 rw[EV]
 simp
def PTs(X:Cx)(ifs:List Expr)(t:TT):Prop:=
 ∀(pins:ah)(s:a9)(σ:St)(H:Hp)(Q:Bool->Hp->Prop),Inv X pins σ H s->t σ H Q->
  bM (bK X.prog X.w) X.A (forIn ifs ae fun c r=>if r=ae then do let ok<-isTrue c X.env (eval c X.env);pure (vj ok)else pure (vj r)) (TP X pins σ Q) X.xe s
def UB:TT:=fun _ H Q=>Q ae H
theorem Gb:PTs X [] UB:=fun _ _ _ H _ I h=>wpAny_tests_nil ⟨H,I,h⟩
theorem LP{c:Expr}{t:TT}(h:PT X c t):PTs X [c] t:=fun pins s σ H Q I hw=>wpAny_tests_one (h pins s σ H Q I hw)
end
theorem UA{α:Type}{t:Sem α}{Q Q':α->a9->Prop}{M:Gx}{A:cZ}{E:ar}{s:a9}(h:bM M A t Q (fun _ _=>False) s)(hQ:∀a s,Q a s->Q' a s):bM M A t Q' E s:=eE h hQ fun _ _ z=>fB z
theorem M1{prog:bY}{w:cX}{A:cZ}{R:Ey->a9->Prop}{s:a9}{elt target iter:Expr}{ifs:List Expr}{scope:kG}{pos:Pos}{it acc:aX}{env:Env}(I:Nat->a9->Prop)
 (turn:∀n s,I n s->bM (bK prog w) A (qH it) (fun r s₁=>match r with
  |none=>R (.ok .next) s₁
  |some v=>bM (bK prog w) A (Bh target it v) (fun _ s₁'=>bM (bK prog w) A (Sx target env v) (fun _ s₂=>
   bM (bK prog w) A (forIn ifs ae fun c r=>if r=ae then do let ok<-isTrue c env (eval c env);pure (vj ok)else pure (vj r)) (fun ok s₃=>
    if ok=ae then bM (bK prog w) A (eval elt env) (fun x s₄=>
     bM (bK prog w) A (call (.builtin "list.append") [acc,x]) (fun _ s₅=>∃m,m<n/\I m s₅) (Qq (bK prog w) A env fun e s'=>R (.error e) s') s₄) (Qq (bK prog w) A env fun e s'=>R (.error e) s') s₃
    else∃m,m<n/\I m s₃) (Qq (bK prog w) A env fun e s'=>R (.error e) s') s₂) (Qq (bK prog w) A env fun e s'=>R (.error e) s') s₁') (Qq (bK prog w) A env fun e s'=>R (.error e) s') s₁) (Qq (bK prog w) A env fun e s'=>R (.error e) s') s)
 (n:Nat)(h:I n s):
 jA (bK prog w) A (.compLoop (.ListComp elt [⟨target,iter,ifs,0⟩] scope pos) 0 it acc env) R s:=by
 refine codeAny_loop rfl I (fun n s hI=>?_) n h
 show bM _ A ((compTurn (.ListComp elt [⟨target,iter,ifs,0⟩] scope pos) 0 it acc env).onRaise (fun x=>do VZ x env;theTreesLotGoes x)) _ _ s
 refine wpAny_noted ?_
 rw[compTurn_list]
 refine aP (lU (aP (eE (turn n s hI) (fun r s₁ h₁=>?_) fun _ _ h'=>h')))
 cases r with
 |none=>exact bg h₁
 |some v=>
  refine aP (eE h₁ (fun _ s₁' h₁'=>?_) fun _ _ h'=>h')
  refine aP (eE h₁' (fun _ s₂ h₂=>aP (eE h₂ (fun ok s₃ h₃=>?_) fun _ _ h'=>h')) fun _ _ h'=>h')
  cases ok with
  |false=>exact bg ⟨rfl,h₃⟩
  |true=>
   exact aP (aP (eE h₃ (fun x s₄ h₄=>aP (eE h₄ (fun _ s₅ h₅=>bg (bg ⟨rfl,h₅⟩)) fun _ _ h'=>h')) fun _ _ h'=>h'))
section
variable{X:Cx}
def tLc(wi:TI)(g:TG)(tt:TT)(te:TE)(vs:List Nat):TE:=fun σ H Q=>wi σ H fun J H1=>∀D,H1 D=ab->∃W:Nat->Nat->Hp->Prop,(∃m,W 0 m (upd H1 D (.lst [])))/\∀i m H,W i m H->
 (J.stop i H/\Q (.ref D) H)\/(J.go i H/\∃Nx:Hp->Prop,(∀H',Nx H'->∃m',m'<m/\W (i+1) m' H')/\∀x H',J.Wh i H x H'->g x (wipe σ vs) H' fun σ2 H2=>wipe σ2 vs=wipe σ vs/\tt σ2 H2 fun b H3=>
  if b=ae then te σ2 H3 fun y H4=>∃acc,H4 D=aa (.lst acc)/\acc.length<bz/\Nx (upd H4 D (.lst (acc++[y])))else Nx H3)
theorem TH{pins:ah}{s:a9}{σ:St}{H:Hp}{Q:VK}{elt tg iter:Expr}{ifs:List Expr}{scope:kG}{own:List (Str×Nat)}{pos pos':Pos}{wi:TI}{g:TG}{tt:TT}{te:TE}{use:Option (aX->Sem Unit)}{Qf:ar}
 (hc:X.calm=ae)(hN:X.N.Nodup)(I:Inv X pins σ H s)(hi:PI X tg iter wi)(ok:Qe X.N X.env.scope scope own)
 (hg:∀(s:a9)(H:Hp)(C:Addr)(cl:ai)(fp:ag),PG (X.Nj s H scope (nu scope cl C X.env) fp) tg g)(ht:∀(s:a9)(H:Hp)(C:Addr)(cl:ai)(fp:ag),PTs (X.Nj s H scope (nu scope cl C X.env) fp) ifs tt)
 (he:∀(s:a9)(H:Hp)(C:Addr)(cl:ai)(fp:ag),PE (X.Nj s H scope (nu scope cl C X.env) fp) elt te)(hs:∀x,wX iter X.env x=pure x)
 (h:tLc wi g tt te (own.map (·.2)) σ H Q)
 (hRR:∀D C s' m H',Inv X pins σ H' s'->Q (.ref D) H'->s'.heap.Ns C m->IM X pins H' C->compPost (bK X.prog X.w) X.A X.xe use Qf (.ref D) C (.ok .next) s'):
 bM (bK X.prog X.w) X.A (comprehension (.ListComp elt [⟨tg,iter,ifs,0⟩] scope pos) scope X.env pos' (newList []) af (eval iter X.env) use) Qf X.xe s:=by
 have KU:∀y∈scope.names,y.2=.free->∃c,X.env.cells.lookup y.1=aa c:=fun y hy e=>by
  rcases ok.free y hy e with k|k
  ·exact I.ok.has _ (.inl k)
  exact I.ok.has _ (.inr k)
 refine wpAny_comprehension_free (use:=use) rfl hs (R0 KU) ok.kind (fun y hy e=>by rw[ok.uniq y hy,e])
  (ic (hi pins s σ H _ I h) fun xv s1 hx=>ic hx fun itv s2 h2=>?_)
 obtain⟨it,fp,tn,J,H2,e,I2,T,st2,f2,q⟩:=h2
 subst e
 refine j9 (O7 ?_) (by show 0<=bz;decide)
 generalize hD:s2.heap.objs.size=D
 have hDn:H2 D=ab:=I2.gx.fresh (k4 hD)
 obtain⟨W,⟨m0,w0⟩,turn⟩:=q D hDn
 generalize hs3:({s2 with heap:=s2.heap.push {cls:=.type "list",data:=.seq ([]:au).toArray}}:a9)=s3
 have I3:Inv X pins σ (upd H2 D (.lst [])) s3:=by
  rw[<-hs3];refine I2.laid (t':=s2.toks) (fun b o e=>ba _ e) (k4 hD) ⟨cC _,[],0,.nil,?_⟩;rw[<-hD];exact bI _ rfl
 have h3:s3.heap=s2.heap.push {cls:=.type "list",data:=.seq ([]:au).toArray}:=by rw[<-hs3]
 have sz:∀b∈fp,b<s2.heap.objs.size:=fun b hb=>by
  obtain⟨o,e,_⟩:=T.obj _ _ st2 b hb;exact bG e
 have f3:∀b∈fp,IM X pins (upd H2 D (.lst [])) b/\b<s3.heap.objs.size:=fun b hb=>by
  have zy:=sz b hb;refine⟨⟨?_,(f2 b hb).2⟩,by rw[h3,dB];exact eU zy⟩;rw[bB (by rw[<-hD];exact ck zy)];exact(f2 b hb).1
 have st3:tn 0 s3.heap:=T.keep _ _ _ st2 fun b _ o e=>by rw[h3];exact ba _ e
 have I4:=P4 I3 ok hN f3
 have pg:=hg s3 (upd H2 D (.lst [])) s3.heap.objs.size (f9 (s3.heap.objs.size+1) scope.names (iy X.env.cells scope.names [])) fp
 have pt:=ht s3 (upd H2 D (.lst [])) s3.heap.objs.size (f9 (s3.heap.objs.size+1) scope.names (iy X.env.cells scope.names [])) fp
 have pe:=he s3 (upd H2 D (.lst [])) s3.heap.objs.size (f9 (s3.heap.objs.size+1) scope.names (iy X.env.cells scope.names [])) fp
 show jA _ _ (.compStart (.ListComp elt [⟨tg,iter,ifs,0⟩] scope pos) 0 (.ref it) (.ref D) (nu scope (f9 (s3.heap.objs.size+1) scope.names (iy X.env.cells scope.names [])) s3.heap.objs.size X.env)) (compPost (bK X.prog X.w) X.A X.xe use Qf (.ref D) s3.heap.objs.size) {s3 with heap:=vf (s3.heap.push {cls:=.type "dict",data:=.dict #[]}) scope.names}
 have nfp:∀b∈fp,(upd H2 D (.lst [])) b=ab:=fun b hb=>(f3 b hb).1.1
 generalize hce:nu scope (f9 (s3.heap.objs.size+1) scope.names (iy X.env.cells scope.names [])) s3.heap.objs.size X.env=ce at I4 pg pt pe⊢
 have cL:ce.locals=s3.heap.objs.size:=by subst hce;rfl
 generalize Zo:upd H2 D (.lst [])=H3 at I3 I4 pg pt pe w0 nfp f3
 generalize hs4:({s3 with heap:=vf (s3.heap.push {cls:=.type "dict",data:=.dict #[]}) scope.names}:a9)=s4 at I4⊢
 have st4:tn 0 s4.heap:=T.keep _ _ _ st3 fun b _ o e=>by rw[<-hs4];exact Bg _ _ _ _ (ba _ e)
 have QT:∀{σ':St}{H':Hp}{s':a9},Inv (X.Nj s3 H3 scope ce fp) [] σ' H' s'->(∀b∈fp,H' b=ab)->∀b∈fp,IM (X.Nj s3 H3 scope ce fp) [] H' b:=fun{σ' H' s'} I' hn b hb=>
  ⟨hn b hb,(I'.ok.exf b hb).1,I'.ok.MI b hb,.inl hb,fun x c e=>(I'.ok.exf b hb).2 x c e,fun p hp=>absurd (show p∈([]:ah)++[]from hp) (by simp)⟩
 have loop:jA (bK X.prog X.w) X.A (.compLoop (.ListComp elt [⟨tg,iter,ifs,0⟩] scope pos) 0 (.ref it) (.ref D) ce) (compPost (bK X.prog X.w) X.A X.xe use Qf (.ref D) s3.heap.objs.size) s4:=by
  refine M1 (fun n s'=>∃i H',Inv (X.Nj s3 H3 scope ce fp) [] (wipe σ (own.map (·.2))) H' s'/\tn i s'.heap/\(∀b∈fp,H' b=ab)/\W i n H') ?_ m0 ⟨0,H3,I4,st4,nfp,w0⟩;rintro n s5 ⟨i,H5,I5,st5,n5,w5⟩;rcases turn i n H5 w5 with⟨stop,qq⟩|⟨go,Nx,hNx,step⟩
  ·have td:=T.done (X.Nj s3 H3 scope ce fp) rfl rfl rfl hc i [] s5 _ H5 (fun _ _=>False) I5 (QT I5 n5) st5 stop;refine UA td fun r s6 ⟨hr,I6⟩=>?_;subst hr;have I7:Inv X pins σ H5 s6:=I3.ab5 (ch:=fp) I6.os I6.base I6.gx I6.bare fun b hb=>⟨(f3 b hb).1.2.2.2.1,(f3 b hb).1.2.1,(f3 b hb).1.2.2.2.2.1,(f3 b hb).1.2.2.2.2.2⟩
   have nC:H5 s3.heap.objs.size=ab:=by
    have z:H5 ce.locals=ab:=I6.free;rw[cL]at z;exact z
   obtain⟨m,hn,_⟩:=I6.loc;have hn:s6.heap.Ns ce.locals m:=hn;rw[cL]at hn;exact hRR D s3.heap.objs.size s6 m H5 I7 qq hn (I3.Vo (bu _) nC)
  have ti:=T.item (X.Nj s3 H3 scope ce fp) rfl rfl rfl hc i [] s5 _ H5 (fun _ _=>False) I5 (QT I5 n5) st5 go;refine UA ti fun r s6 ⟨u,hr,h6⟩=>?_;subst hr;refine UA h6 fun _ s7 ⟨x,H7,I7,r7,y7,st7,n7⟩=>?_;have I7':=I7.pinned (QT I7 n7) (T.obj _ _ st7);refine UA (pg _ s7 _ H7 x u _ I7' r7 (step x H7 y7)) fun _ s8 ⟨σ8,H8,I8,hw8,q8⟩=>?_;refine UA (pt _ s8 σ8 H8 _ I8 q8) fun b s9 ⟨H9,I9,q9⟩=>?_
  have fin:∀{s':a9}{H':Hp},Inv (X.Nj s3 H3 scope ce fp) ([]++Ht fp s7.heap) σ8 H' s'->Nx H'->∃m,m<n/\∃i H',Inv (X.Nj s3 H3 scope ce fp) [] (wipe σ (own.map (·.2))) H' s'/\tn i s'.heap/\(∀b∈fp,H' b=ab)/\W i m H':=fun{s' H'} I' nx=>by
   obtain⟨m',hm,w'⟩:=hNx H' nx
   have afX:∀b∈fp,∀o,s7.heap.get? b=aa o->s'.heap.get? b=aa o/\H' b=ab:=fun b hb o e=>
    let z:=I'.pin (b,o) (dY _ (dY _ (AE hb e)))
    ⟨z.1,z.2.1⟩
   have hl:(wipe σ (own.map (·.2))).length=σ8.length:=by rw[<-hw8,wZ]
   refine⟨m',hm,i+1,H',(I'.ma (pins:=[])).weak hl (fun j v e=>?_),T.keep _ _ _ st7 fun b hb o e=>(afX b hb o e).1,fun b hb=>?_,w'⟩
   ·rw[<-hw8]at e;exact(Dl e).1
   obtain⟨o,e,_⟩:=T.obj _ _ st7 b hb;exact(afX b hb o e).2
  cases b with
  |false=>
   simp only[cD,if_false]at q9⊢;exact fin I9 q9
  |true=>
   simp only[if_true]at q9⊢;refine UA (pe _ s9 σ8 H9 _ I9 q9) fun z s10 ⟨yv,H10,I10,r10,acc,aki,ajt,nx⟩=>?_;exact aeG (X:=X.Nj s3 H3 scope ce fp) I10 aki ajt r10 fun s11 I11=>fin I11 nx
 exact codeAny_compStart_list loop (T.self X.A 0 _ _ _ st4 loop)
theorem KH{elt tg iter:Expr}{ifs:List Expr}{scope:kG}{own:List (Str×Nat)}{pos:Pos}{wi:TI}{g:TG}{tt:TT}{te:TE}(hc:X.calm=ae)(hN:X.N.Nodup)(hi:PI X tg iter wi)(ok:Qe X.N X.env.scope scope own)
 (hg:∀(s:a9)(H:Hp)(C:Addr)(cl:ai)(fp:ag),PG (X.Nj s H scope (nu scope cl C X.env) fp) tg g)(ht:∀(s:a9)(H:Hp)(C:Addr)(cl:ai)(fp:ag),PTs (X.Nj s H scope (nu scope cl C X.env) fp) ifs tt)
 (he:∀(s:a9)(H:Hp)(C:Addr)(cl:ai)(fp:ag),PE (X.Nj s H scope (nu scope cl C X.env) fp) elt te)(hs:∀x,wX iter X.env x=pure x:=by intro _;rfl):
 PE X (.ListComp elt [⟨tg,iter,ifs,0⟩] scope pos) (tLc wi g tt te (own.map (·.2))):=by
 intro pins s σ H Q I h
 rw[eval_ListComp]
 refine TH hc hN I hi ok hg ht he hs h fun D C s' m H' I' q hn f=>⟨m,hn,fun h'' sb=>?_⟩
 obtain⟨f0,f1,f2,f3,f4,f5⟩:=f
 exact⟨.ref D,H',I'.turned (t':=s'.toks) (fun b o hb e=>(sb.2 b hb).trans e) f0 f1 f3 f4 f5,rfl,q⟩
theorem Xc{i:Nat}{y:Str}{py:Pos}{elt tg iter:Expr}{ifs:List Expr}{scope:kG}{own:List (Str×Nat)}{pos afF:Pos}{wi:TI}{g:TG}{tt:TT}{te:TE}(hc:X.calm=ae)(hN:X.N.Nodup)(hy:X.N[i]?=aa y)(hyl:X.env.scope.names.lookup y=aa .local)
 (hsw:pU (.ListComp elt [⟨tg,iter,ifs,0⟩] scope pos) (aa (.Name y py)) afF.line X.env=pure ae)(hi:PI X tg iter wi)(ok:Qe X.N X.env.scope scope own)
 (hg:∀(s:a9)(H:Hp)(C:Addr)(cl:ai)(fp:ag),PG (X.Nj s H scope (nu scope cl C X.env) fp) tg g)(ht:∀(s:a9)(H:Hp)(C:Addr)(cl:ai)(fp:ag),PTs (X.Nj s H scope (nu scope cl C X.env) fp) ifs tt)
 (he:∀(s:a9)(H:Hp)(C:Addr)(cl:ai)(fp:ag),PE (X.Nj s H scope (nu scope cl C X.env) fp) elt te)(hs:∀x,wX iter X.env x=pure x:=by intro _;rfl):
 PS X (.Assign [.Name y py] (.ListComp elt [⟨tg,iter,ifs,0⟩] scope pos) afF) (ZQ (tLc wi g tt te (own.map (·.2))) (zZ i)):=by
 intro pins s σ H D I h
 rw[exec_Assign_Name_used _ _ _ _ hsw]
 refine aP (lU (aP ?_))
 show bM _ X.A (do let _<-comprehension (.ListComp elt [⟨tg,iter,ifs,0⟩] scope pos) scope X.env (firstIterPos [⟨tg,iter,ifs,0⟩] pos) (newList []) af (eval iter X.env) (aa (Sx (.Name y py) X.env))) _ _ s
 have h:tLc wi g tt te (own.map (·.2)) σ H (fun x H1=>zZ i x σ H1 D.nx):=h
 refine aP (ic (TH (Qf:=fun _ s'=>SP X pins D .next s') hc hN I hi ok hg ht he hs h fun L C s' m H' I' q hn f=>?_) fun _ s' hq=>bg (bg hq))
 show bM _ _ (Sx (.Name y py) X.env (.ref L)) _ _ _
 refine wpAny_assign_Name (Ko (v:=V.ref L) I' hN hy (.inl hyl) rfl (fun s2 I2 ⟨a,sb,ha⟩=>?_) (.inr hyl))
 obtain⟨f0,f1,f2,f3,f4,f5⟩:=f
 have haC:C≠a:=by
  rcases ha with z|z
  ·rw[z];exact f1
  exact fun e=>f4 y a z e.symm
 refine⟨m,hn.sameBut sb haC,fun h3 sb3=>?_⟩
 exact⟨_,H',I2.turned (t':=s2.toks) (fun b o hb e=>(sb3.2 b hb).trans e) f0 f1 f3 f4 f5,q⟩
theorem ZR{elt:Expr}{gs:List Comprehension}{scope:kG}{pos py:Pos}{y:Str}{l:Nat}{env:Env}(hk:env.scope.kind=.function)(hy:env.scope.names.lookup y=aa .local)(hl:(py.line==pos.line)=ae)
 (ha:(scope.names.any fun(n,k)=>n==y&&(k== .local||k== .cell))=af):pU (.ListComp elt gs scope pos) (aa (.Name y py)) l env=pure ae:=by
 have ky:env.kindOf y=aa .local:=hy
 have hb:env.blockKind=.function:=by unfold Env.blockKind;rw[hk];rfl
 unfold pU
 simp only[hb,ky,ha,Expr.pos,hl]
 rfl
end
theorem BX{K:aY}{a:Addr}{xs:ao}{g:TG}{tt:TT}{te:TE}{vs:List Nat}{σ:St}{H1:Hp}{D:Addr}{Qd:Hp->Prop}(Pv:Nat->Hp->Prop)(h0:Pv 0 (upd H1 D (.lst [])))(hl:∀i H,i<=xs.length->Pv i H->dw K H a xs)
 (hs:∀i x H,xs[i]?=aa x->Pv i H->g x (wipe σ vs) H fun σ2 H2=>wipe σ2 vs=wipe σ vs/\tt σ2 H2 fun b H3=>
  if b=ae then te σ2 H3 fun y H4=>∃acc,H4 D=aa (.lst acc)/\acc.length<bz/\Pv (i+1) (upd H4 D (.lst (acc++[y])))else Pv (i+1) H3)(hd:∀H,Pv xs.length H->Qd H):
 ∃W:Nat->Nat->Hp->Prop,(∃m,W 0 m (upd H1 D (.lst [])))/\∀i m H,W i m H->
  ((Itl K a).stop i H/\Qd H)\/((Itl K a).go i H/\∃Nx:Hp->Prop,(∀H',Nx H'->∃m',m'<m/\W (i+1) m' H')/\∀x H',(Itl K a).Wh i H x H'->g x (wipe σ vs) H' fun σ2 H2=>wipe σ2 vs=wipe σ vs/\tt σ2 H2 fun b H3=>
   if b=ae then te σ2 H3 fun y H4=>∃acc,H4 D=aa (.lst acc)/\acc.length<bz/\Nx (upd H4 D (.lst (acc++[y])))else Nx H3):=by
 refine⟨fun i m H=>m=xs.length-i/\i<=xs.length/\Pv i H,⟨xs.length,by simp,cC _,h0⟩,?_⟩
 rintro i m H ⟨rfl,hi,p⟩
 have q:=hl i H hi p
 by_cases zy:i<xs.length
 ·refine .inr ⟨⟨xs,xs[i],q,by simp[zy]⟩,Pv (i+1),fun H' p'=>⟨xs.length-(i+1),by omega,rfl,zy,p'⟩,fun x H' y=>?_⟩
  obtain⟨e,y⟩:=y
  subst e
  exact hs i x _ (y xs q) p
 have e:i=xs.length:=by omega
 subst e
 exact .inl ⟨⟨xs,q,bu _⟩,hd H p⟩
def ahh(N:ak)(sc scope:kG)(own:List (Str×Nat)):Bool:=
 (match scope.kind with|.function=>ae|_=>af)&&(scope.names.all fun y=>decide (scope.names.lookup y.1=aa y.2))&&(own.all fun p=>decide (N[p.2]?=aa p.1))&&
  (scope.names.all fun y=>match y.2 with
   |.free=>(match sc.names.lookup y.1 with|some .cell=>ae|some .free=>ae|_=>af)
   |.local=>decide (y.1∈own.map (·.1))||decide (y.1∉N)
   |.cell=>decide (y.1∈own.map (·.1))||decide (y.1∉N)
   |_=>ae)
theorem rZ{N:ak}{sc scope:kG}{own:List (Str×Nat)}(h:ahh N sc scope own=ae):Qe N sc scope own:=by
 unfold ahh at h;simp only[cM,cY,decide_eq_true_eq]at h;obtain⟨⟨⟨h1,h2⟩,h3⟩,h4⟩:=h;refine⟨?_,h2,h3,fun y hy e=>?_,fun y hy e=>?_⟩
 ·split at h1
  ·assumption
  cases h1
 ·have q:=h4 y hy;simp only[e]at q;split at q<;>first|exact .inl (by assumption)|exact .inr (by assumption)|cases q
 have q:=h4 y hy;rcases e with e|e<;>(simp only[e,yC,decide_eq_true_eq]at q;exact q)
section
variable{prog:bY}{w:cX}{A:cZ}{R:Ey->a9->Prop}{s:a9}{elt t0 i0 t1 i1:Expr}{anP anO:List Expr}{scope:kG}{pos:Pos}{it acc:aX}{env:Env}
end
section
variable{X:Cx}
end
section
variable{κ:Type}[DecidableEq κ]
def l9(ef:List (κ×V))(k:κ):Option V:=(ef.find? fun kv=>decide (kv.1=k)).map (·.2)
def putK(ef:List (κ×V))(k:κ)(v:V):List (κ×V):=
 if(ef.any fun kv=>decide (kv.1=k))=ae then ef.map (fun kv=>if kv.1=k then(kv.1,v)else kv)else ef++[(k,v)]
theorem kH{p:κ×V}{r:List (κ×V)}{k:κ}(e:p.1=k):l9 (p::r) k=aa p.2:=by simp[l9,nU,e]
theorem kJ{p:κ×V}{r:List (κ×V)}{k:κ}(e:¬p.1=k):l9 (p::r) k=l9 r k:=by simp[l9,nU,e]
theorem Bp(k:κ):∀ef:List (κ×V),(ef.any fun kv=>decide (kv.1=k))=(l9 ef k).isSome
 |[]=>rfl
 |p::r=>by
  rw[vi];by_cases e:p.1=k
  ·simp only[kH e,qk e,Bool.true_or,Uk]
  rw[kJ e,gX e,N2];exact Bp k r
theorem Ob(k j:κ)(y:V):∀ef:List (κ×V),l9 (ef.map fun kv=>if kv.1=k then(kv.1,y)else kv) j=(l9 ef j).map fun x=>if j=k then y else x
 |[]=>rfl
 |p::r=>by
  have ih:=Ob k j y r;rw[dE];by_cases h:p.1=k
  ·rw[da h];by_cases e:p.1=j
   ·rw[kH (p:=(p.1,y)) e,kH e,jH,da (e.symm.trans h)]
   rw[kJ (p:=(p.1,y)) e,kJ e,ih]
  rw[cQ h];by_cases e:p.1=j
  ·rw[kH (p:=p) e,kH e,jH,cQ (fun z=>h (e.trans z))]
  rw[kJ (p:=p) e,kJ e,ih]
theorem Kh(k j:κ)(y:V):∀ef:List (κ×V),l9 ef k=ab->l9 (ef++[(k,y)]) j=if j=k then aa y else l9 ef j
 |[],_=>by
  by_cases e:k=j
  ·rw[da e.symm];exact kH (p:=(k,y)) e
  rw[cQ (fun z=>e z.symm)];exact kJ (p:=(k,y)) e
 |p::r,hn=>by
  rw[wJ];have hk:¬p.1=k:=fun z=>by rw[kH z]at hn;cases hn
  rw[kJ hk]at hn;have ih:=Kh k j y r hn;by_cases e:p.1=j
  ·rw[kH e,kH e,cQ (fun z=>hk (e.trans z))]
  rw[kJ e,kJ e,ih]
theorem Oa(ef:List (κ×V))(k j:κ)(y:V):l9 (putK ef k y) j=if j=k then aa y else l9 ef j:=by
 unfold putK;by_cases a:(ef.any fun kv=>decide (kv.1=k))=ae
 ·rw[da a,Ob];rw[Bp]at a;by_cases e:j=k
  ·obtain⟨x,hx⟩:=mM.mp a;rw[da e,e,hx,jH,da rfl]
  rw[cQ e];cases l9 ef j with
  |none=>rfl
  |some x=>rw[jH,cQ e]
 rw[cQ a];refine Kh k j y ef ?_;rw[Bp]at a;cases q:l9 ef k with
 |none=>rfl
 |some x=>rw[q]at a;exact(a rfl).elim
theorem xZ(ef:List (κ×V))(k:κ)(v:V):(putK ef k v).length<=ef.length+1:=by
 unfold putK;split
 ·rw[aV];omega
 rw[bR,cK,List.length_nil];omega
theorem qW.uS{o:Option V}{u:Option aX}(r:qW o u):o.isSome=u.isSome:=by
 cases o with
 |none=>cases u with
  |none=>rfl
  |some _=>exact(show False from r).elim
 |some _=>cases u with
  |none=>exact(show False from r).elim
  |some _=>rfl
theorem KV.val{ef:List (κ×V)}{vs:List (κ×aX)}(r:KV ef vs)(k:κ):qW (l9 ef k) (J6 vs k):=by
 unfold KV at r;induction r with
 |nil=>exact jw
 | @cons p q ps qs h t ih=>
  obtain⟨h1,h2⟩:=h;by_cases e:p.1=k
  ·have e':q.1=k:=h1.symm.trans e;have b:J6 (q::qs) k=aa q.2:=by simp[J6,nU,e']
   rw[kH e,b];exact h2
  have e':¬q.1=k:=fun z=>e (h1.trans z);have b:J6 (q::qs) k=J6 qs k:=by simp[J6,nU,e']
  rw[kJ e,b];exact ih
theorem KV.any{ef:List (κ×V)}{vs:List (κ×aX)}(r:KV ef vs)(k:κ):(ef.any fun kv=>decide (kv.1=k))=vs.any fun kv=>decide (kv.1=k):=by
 unfold KV at r;induction r with
 |nil=>rfl
 |cons h t ih=>rw[vi,vi,ih,h.1]
theorem KV.ac6{ef:List (κ×V)}{vs:List (κ×aX)}(r:KV ef vs)(k:κ){y:V}{u:aX}(ry:RelV y u):
 KV (ef.map fun kv=>if kv.1=k then(kv.1,y)else kv) (vs.map fun kv=>if kv.1=k then(kv.1,u)else kv):=by
 unfold KV at r⊢
 induction r with
 |nil=>exact .nil
 | @cons p q ps qs h t ih=>
  rw[dE,dE]
  refine .cons ?_ ih
  obtain⟨h1,h2⟩:=h
  by_cases e:p.1=k
  ·rw[da e,da (h1.symm.trans e)];exact⟨h1,ry⟩
  rw[cQ e,cQ (fun z=>e (h1.trans z))];exact⟨h1,h2⟩
theorem KV.put{ef:List (κ×V)}{vs:List (κ×aX)}(r:KV ef vs)(k:κ){y:V}{u:aX}(ry:RelV y u):KV (putK ef k y) (stored vs k u):=by
 unfold putK stored;rw[r.any k];by_cases e:(vs.any fun kv=>decide (kv.1=k))=ae
 ·rw[da e,da e];exact r.ac6 k ry
 rw[cQ e,cQ e];exact Paired.snoc r ⟨rfl,ry⟩
theorem KV.length{ef:List (κ×V)}{vs:List (κ×aX)}(r:KV ef vs):ef.length=vs.length:=dO r
end
theorem Ic{P:bY}{w:cX}{k:Key}{u:aX}(r:RelV (kV k) u):(k5 P w).is k u=ae:=by
 cases k with
 |inl i=>obtain⟨t,e⟩:=(show∃t,u=l6 i t from r);subst e;exact Pb P w i t
 |inr x=>obtain⟨t,e⟩:=(show∃t,u=Ai x t from r);subst e;exact Pa P w x t
theorem KQ{P:bY}{w:cX}:∀{ks:List Key}{us:au},Vals (ks.map kV) us->ItemsAre (k5 P w) ks us
 |[],_,r=>by rw[E6]at r;cases r;exact .nil
 |k::ks,_,r=>by
  rw[dE]at r;cases r with
  |cons h t=>exact .cons (Ic h) (KQ t)
abbrev KT(H:Hp):List (List Key×V)->List (List Key×Addr×aX)->Prop:=fM fun p q=>p.1=q.1/\H q.2.1=aa (.tup (p.1.map kV))/\RelV p.2 q.2.2
theorem KT.val{H:Hp}{ef:List (List Key×V)}{xs:List (List Key×Addr×aX)}(r:KT H ef xs)(k:List Key):qW (l9 ef k) ((Sw xs k).map (·.2)):=by
 induction r with
 |nil=>exact jw
 | @cons p q ps qs h t ih=>
  obtain⟨h1,_,h2⟩:=h;by_cases e:p.1=k
  ·have e':q.1=k:=h1.symm.trans e;have b:Sw (q::qs) k=aa q.2:=by simp[Sw,nU,e']
   rw[kH e,b];exact h2
  have e':¬q.1=k:=fun z=>e (h1.trans z);have b:Sw (q::qs) k=Sw qs k:=by simp[Sw,nU,e']
  rw[kJ e,b];exact ih
theorem KT.ac6{H:Hp}{ef:List (List Key×V)}{xs:List (List Key×Addr×aX)}(r:KT H ef xs)(k:List Key){y:V}{u:aX}(ry:RelV y u):
 KT H (ef.map fun kv=>if kv.1=k then(kv.1,y)else kv) (xs.map (putAt k u)):=by
 induction r with
 |nil=>exact .nil
 | @cons p q ps qs h t ih=>
  rw[dE,dE]
  refine .cons ?_ ih
  obtain⟨h1,h2,h3⟩:=h
  unfold putAt
  by_cases e:p.1=k
  ·rw[da e,da (h1.symm.trans e)];exact⟨h1,h2,ry⟩
  rw[cQ e,cQ (fun z=>e (h1.trans z))];exact⟨h1,h2,h3⟩
theorem KT.put{H:Hp}{ef:List (List Key×V)}{xs:List (List Key×Addr×aX)}(r:KT H ef xs)(k:List Key){b:Addr}{y:V}{u:aX}(hb:H b=aa (.tup (k.map kV)))(ry:RelV y u):
 KT H (putK ef k y) (storedH xs k b u):=by
 have e:(ef.any fun kv=>decide (kv.1=k))=(Sw xs k).isSome:=by
  rw[Bp,(r.val k).uS,Dh]
 unfold putK storedH
 rw[e]
 by_cases q:(Sw xs k).isSome=ae
 ·rw[da q,da q];exact r.ac6 k ry
 rw[cQ q,cQ q];exact Paired.snoc r ⟨rfl,hb,ry⟩
theorem KT.keeps{H H':Hp}{ef:List (List Key×V)}{xs:List (List Key×Addr×aX)}(r:KT H ef xs)(ht:∀b ys,H b=aa (.tup ys)->H' b=aa (.tup ys)):KT H' ef xs:=
 Paired.sI r fun _ _ z=>⟨z.1,ht _ _ z.2.1,z.2.2⟩
section
variable{P:bY}{w:cX}{H:Hp}{h:Heap}{a:Addr}
theorem abL{u:HO}(ok:yq P w H h)(e:Rd H a u):jc P w H h a u:=e.ok ok
theorem PF{ef:List (Key×V)}(ok:yq P w H h)(e:Rd H a (.dK ef)):ef.length<=bz/\(a==jK)=af/\∃vs,KV ef vs/\h.DictOf (k5 P w) a vs:=
 show jc P w H h a (.dK ef)from abL ok e
theorem aha{ef:List (Key×V)}(ok:yq P w H h)(e:H a=aa (.dK ef)):ef.length<=bz/\(a==jK)=af/\∃vs,KV ef vs/\h.DictOf (k5 P w) a vs:=PF ok (.inl e)
theorem Ia{ks:List Key}(ok:yq P w H h)(e:H a=aa (.tup (ks.map kV))):(NB (k5 P w)).is h ks a:=by
 obtain⟨_,its,r,o,h1,h2,n,h3⟩:=(show jc P w H h a (.tup (ks.map kV))from ok a _ e);exact⟨o,its.toArray,n,h1,h2,h3,by simpa using KQ r⟩
theorem PD{ef:List (List Key×V)}(ok:yq P w H h)(e:Rd H a (.dT ef)):ef.length<=bz/\(a==jK)=af/\
 ∃xs,KT H ef xs/\h.DictOfH (NB (k5 P w)) a xs:=by
 obtain⟨z,y,xs,r,o,es,ep,h1,h2,h3,h4,h5⟩:=(show jc P w H h a (.dT ef)from abL ok e)
 refine⟨z,y,xs,r,o,es,ep,h1,h2,h3,h4,fun x hx=>?_,h5⟩
 have all:∀{l:List (List Key×V)}{m:List (List Key×Addr×aX)},KT H l m->∀x∈m,(NB (k5 P w)).is h x.1 x.2.1:=by
  intro l m q;induction q with
  |nil=>intro x hx;exact nomatch hx
  | @cons p q ps qs hq t ih=>
   intro x hx;rcases bQ.mp hx with e|hx
   ·subst e;exact Ia ok (by rw[<-hq.1];exact hq.2.1)
   exact ih x hx
 exact all r x hx
theorem ag9{ef:List (List Key×V)}(ok:yq P w H h)(e:H a=aa (.dT ef)):ef.length<=bz/\(a==jK)=af/\
 ∃xs,KT H ef xs/\h.DictOfH (NB (k5 P w)) a xs:=PD ok (.inl e)
end
def zC(H:Hp)(a:Addr)(y:V)(r:Option V):Prop:=
 (∃ef k,Rd H a (.dK ef)/\y=kV k/\r=l9 ef k)\/∃ef k b,Rd H a (.dT ef)/\y=.ref b/\H b=aa (.tup (k.map kV))/\r=l9 ef k
def Sk(H:Hp)(a:Addr)(y v:V)(H':Hp):Prop:=
 (∃ef k,H a=aa (.dK ef)/\y=kV k/\ef.length<bz/\H'=upd H a (.dK (putK ef k v)))\/
 ∃ef k b,H a=aa (.dT ef)/\y=.ref b/\H b=aa (.tup (k.map kV))/\ef.length<bz/\H'=upd H a (.dT (putK ef k v))
theorem zC.k{H:Hp}{a:Addr}{ef:List (Key×V)}{k:Key}(e:H a=aa (.dK ef)):zC H a (kV k) (l9 ef k):=.inl ⟨ef,k,.inl e,rfl,rfl⟩
theorem Sk.k{H:Hp}{a:Addr}{ef:List (Key×V)}{k:Key}{v:V}(e:H a=aa (.dK ef))(hl:ef.length<bz):Sk H a (kV k) v (upd H a (.dK (putK ef k v))):=.inl ⟨ef,k,e,rfl,hl,rfl⟩
section
variable{X:Cx}{pins:ah}{σ:St}{H:Hp}{s:a9}{a:Addr}{y v:V}{u r:aX}{o:Option V}{A:cZ}{E:ar}
theorem Inv.big(I:Inv X pins σ H s):jK<s.heap.objs.size:=by
 have h:cV<s.heap.objs.size:=(I.mod.glob.keeps I.bk).lt;exact mz (by decide) h
theorem VB{Q:ar}(hu:A.units+1<J8)(I:Inv X pins σ H s)(g:zC H a y (aa v))(ry:RelV y u)(h:∀w' s',Inv X pins σ H s'->RelV v w'->Q w' s'):
 bM (bK X.prog X.w) A (Qr (.ref a) u) Q E s:=by
 rcases g with⟨ef,k,e,ey,l⟩|⟨ef,k,b,e,ey,eb,l⟩
 ·subst ey
  obtain⟨z,hd,vs,rel,dd⟩:=PF I.gx e
  obtain⟨w',hw,Z2⟩:=qW.some_of (v:=v) (o:=J6 vs k) (by rw[l];exact rel.val k)
  exact wpAny_getItem_of (Ic ry) dd.mapOf hw (h w' _ (I.tok _) Z2)
 subst ey
 cases(show u=cu b from ry)
 obtain⟨z,hd,xs,rel,dd⟩:=PD I.gx e
 obtain⟨w',hw,Z2⟩:=qW.some_of (v:=v) (o:=(Sw xs k).map (·.2)) (by rw[l];exact rel.val k)
 obtain⟨p,hp,hp2⟩:=Option.map_eq_some_iff.mp hw
 refine wpAny_getItem_heap (wg hu) (Ia I.gx eb) dd hp ?_
 rw[hp2]
 exact h w' _ (I.tok _) Z2
theorem aku{Q:ar}(hu:A.units+1<J8)(I:Inv X pins σ H s)(g:zC H a y o)(ry:RelV y u)(h:∀s',Inv X pins σ H s'->Q (.bool o.isSome) s'):
 bM (bK X.prog X.w) A (jb .In u (.ref a)) Q E s:=by
 rcases g with⟨ef,k,e,ey,l⟩|⟨ef,k,b,e,ey,eb,l⟩
 ·subst ey
  obtain⟨z,hd,vs,rel,dd⟩:=PF I.gx e
  refine wpAny_in_of (Ic ry) hd dd.mapOf ?_
  rw[<-(rel.val k).uS,<-l]
  exact h _ (I.tok _)
 subst ey
 cases(show u=cu b from ry)
 obtain⟨z,hd,xs,rel,dd⟩:=PD I.gx e
 refine wpAny_in_heap (wg hu) (Ia I.gx eb) hd dd ?_
 have q:=(rel.val k).uS
 rw[Dh]at q
 rw[<-q,<-l]
 exact h _ (I.tok _)
theorem aaP{Q:ar}(hu:A.units+1<J8)(I:Inv X pins σ H s)(g:zC H a y o)(ry:RelV y u)(h:∀s',Inv X pins σ H s'->Q (.bool (!o.isSome)) s'):
 bM (bK X.prog X.w) A (jb .NotIn u (.ref a)) Q E s:=by
 rcases g with⟨ef,k,e,ey,l⟩|⟨ef,k,b,e,ey,eb,l⟩
 ·subst ey
  obtain⟨z,hd,vs,rel,dd⟩:=PF I.gx e
  refine wpAny_notIn_of (Ic ry) hd dd.mapOf ?_
  rw[<-(rel.val k).uS,<-l]
  exact h _ (I.tok _)
 subst ey
 cases(show u=cu b from ry)
 obtain⟨z,hd,xs,rel,dd⟩:=PD I.gx e
 refine wpAny_notIn_heap (wg hu) (Ia I.gx eb) hd dd ?_
 have q:=(rel.val k).uS
 rw[Dh]at q
 rw[<-q,<-l]
 exact h _ (I.tok _)
theorem T9{h':Heap}{t':Nat}{ob:HO}(I:Inv X pins σ H s)(mu:Mut (H a))(hs:kQ a s.heap h')(he:∃q,h'.get? a=aa q)(new:jc X.prog X.w (upd H a ob) h' a ob):
 Inv X pins σ (upd H a ob) {s with heap:=h',toks:=t'}:=
 I.write (x:=a) (e:=a) mu (.inl rfl) (fun b q hb z=>(hs.2 b hb).trans z) he new
theorem aex{P:bY}{w:cX}{H':Hp}{h':Heap}{ef:List (Key×V)}{vs:List (Key×aX)}(z:ef.length<=bz)(hd:(a==jK)=af)(rel:KV ef vs)(dd:h'.DictOf (k5 P w) a vs):
 jc P w H' h' a (.dK ef):=⟨z,hd,vs,rel,dd⟩
theorem Vy{H':Hp}{Q:Unit->a9->Prop}(hu:A.units+1<J8)(I:Inv X pins σ H s)(g:Sk H a y v H')(ry:RelV y u)(rv:RelV v r)(h:∀s',Inv X pins σ H' s'->Q () s'):
 bM (bK X.prog X.w) A (setItem (.ref a) u r) Q E s:=by
 rcases g with⟨ef,k,e,ey,l,eH⟩|⟨ef,k,b,e,ey,eb,l,eH⟩
 ·subst ey eH
  obtain⟨z,hd,vs,rel,dd⟩:=aha I.gx e
  have hz:vs.length<=bz:=by rw[<-rel.length];exact z
  have hl:(putK ef k v).length<=bz:=by have:=xZ ef k v;omega
  refine wpAny_setItem_pairs (hsz:=hz) (Ic ry) dd fun h' dd' hs=>h _ ?_
  have he:∃q,h'.get? a=aa q:=let⟨q,_,_,hq,_⟩:=dd';⟨q,hq⟩
  exact T9 I (by rw[e];exact jw) hs he (aex hl hd (rel.put k rv) dd')
 subst ey eH
 cases(show u=cu b from ry)
 obtain⟨z,hd,xs,rel,dd⟩:=ag9 I.gx e
 have hz:xs.length<=bz:=by rw[<-dO rel];exact z
 have hl:(putK ef k v).length<=bz:=by have:=xZ ef k v;omega
 refine wpAny_setItem_heap (hsz:=hz) (wg hu) (Ia I.gx eb) dd fun h' dd' hs=>h _ ?_
 obtain⟨q,es,ep,hq,h2,h3,h4,_,h5⟩:=dd'
 refine T9 I (by rw[e];exact jw) hs ⟨q,hq⟩ ⟨hl,hd,_,(rel.put k eb rv).keeps fun c ys ec=>?_,q,es,ep,hq,h2,h3,h4,h5⟩
 rw[bB (lE ec e (fun z=>nomatch z))]
 exact ec
end
section
variable{X:Cx}{pins:ah}{σ:St}{H:Hp}{s:a9}{a:Addr}{ef:List (Key×V)}{k:Key}{u:aX}{A:cZ}{E:ar}
end
def aeM(i:Expr):Prop:=∀ov iv,NU i af ov iv=operate [ov,iv] (Qr ov iv)
theorem SW{prog:bY}{w:cX}{A:cZ}{E:ar}{s:a9}{env:Env}{value slice:Expr}{pos:Pos}{T id:String}{Q:ar}
 (hl:AX (.type T) "__getitem__"=pure (aa (.builtin id)))(hs:aeM slice)
 (h:bM (bK prog w) A (eval value env) (fun o s₁=>bM (bK prog w) A (eval slice env) (fun i s₂=>s₂.TypeIs o T/\bM (bK prog w) A (Qr o i) Q E s₂) E s₁) E s):
 bM (bK prog w) A (eval (.Subscript value slice pos) env) Q E s:=by
 refine Ba (eE h (fun o s₁ h₁=>eE h₁ (fun i s₂ h₂=>?_) fun _ _ x=>x) fun _ _ x=>x)
 obtain⟨hT,h₂⟩:=h₂
 unfold VQ
 refine aP ?_
 rw[getitemInPython_of_ne hT.not_modules]
 refine aP (Be hT hl ?_)
 have fin:bM (bK prog w) A (NU slice af o i) (fun r s₃=>bM (bK prog w) A (letTemporaryGo value o r>>=fun _=>pure r) Q E s₃) E s₂:=by
  rw[hs o i];exact wpAny_operating (eE h₂ (fun r s₃ h₃=>aP (wpAny_letTemporaryGo (bg h₃))) fun _ _ x=>x)
 first
  |exact bg (aP fin)
  |exact aP (bg (aP fin))
  |exact aP fin
theorem PJ{X:Cx}{pins:ah}{σ:St}{H:Hp}{s:a9}{a:Addr}{y:V}{o:Option V}(I:Inv X pins σ H s)(g:zC H a y o):s.TypeIs (.ref a) "dict":=by
 rcases g with⟨ef,k,e,_,_⟩|⟨ef,k,b,e,_,_,_⟩
 ·obtain⟨_,_,vs,_,dd⟩:=PF I.gx e;exact dd.typeIs
 obtain⟨_,_,xs,_,dd⟩:=PD I.gx e;exact dd.typeIs
inductive acT(Q:VK)(x:V)(y:V)(H2:Hp):Prop
 |mk (a:_) (v:_) (_:x=.ref a) (_:zC H2 a y (aa v)) (_:Q v H2)
def afD(td ty:TE):TE:=fun σ H Q=>td σ H fun x H1=>ty σ H1 fun y H2=>acT Q x y H2
inductive afC(Q:VK)(y:V)(x:V)(H2:Hp):Prop
 |mk (a:_) (o:_) (_:x=.ref a) (_:zC H2 a y o) (_:Q (.bl o.isSome) H2)
def aix(ty td:TE):TE:=fun σ H Q=>ty σ H fun y H1=>td σ H1 fun x H2=>afC Q y x H2
inductive Ws(Q:VK)(y:V)(x:V)(H2:Hp):Prop
 |mk (a:_) (o:_) (_:x=.ref a) (_:zC H2 a y o) (_:Q (.bl (!o.isSome)) H2)
def ZO(ty td:TE):TE:=fun σ H Q=>ty σ H fun y H1=>td σ H1 fun x H2=>Ws Q y x H2
inductive ac5(D:L2.Ends)(σ:L2.St)(v:V)(x:V)(y:V)(H3:Hp):Prop
 |mk (a:_) (H4:_) (_:x=.ref a) (_:Sk H3 a y v H4) (_:D.nx σ H4)
def afN(td ty tv:TE):TS:=fun D σ H=>tv σ H fun v H1=>td σ H1 fun x H2=>ty σ H2 fun y H3=>ac5 D σ v x y H3
section
variable{X:Cx}{o i e value:Expr}{pos pos' GG:Pos}{td ty tv:TE}
theorem Tq(hu:X.A.units+1<J8)(ho:PE X o td)(hi:PE X i ty)(hs:aeM i):PE X (.Subscript o i pos) (afD td ty):=by
 intro pins s σ H Q I h;refine SW Jh.lookup hs (ic (ho pins s σ H _ I h) fun u s1 ⟨x,H1,I1,rx,q1⟩=>ic (hi pins s1 σ H1 _ I1 q1) fun iv s2 ⟨y,H2,I2,ry,a,v,ex,g,q2⟩=>?_);subst ex;obtain rfl:u=cu a:=rx;exact⟨PJ I2 g,VB hu I2 g ry fun w' s3 I3 Z2=>⟨v,H2,I3,Z2,q2⟩⟩
theorem adn(hu:X.A.units+1<J8)(hi:PE X i ty)(ho:PE X o td):PC X .In i o (aix ty td):=by
 intro pins s σ H Q I h;refine ic (hi pins s σ H _ I h) fun iv s1 ⟨y,H1,I1,ry,q1⟩=>ic (ho pins s1 σ H1 _ I1 q1) fun u s2 ⟨x,H2,I2,rx,a,ov,ex,g,q2⟩=>?_;subst ex;obtain rfl:u=cu a:=rx;exact aku hu I2 g ry fun s3 I3=>⟨.bl ov.isSome,H2,I3,rfl,q2⟩
theorem DL(hu:X.A.units+1<J8)(hi:PE X i ty)(ho:PE X o td):PC X .NotIn i o (ZO ty td):=by
 intro pins s σ H Q I h;refine ic (hi pins s σ H _ I h) fun iv s1 ⟨y,H1,I1,ry,q1⟩=>ic (ho pins s1 σ H1 _ I1 q1) fun u s2 ⟨x,H2,I2,rx,a,ov,ex,g,q2⟩=>?_;subst ex;obtain rfl:u=cu a:=rx;exact aaP hu I2 g ry fun s3 I3=>⟨.bl (!ov.isSome),H2,I3,rfl,q2⟩
theorem LQ(hu:X.A.units+1<J8)(ho:PE X o td)(hi:PE X i ty)(hv:PE X value tv)(hs:pU value (aa (.Subscript o i pos')) pos.line X.env=pure af):
 PS X (.Assign [.Subscript o i pos'] value pos) (afN td ty tv):=by
 intro pins s σ H D I h
 refine wpAny_Assign_Subscript (ic (hv pins s σ H _ I h) fun r s1 ⟨v,H1,I1,rv,q1⟩=>ic (ho pins s1 σ H1 _ I1 q1) fun u s2 ⟨x,H2,I2,rx,q2⟩=>ic (hi pins s2 σ H2 _ I2 q2) fun iv s3 ⟨y,H3,I3,ry,a,H4,ex,g,q3⟩=>?_) hs
 subst ex
 obtain rfl:u=cu a:=rx
 exact Vy hu I3 g ry rv fun s4 I4=>⟨σ,H4,I4,q3⟩
end
theorem Yu{P:bY}{w:cX}{H:Hp}(h:Heap)(hb:jK<h.objs.size):jc P w H (h.push {cls:=.type "dict",data:=.dict #[]}) h.objs.size (.dK []):=
 ⟨cC _,beq_eq_false_iff_ne.mpr (dh (ck hb)),[],.nil,Heap.DictOf.new h⟩
def acS:TE:=fun _ H Q=>∀p,H p=ab->Q (.ref p) (upd H p (.dK []))
section
variable{X:Cx}{pos:Pos}
theorem BF:PE X (.Dict [] [] pos) acS:=fun pins s σ H Q I h=>
 wpAny_Dict_empty ⟨.ref s.heap.objs.size,_,I.laid (a:=s.heap.objs.size) (o:=.dK []) (t':=s.toks) (fun _ _ q=>ba _ q) (bu _) (Yu s.heap I.big),rfl,h _ (I.gx.fresh (bu _))⟩
end
section
variable{X:Cx}{pins:ah}{σ:St}{H:Hp}{s:a9}{a:Addr}{y d:V}{u r:aX}{o:Option V}{A:cZ}{E:ar}
end
section
variable{X:Cx}{o e f:Expr}{apos M0:Pos}{td ty tx:TE}
end
section
variable{X:Cx}{pins:ah}{σ:St}{H:Hp}{s:a9}{a:Addr}{ef:List (Key×V)}{A:cZ}{E:ar}
end
section
variable{X:Cx}{pins:ah}{σ:St}{H:Hp}{s:a9}{a:Addr}{y:V}{u:aX}{A:cZ}{E:ar}
end
section
variable{prog:bY}{w:cX}{A:cZ}{E:ar}
end
section
variable{X:Cx}
end
section
variable{X:Cx}{pins:ah}{σ:St}{H:Hp}{s:a9}{h':Heap}
theorem Inv.Ki{t':Nat}{ch:ag}{T:Addr}{ob:HO}(I:Inv X pins σ H s)(k:∀b o,b∉ch->s.heap.get? b=aa o->h'.get? b=aa o)(hf:∀b∈ch,IM X pins H b)(hT:s.heap.objs.size<=T)
 (new:jc X.prog X.w (upd H T ob) h' T ob):Inv X pins σ (upd H T ob) {s with heap:=h',toks:=t'}:=by
 have hn:H T=ab:=I.gx.fresh hT
 have nit:∀b u,H b=aa u->b∉ch:=fun b u e z=>by
  have q:=(hf b z).1;rw[q]at e;cases e
 refine I.step (g':=s.gens) (d':=s.drawn) (ch:=ch) (fun b hb=>⟨(hf b hb).2.2.2.1,(hf b hb).2.1,(hf b hb).2.2.2.2.1,(hf b hb).2.2.2.2.2⟩) (fun b o _ _ hc e _=>k b o hc e) (fun b o _ _ hc e _=>⟨o.slots,k b o hc e⟩)
  (fun b o _ e n=>?_) (fun b o hc e=>⟨o,k b o hc e⟩) (fun b xs e=>?_) (fun b o u e=>?_) (fun b ps e=>⟨#[],?_⟩) (fun m hm=>?_) (fun b u e=>?_) I.bare
 ·rw[bB (ck (bJ (bG e) hT))];exact n
 ·rw[bB (bP e hn)];exact e
 ·rw[bB (bP e hn)];exact e
 ·rw[bB (bP e hn),e];simp
 ·obtain⟨o,es,ep,ho,r⟩:=hm
  exact⟨o,es,ep,k _ o (fun z=>(hf _ z).2.1 rfl) ho,r⟩
 by_cases hb:b=T
 ·subst hb
  rw[bf]at e
  cases e
  exact new
 rw[bB hb]at e
 refine(I.gx b u e).tM (fun c v hc q=>k c v ?_ q) (fun c q=>by rw[bB (bP q hn)];exact q) fun c xs q=>by rw[bB (bP q hn)];exact q
 rcases hc with z|z
 ·rw[z];exact nit b u e
 exact nit c _ z
end
section
variable{X:Cx}
theorem Xg{tg:Expr}{pins:ah}{σ:St}{H:Hp}{s:a9}{R:It->Hp->Prop}{J:It}{tn:Nat->Heap->Prop}{tk:Nat}(I:Inv X pins σ H s)(o:Obj)
 (T:Turn X.prog X.w X.K tg J [s.heap.objs.size] s.heap.objs.size tn)(st:tn 0 (s.heap.push o))(q:R J H):PIE X pins σ tg R (.ref s.heap.objs.size) {s with heap:=s.heap.push o,toks:=tk}:=by
 refine⟨s.heap.objs.size,[s.heap.objs.size],tn,J,H,rfl,I.kept fun b ob e=>ba _ e,T,st,fun b hb=>?_,q⟩
 have e:b=s.heap.objs.size:=by simpa using hb
 subst e
 exact I.Vo (bu _) (I.gx.fresh (bu _))
end
section
variable{X:Cx}{tg:Expr}
end
section
variable{X:Cx}{tg:Expr}
end
def Its(x:Str):It:=⟨fun i _=>i<x.cps.size,fun i H v H'=>H'=H/\∃c,x.cps[i]?=aa c/\v=.str ⟨#[c]⟩,fun i _=>x.cps.size<=i⟩
theorem Od{P:bY}{w:cX}{K:aY}{tg:Expr}(it:Addr)(x:Str)(t:Tok)(ty:String)(hty:ty="str_ascii_iterator"\/ty="str_iterator"):
 Turn P w K tg (Its x) [it] it (fun i h=>h.IsStrIter it ty x t i) where
 mem:=by simp
 obj:=fun i h st b hb=>by
  have e:b=it:=by simpa using hb
  subst e;obtain⟨o,e,c,d⟩:=st;exact⟨o,e,fun v z=>by rw[d]at z;cases z⟩
 keep:=fun i h h' st k=>let⟨o,ho,r⟩:=st;⟨o,k it (by simp) o ho,r⟩
 item:=by
  intro X hP hw hK hc i pins s σ H E I hf st hg;subst hP hw hK;obtain⟨f0,f1,f2,f3,f4,f5⟩:=hf it (by simp)
  have W:Walks X.prog X.w X.A it [it] [it] x.cps.size (SignAt x) (fun i h=>h.IsStrIter it ty x t i):=by
   rcases hty with e|e
   ·rw[e];exact Walks.strAscii (I.ok.hd hc) it x t
   rw[e];exact Walks.strWide (I.ok.hd hc) it x t
  have hno:["enumerate","zip","dict_itemiterator","dict_reverseitemiterator","odict_iterator","itertools.zip_longest","itertools.pairwise"].contains ty=af:=by
   rcases hty with e|e
   ·rw[e];decide
   rw[e];decide
  refine W.item i s _ _ hg st fun v h' tk hv GQ kk=>?_;obtain⟨c,u,hcx,rfl⟩:=hv;have I1:Inv X pins σ H {s with heap:=h',toks:=tk}:=I.turned (fun b o hb e=>kk b o (by simpa using hb) e) f0 f1 f3 f4 f5;obtain⟨oi,e,cc,dd⟩:=id GQ;exact⟨_,rfl,Yj (s:={s with heap:=h',toks:=tk}) e cc dd hno ⟨.str ⟨#[c]⟩,H,I1,⟨u,rfl⟩,⟨rfl,c,hcx,rfl⟩,GQ,fun b hb=>(hf b hb).1⟩⟩
 done:=by
  intro X hP hw hK hc i pins s σ H E I hf st hg;subst hP hw hK;obtain⟨f0,f1,f2,f3,f4,f5⟩:=hf it (by simp);have hx:x.cps[i]?=ab:=Array.getElem?_eq_none hg;rcases hty with e|e
  ·rw[e]at st;exact wpAny_pyNext_ascii_end (I.ok.hd hc) st hx fun h' eb=>⟨rfl,I.turned (t':=s.toks) (fun b o hb e=>eb b o hb e) f0 f1 f3 f4 f5⟩
  rw[e]at st;exact wpAny_pyNext_wide_end (I.ok.hd hc) st hx fun h' eb=>⟨rfl,I.turned (t':=s.toks) (fun b o hb e=>eb b o hb e) f0 f1 f3 f4 f5⟩
 self:=fun A i s Q E st h=>by
  rcases hty with e|e
  ·rw[e]at st;exact wpAny_pyIter_striter_ascii st h
  rw[e]at st;exact wpAny_pyIter_striter_wide st h
inductive agp(R:L2.It->Hp->Prop)(v:V)(H1:Hp):Prop
 |mk (x:_) (_:v=.str x) (_:R (Its x) H1)
def ajr(te:TE):TI:=fun σ H R=>te σ H fun v H1=>agp R v H1
theorem adf{X:Cx}{tg e:Expr}{te:TE}(he:PE X e te):PI X tg e (ajr te):=by
 intro pins s σ H R I h;refine ic (he pins s σ H _ I h) fun v s1 ⟨y,H1,I1,r1,x,ex,q⟩=>?_;subst ex;obtain⟨t,rfl⟩:=r1;cases ha:x.cps.all (· <128)
 ·exact wpAny_pyIter_wide ha (Xg (tk:=s1.toks) I1 _ (Od _ x t "str_iterator" (.inr rfl)) ⟨_,bI _ rfl,rfl,rfl⟩ q)
 exact wpAny_pyIter_ascii ha (Xg (tk:=s1.toks) I1 _ (Od _ x t "str_ascii_iterator" (.inl rfl)) ⟨_,bI _ rfl,rfl,rfl⟩ q)
section
variable{prog:bY}{w:cX}{A:cZ}{E:ar}{s:a9}
end
section
variable{X:Cx}{pins:ah}{σ:St}{H:Hp}{s:a9}{d:Addr}{o:Obj}
end
section
variable{P:bY}{w:cX}{K:aY}{tg:Expr}{d:Addr}{o:Obj}{es:Array DictEntry}{ep:Nat}
end
section
variable{X:Cx}{tg e:Expr}{td:TE}{apos M0:Pos}
end
def Ite(K:aY)(a:Addr):It:=
 ⟨fun i H=>∃(xs:ao)(x:V),dw K H a xs/\xs[i]?=aa x,fun i H v H'=>∃T x,v=.ref T/\H T=ab/\H'=upd H T (.tup [.int (i:Nat),x])/\∀xs,dw K H a xs->xs[i]?=aa x,fun i H=>∃xs:ao,dw K H a xs/\xs.length<=i⟩
theorem Ux{P:bY}{w:cX}{K:aY}{elts:List Expr}{kk:Nat}{GG:Pos}(a e it:Addr):
 Turn P w K (.Tuple elts kk GG) (Ite K a) [e,it] e (fun i h=>(∃old,IsEnum h e it ((i:Nat):Int) old)/\h.IsListIter it a i/\e≠it) where
 mem:=by simp
 obj:=fun i h st b hb=>by
  obtain⟨⟨old,he⟩,⟨o,ho,hc,hd⟩,_⟩:=st;have e':b=e\/b=it:=by simpa using hb
  rcases e' with z|z
  ·rw[z];exact⟨_,he,fun v q=>nomatch q⟩
  rw[z];exact⟨o,ho,fun v q=>by rw[hd]at q;cases q⟩
 keep:=fun i h h' st k=>let⟨⟨old,he⟩,hi,Il⟩:=st;⟨⟨old,k e (by simp) _ he⟩,hi.at fun o q=>k it (by simp) o q,Il⟩
 item:=by
  intro X hP hw hK hc i pins s σ H E I hf st hg;subst hP hw hK;obtain⟨⟨old,he⟩,hit,Il⟩:=st;obtain⟨xs,x,hq,hx⟩:=hg;obtain⟨its,rv,p,hz⟩:=I.list hq;obtain⟨u,hu,ru⟩:=rv.get hx;have hel:e<s.heap.objs.size:=bG he;have hil:it<s.heap.objs.size:=by obtain⟨_,q,_⟩:=hit;exact bG q
  refine wpAny_pyNext_enum_item he hit p.isList (x:=u) (by simpa using hu) Il fun h' ho ad7 hT hsz hk=>?_;refine⟨_,rfl,Sm (s:={s with heap:=h',toks:=s.toks+1}) ho fun h'' he' sb=>?_⟩;have hT2:h''.get? s.heap.objs.size=aa {cls:=.type "tuple",data:=.seq #[.int i s.toks,u]}:=(sb.2 _ (dm hel)).trans hT
  have new:jc X.prog X.w (upd H s.heap.objs.size (.tup [.int (i:Nat),x])) h'' s.heap.objs.size (.tup [.int (i:Nat),x]):=
   ⟨by show 2<=bz;decide,[.int i s.toks,u],.cons ⟨_,rfl⟩ (.cons ru .nil),⟨_,hT2,rfl,_,rfl⟩⟩
  have I1:Inv X pins σ (upd H s.heap.objs.size (.tup [.int (i:Nat),x])) {s with heap:=h'',toks:=s.toks+1}:=
   I.Ki (ch:=[e,it]) (fun b ob hb q=>(sb.2 b (fun z=>hb (by simp[z]))).trans (hk b ob (fun z=>hb (by simp[z])) (fun z=>hb (by simp[z])) q)) hf (bu _) new
  refine⟨.ref s.heap.objs.size,_,I1,rfl,⟨_,x,rfl,I.gx.fresh (bu _),rfl,fun ys hy=>by rw[I.HX hy hq];exact hx⟩,⟨⟨u,?_⟩,ad7.at fun o q=>(sb.2 it (dh Il)).trans q,Il⟩,fun b hb=>?_⟩
  ·have e1:((i+1:Nat):Int)=(i:Int)+1:=by omega
   rw[e1];exact he'
  have Po:b<s.heap.objs.size:=by
   have e':b=e\/b=it:=by simpa using hb
   rcases e' with z|z
   ·rw[z];exact hel
   rw[z];exact hil
  rw[bB (ck Po)];exact(hf b hb).1
 done:=by
  intro X hP hw hK hc i pins s σ H E I hf st hg;subst hP hw hK;obtain⟨⟨old,he⟩,hit,Il⟩:=st;obtain⟨xs,hq,hx⟩:=hg;obtain⟨its,rv,p,hz⟩:=I.list hq;obtain⟨f0,f1,f2,f3,f4,f5⟩:=hf it (by simp);have hl:=rv.length;exact wpAny_pyNext_enum_end (I.ok.hd hc) he hit p.isList (by simp;omega) fun h' eb=>⟨rfl,I.turned (t':=s.toks) (fun b o hb q=>eb b o hb q) f0 f1 f3 f4 f5⟩
 self:=fun A i s Q E st h=>let⟨⟨_,he⟩,_⟩:=st;wV he h
inductive adU(K:aY)(R:L2.It->Hp->Prop)(vs:ao)(H1:Hp):Prop
 |mk (a:_) (xs:_) (_:vs=[.ref a]) (_:dw K H1 a xs) (_:R (Ite K a) H1)
def agt(K:aY)(ta:TA):TI:=fun σ H R=>ta σ H fun vs H1=>adU K R vs H1
theorem pN{X:Cx}{e:Expr}{ta:TA}{p pos GG:Pos}{elts:List Expr}{kk:Nat}(hg:Gl X "enumerate")(hm:X.mg "enumerate"=ab)(ha:PA X [e] ta)(hs:bX [e] X.env=[(af,eval e X.env)]:=by rfl):
 PI X (.Tuple elts kk GG) (.Call (.Name "enumerate" p) [e] [] pos) (agt X.K ta):=by
 intro pins s σ H R I h
 refine Call_ (rQ I hg hm boot_enumerate (kE (ic (ha pos pins s σ H _ I h) fun us s1 ⟨vs,H1,I1,r1,q1⟩=>?_) hs rfl))
 obtain⟨a,xs,ex,hq,q⟩:=q1
 subst ex
 cases r1 with
 |cons r rr=>
  cases rr
  cases r
  obtain⟨its,rv,p',hz⟩:=I1.list hq
  refine call_enumerate_list p'.isList fun h' he hit hsz hk=>wV he ?_
  have I2:Inv X pins σ H1 {s1 with heap:=h'}:=I1.kept (t':=s1.toks) hk
  refine⟨s1.heap.objs.size+1,[s1.heap.objs.size+1,s1.heap.objs.size],_,_,H1,rfl,I2,Ux a (s1.heap.objs.size+1) s1.heap.objs.size,⟨⟨.none,he⟩,hit,Nat.succ_ne_self _⟩,fun b hb=>?_,q⟩
  have e':b=s1.heap.objs.size+1\/b=s1.heap.objs.size:=by simpa using hb
  have hle:s1.heap.objs.size<=b:=by
   rcases e' with z|z
   ·rw[z];exact iH _ _
   rw[z];exact bu _
  exact I1.Vo hle (I1.gx.fresh hle)
theorem VG:ip "zip"=aa (.type "zip"):=by decide+kernel
end L2
section
namespace akH
open PySem PyProof.Rows
end akH
end
section
namespace TL
open PySem PySem.Builtin PySem.Builtin.Str PySem.StrLaws
abbrev tl(x:Str):List Nat:=x.cps.toList
theorem Kk(x y:Str):tl (x++y)=tl x++tl y:=by
 show(x++y).cps.toList=_;rw[Str.cps_append,Bc]
def mw(S:List Nat):List (List Nat)->List Nat
 |[]=>[]
 |[p]=>p
 |p::q::r=>p++(S++mw S (q::r))
theorem F0(y:Str):∀parts:ak,tl (pG y parts)=mw (tl y) (parts.map tl)
 |[]=>rfl
 |[_]=>rfl
 |x::z::r=>by
  show tl (x++y++pG y (z::r))=tl x++(tl y++mw (tl y) ((z::r).map tl));rw[Kk,Kk,F0 y (z::r),de]
theorem join_eq(y:Str)(parts:ak):qY y parts=pG y parts:=glued_eq_join y parts
end TL
end
namespace L2
open PySem PySem.Spec PyProof.Rows
theorem vn:∀{ys:ak}{us:au},Vals (ys.map V.str) us->StrsAre us ys
 |[],_,.nil=>.nil
 |y::ys,_,.cons r t=>by
  obtain⟨k,rfl⟩:=r;exact .cons y k (vn t)
section
variable{X:Cx}{pins:ah}{σ:St}{H:Hp}{s:a9}{Q:VK}
end
section
variable{X:Cx}
theorem aar:MtR X "str.join" (fun x xs H Q=>∃a p,∃ys:ak,x=.str a/\xs=[.ref p]/\(dw X.K H p (ys.map V.str)\/wF X.K H p (ys.map V.str))/\
 (ys.map (·.length)).sum+ys.length*a.length<=16777216/\Q (.str (qY a ys)) H):=by
 intro pins s σ H x xs v us Q I rx rs h
 obtain⟨a,p,ys,rfl,rfl,hp,hz,h⟩:=h
 obtain⟨t,rfl⟩:=rx
 cases rs with
 |cons r1 rs=>
  cases rs
  cases r1
  rcases hp with hp|hp
  ·obtain⟨its,r,⟨o,n,ho,hc,_,hd⟩,_⟩:=I.list hp
   exact PyProof.Rows.join_list (items:=its.toArray) ⟨o,ho,hc,n,hd⟩ (by rw[Bk];exact vn r) hz fun t' k=>⟨.str _,H,I.tok k,⟨t',rfl⟩,h⟩
  obtain⟨its,r,ht,_⟩:=I.tuple hp
  exact PyProof.Rows.join_tuple (items:=its.toArray) ht (by rw[Bk];exact vn r) hz fun t' k=>⟨.str _,H,I.tok k,⟨t',rfl⟩,h⟩
end
section
variable{X:Cx}{o e:Expr}{to te:TE}
def tM1(r:V->ao->Hp->VK->Prop)(to te:TE):TE:=fun σ H Q=>to σ H fun x H1=>(∃a,x=.str a)/\te σ H1 fun y H2=>r x [y] H2 Q
theorem afZ{id:String}{name:Str}{apos pos:Pos}{r:V->ao->Hp->VK->Prop}(slot:Slot "str" name id)(ty:NA (.builtin id)=pure (.type "method_descriptor"))(rule:MtR X id r)(ho:PE X o to)(he:PE X e te)
 (hs:bX [e] X.env=[(af,eval e X.env)]:=by rfl)(Pn:sA o name X.env (eval o X.env)=eval o X.env:=by rfl)(Pj:(apos.endLine==pos.line)=ae:=by rfl):
 PE X (.Call (.Attribute o name apos) [e] [] pos) (tM1 r to te):=by
 intro pins s σ H Q I h
 refine PySem.Call_method1 Pn hs Pj (ic (ho pins s σ H _ I h) fun v s1 ⟨x,H1,I1,r1,q1⟩=>?_)
 obtain⟨⟨a,rfl⟩,q1⟩:=q1
 obtain⟨t,rfl⟩:=_root_.id r1
 refine⟨"str",_,F.plainAttrs_str,slot,ty,typeIs_str _ _ _,(fun _ e=>nomatch e),Qk rfl (zH (iA ?_))⟩
 exact ic (he pins s1 σ H1 _ I1 q1) fun u s2 ⟨y,H2,I2,r2,q2⟩=>jM (rule pins s2 σ H2 _ [y] _ [u] Q I2 r1 (.cons r2 .nil) q2)
theorem LR{apos pos:Pos}(ho:PE X o to)(he:PE X e te)(hs:bX [e] X.env=[(af,eval e X.env)]:=by rfl)(Pn:sA o "join" X.env (eval o X.env)=eval o X.env:=by rfl)(Pj:(apos.endLine==pos.line)=ae:=by rfl):
 PE X (.Call (.Attribute o "join" apos) [e] [] pos) (tM1 (fun x xs H Q=>∃a p,∃ys:ak,x=.str a/\xs=[.ref p]/\(dw X.K H p (ys.map V.str)\/wF X.K H p (ys.map V.str))/\
  (ys.map (·.length)).sum+ys.length*a.length<=16777216/\Q (.str (qY a ys)) H) to te):=
 afZ F.slot_str_join F.type_str_join aar ho he hs Pn Pj
end
section
variable{X:Cx}
end
end L2
namespace Att
open PySem PySem.W PySem.Calls PyProof.Rows
section
variable{prog:bY}{w:cX}{A:cZ}{E:ar}{s:a9}{K:Frag}
end
end Att
namespace L2
open PySem PySem.Spec PyProof.Rows
def inClass(s:Stmt)(j:Nat):Stmt:=match s with
 |.ClassDef _ _ _ body _ _ _ _ _ _ _=>body.getD j (.Pass ⟨0,0,0,0⟩)
 |_=>.Pass ⟨0,0,0,0⟩
def mJ(s:Stmt):vk:=match s with
 |.FunctionDef _ a _ _ _ _ _ _ _ _=>a
 |_=>{posonlyargs:=[],args:=[],vararg:=ab,kwonlyargs:=[],kw_defaults:=[],kwarg:=ab,defaults:=[]}
def jY(s:Stmt):List Stmt:=match s with
 |.FunctionDef _ _ b _ _ _ _ _ _ _=>b
 |_=>[]
def bA(s:Stmt):kG:=match s with
 |.FunctionDef _ _ _ _ _ _ sc _ _ _=>sc
 |_=>{kind:=.function,names:=[],isGenerator:=af,isCoroutine:=af}
abbrev eM:Qp:=fun _ _ _ _ _ _=>False
abbrev E0:XK:=fun _ _ _=>False
theorem rO{X:Cx}:Passes eM X E0:=fun _ _ _ _ _ _ _ h=>h.elim
structure iG(K:aY)(x qual:Str)(st:Stmt)(f:Addr)(fd:bC):Prop where
 ex:∃(oc:aX)(od:Option Addr)(kV doc pm:aX)(an:Option Addr)(fz ct:aX)(Xs:Array (Option aX)),
  fd=gQ x qual (mJ st) (jY st) (bA st) .none kV doc pm an fz ct/\K.lookup f=aa ⟨oc,od,.func fd,Xs⟩/\IZ K fz qual=ae
 kp:jg K (.ref f)=ae
section
variable{P:bY}{w:cX}{K:aY}{mg:aj}{base:Heap}
theorem iG.ok{x qual:Str}{st:Stmt}{f:Addr}{fd:bC}{N ps:ak}{k:Nat}{sp:Sp}(F:iG K x qual st f fd)(S:bV N ps (bA st))
 (Im:∀(fz:aX)(A:cZ)(outer:List Env)(s:a9)(H:Hp)(vs:ao)(Q:VK)(E:XK),gG k (A.deeper (AY qual (bA st) s.heap.objs.size f fz))->sp vs H Q E->
  ∃t,Nt (MY eM P w K mg base N qual (bA st) f fz A outer s H E).nox (jY st) t/\t {nx:=fun _ H'=>Q .j7 H',rt:=Q} (start N vs) H)(len:∀vs H Q E,sp vs H Q E->vs.length=ps.length:=by intro _ _ _ _ h;cases h;first|(subst_vars;rfl)|(rename_i h;cases h.1;rfl)):dy P w K mg base eM (k+1) f fd ps sp:=by
 obtain⟨oc,od,kV,doc,pm,an,fz,ct,Xs,rfl,lk,NS⟩:=F.ex
 refine Yn lk NS S len fun A outer s H vs Q E hr VW=>?_
 obtain⟨t,h,q⟩:=Im fz A outer s H vs Q E hr VW
 exact⟨t,h.nox,q⟩
theorem iG.binds{x qual:Str}{st:Stmt}{f:Addr}{fd:bC}{ps:ak}(F:iG K x qual st f fd)
 (h:∀(kV doc pm:aX)(an:Option Addr)(fz ct:aX)(us:au),us.length=ps.length->oR (gQ x qual (mJ st) (jY st) (bA st) .none kV doc pm an fz ct) ⟨us,[]⟩=pure (ps.zip us)):Binds K fd ps []:=by
 obtain⟨oc,od,kV,doc,pm,an,fz,ct,Xs,rfl,lk,NS⟩:=F.ex
 exact .all (h kV doc pm an fz ct)
theorem aep{x qual:Str}{st:Stmt}{f:Addr}{oc:aX}{od an:Option Addr}{Xs:Array (Option aX)}{kV doc pm fz ct:aX}(l:K.lookup f=aa ⟨oc,od,.func (gQ x qual (mJ st) (jY st) (bA st) .none kV doc pm an fz ct),Xs⟩)
 (c:IZ K fz qual=ae)(k:jg K (.ref f)=ae):iG K x qual st f (gQ x qual (mJ st) (jY st) (bA st) .none kV doc pm an fz ct):=⟨⟨oc,od,kV,doc,pm,an,fz,ct,Xs,rfl,l,c⟩,k⟩
end
theorem Ph{A:cZ}{k:Nat}(hr:gG k A):A.units+1<J8:=oF (Nat.add_le_add_left (by decide:1<=64) _) hr.units
section
variable{X:Cx}
theorem pv(i:Nat){x:Str}{pos:Pos}(hN:X.N[i]?=aa x:=by rfl)(hv:Vis X.env.scope x:=by first|exact ux rfl|exact ZC (ux rfl)|exact ZC (ZC rfl))(hd:(x==("__debug__":Str))=af:=by decide)
 (NS:(x==("__classdict__":Str))=af:=by decide):PE X (.Name x pos) (Am i):=adg hN hv hd NS
end
theorem cE{A B:Prop}(h:B):if af=ae then A else B:=by
 rw[cQ cB];exact h
theorem dM{A B:Prop}(h:A):if ae=ae then A else B:=by
 rw[da rfl];exact h
def bH(H H':Hp):Prop:=∀b o,H b=aa o->H' b=aa o
theorem bH.refl(H:Hp):bH H H:=fun _ _ h=>h
theorem bH.trans{H H1 H2:Hp}(a:bH H H1)(b:bH H1 H2):bH H H2:=fun c o h=>b c o (a c o h)
theorem bH.free{H H':Hp}(e:bH H H'){l:Addr}(h:H' l=Option.none):H l=Option.none:=by
 cases q:H l with
 |none=>rfl
 |some o=>
  rw[e l o q]at h;cases h
theorem bH.seq{K:aY}{H H':Hp}{a:Addr}{xs:ao}(e:bH H H')(h:dw K H a xs):dw K H' a xs:=by
 rcases h with(h|⟨o,h⟩)|h
 ·exact .inl (.inl (e _ _ h))
 ·exact .inl (.inr ⟨o,e _ _ h⟩)
 exact .inr h
section
variable{κ:Type}[DecidableEq κ]
end
theorem at_of{xs:ao}{z:Int}{j:Nat}{v:V}(e:z=(j:Int))(h:xs[j]?=aa v):Zq xs z=aa v:=by
 rw[e];exact tH h
end L2
end
section
namespace L2
open PySem PySem.Spec PyProof.Rows
section
variable{X:Cx}
theorem jB(i:Nat){x:Str}{e:Expr}{te:TE}{pos pos':Pos}(hN:X.N.Nodup)(he:PE X e te)(hi:X.N[i]?=aa x:=by rfl)(hx:Loc X.env.scope x:=by exact .inl rfl)(hs:pU e (aa (.Name x pos')) pos.line X.env=pure af:=by rfl)(hf:X.fn x=ae\/X.env.scope.names.lookup x=aa .local:=by first|exact .inl rfl|exact .inr rfl|assumption):PS X (.Assign [.Name x pos'] e pos) (ZQ te (zZ i)):=Q5 hN hi hx he hs hf
theorem o3(i:Nat){x:Str}{pos:Pos}(hN:X.N.Nodup)(hi:X.N[i]?=aa x:=by rfl)(hx:Loc X.env.scope x:=by exact .inl rfl)(hf:X.fn x=ae\/X.env.scope.names.lookup x=aa .local:=by first|exact .inl rfl|exact .inr rfl|assumption):PG X (.Name x pos) (zZ i):=aaa hN hi hx hf
end
end L2
end
section
namespace XL
open PySem PySem.W PySem.Calls PyProof.Rows Builtin Builtin.ObjectAttr
def Cq:au->au
 |.ref _::r=>Cq r
 |l=>l
abbrev MJ:au:=[.type "Exception",.type "BaseException",.type "object"]
theorem Z4(self:aX):refuseLoop self "__setattr__" MJ=pure ():=by kernel_rfl
theorem Td(self:aX)(acz:Str):∀l:au,refuseLoop self acz l=refuseLoop self acz (Cq l)
 |[]=>rfl
 |.ref c::r=>by rw[refuseLoop_ref,Td self acz r];rfl
 |.none::_=>rfl
 |.bool _::_=>rfl
 |.int _ _::_=>rfl
 |.float _ _::_=>rfl
 |.str _ _::_=>rfl
 |.bytes _ _::_=>rfl
 |.type _::_=>rfl
 |.builtin _::_=>rfl
 |.ellipsis::_=>rfl
 |.notImplemented::_=>rfl
def qc(K:Frag)(C f:Addr):Bool:=match K.lookup C with
 |some ⟨_,_,.cls cd,sl⟩=>
  !cd.hasDel&&(sl.toList[4]?).join==aa (.builtin "Exception.__new__")&& !cd.mro.isEmpty
   &&cd.mro.contains (.ref C)&&cd.mro.contains (.type "Exception")&&cd.mro.contains (.type "BaseException")
   && !cd.mro.contains (.type "AttributeError")&& !cd.mro.contains (.type "NameError")&& !cd.mro.contains (.type "tuple")
   &&cd.hasDict&&Cq cd.mro==MJ&&cd.mro.contains (.type "object")&&specialIn K (.ref C) "__call__"==aa (aa (.builtin "type.__call__"))
   &&instIn K (.ref C) (.type "type")==aa ae&&typeIn K (.ref C)==aa (.type "type")
   &&findIn K (.ref C) "__init__"==aa (aa (.ref f))&&typeIn K (.ref f)==aa (.type "function")
   &&keepIn K (.ref C)
   &&findIn K (.ref C) "__setattr__"==aa (aa (.builtin "object.__setattr__"))
   &&findIn K (.ref C) "__getattribute__"==aa (aa (.builtin "BaseException.__getattribute__"))
   &&findIn K (.ref C) "__getattr__"==aa ab
 |_=>af
structure Zt(M:Gx)(h:Heap)(C f:Addr):Prop where
 obj:∃oc od cd sl,h.get? C=aa ⟨oc,od,.cls cd,sl⟩/\cd.hasDel=af/\cd.mro.isEmpty=af/\cd.hasDict=ae/\Cq cd.mro=MJ
 made:Looks M h (Ur (.ref C)) (aa "Exception.__new__")
 base:Looks M h (Bind.staticBase (.ref C)) (.ref C)
 self:Looks M h (se (.ref C) (.ref C)) ae
 exc:Looks M h (se (.ref C) (.type "Exception")) ae
 ob:Looks M h (se (.ref C) (.type "object")) ae
 YH:Looks M h (se (.ref C) (.type "BaseException")) ae
 noA:Looks M h (se (.ref C) (.type "AttributeError")) af
 noN:Looks M h (se (.ref C) (.type "NameError")) af
 noT:Looks M h (se (.ref C) (.type "tuple")) af
 call:Looks M h (specialOf (.ref C) "__call__") (aa (.builtin "type.__call__"))
 typ:Looks M h (wk (.ref C) (.type "type")) ae
 ty:Looks M h (NA (.ref C)) (.type "type")
 init:Looks M h (AX (.ref C) "__init__") (aa (.ref f))
 bind:∀self,Looks M h (bindSpecial (.ref f) self) (.ref f,[self])
 sa:Looks M h (AX (.ref C) "__setattr__") (aa (.builtin "object.__setattr__"))
theorem mkX{K:Frag}{M:Gx}{h:Heap}(X:K.In h){C f:Addr}(e:qc K C f=ae):Zt M h C f:=by
 unfold qc at e;split at e
 ·rename_i oc od cd sl ho;simp only[cM,vd,beq_iff_eq]at e;obtain⟨⟨⟨⟨⟨⟨⟨⟨⟨⟨⟨⟨⟨⟨⟨⟨⟨⟨⟨⟨e1,e2⟩,e3⟩,e4⟩,e5⟩,e6⟩,e7⟩,e8⟩,e9⟩,e10⟩,e20⟩,e21⟩,e11⟩,e12⟩,e13⟩,e14⟩,e15⟩,e16⟩,e17⟩,e18⟩,e19⟩:=e;have hc:clsIn K C=aa cd:=by unfold clsIn;rw[ho]
  have sub:∀{b:aX}{r:Bool},cd.mro.contains b=r->Looks M h (se (.ref C) b) r:=fun{b r} q=>
   looks_mroIn X (by unfold mroIn;rw[hc,Option.bind_some,cQ (by rw[e3];decide),q])
  obtain⟨c,l,hl⟩:∃c l,cd.mro=c::l:=by
   cases q:cd.mro with
   |nil=>rw[q]at e3;cases e3
   |cons c l=>exact⟨c,l,rfl⟩
  have mr:Looks M h (mroOf (.ref C)) cd.mro:=(looks_clsIn X hc).andThen .now
  have made:Looks M h (Ur (.ref C)) (aa "Exception.__new__"):=fun A Q E s k q=>by
   unfold Ur;refine aP (mr A _ E s k ?_);rw[hl,nQ];refine aP (aP (aP (aP ?_)));refine Et (k _ _ (X _ _ ho)) (bg ?_);dsimp only;rw[<-eK,e2];exact bg (bg (bg q))
  refine⟨⟨oc,od,cd,sl,X _ _ ho,e1,e3,e10,e20⟩,made,?_,sub e4,sub e5,sub e21,sub e6,sub e7,sub e8,sub e9,looks_specialIn X e11,
   looks_instIn X e12,looks_typeIn X e13,looks_findIn X e14,fun self=>bind_fn X self e15,looks_findIn X e17⟩
  intro A Q E s k q;unfold Bind.staticBase;refine aP (mr A _ E s k ?_);rw[hl,nQ];refine aP (aP (aP ?_));exact made A _ E s k (bg (bg (bg q)))
 cases e
abbrev kD(us:au):Obj:={cls:=.type "tuple",data:=.seq us.toArray}
abbrev pS(C t:Addr):Obj:={cls:=.ref C,data:=.fields #[.ref t,.none,.none,.none,.bool af,.none]}
section
variable{prog:bY}{w:cX}{A:cZ}{C f:Addr}{R:Ey->a9->Prop}{h:Heap}{g:Array Kc}{d:Drawn}{t:Nat}{os:OsState}
theorem newX{us:au}(Y:Zt (bK prog w) h C f)(hz:us.length<=bz)
 (hq:R (.ok (.ret (.ref (h.objs.size+1)))) ⟨(h.push (kD us)).push (pS C h.objs.size),g,d,t,os⟩):
 jA (bK prog w) A (.call (.builtin "Exception.__new__") ⟨.ref C::us,[]⟩) R ⟨h,g,d,t,os⟩:=by
 obtain⟨⟨oc,od,cd,sl,hC,e1,e4,_⟩,made,base,self,exc,ob,YH,noA,noN,noT,call,typ,ty,init,bnd,sa⟩:=Y
 have F:=Ji
 have agy:=F.noStar
 refine codeAny_call_builtin_code (tK _ F.quiet) ?_
 simp only[zD,F.newKind,F.newSplit,F.newRow]
 repeat (first|simp only[bne_self_eq_false,cD,if_false]|lk)
 refine codeAny_builtinAt F.entry ?_
 have he:("Exception.__new__":String).endsWith ".__new__"=ae:=F.ends
 unfold Builtin.«BaseException.__new__»
 refine Zz ?_
 show PySem.wpAt _ _ _ (stack>>=_) _ _ _
 refine Zz (PySem.wpAt_stack fun p below=>Uh ?_)
 wp_walk
 refine Uh ?_
 rw[F.owner]
 have here:Looks (bK prog w) h (Bind.madeHere "BaseException.__new__" (.ref C)) ():=base.andThen (made.andThen (Looks.of_pure (by
  simp only[jH,F.canon,bne_self_eq_false,cD,if_false])))
 repeat (first|simp only[bne_self_eq_false,cD,if_false,N1]|lk)
 have nz:¬us.toArray.size>bz:=by
  rw[b7];omega
 rw[cQ nz]
 unfold newObjAsIs
 refine aP (Eu (bg (aP ?_)))
 show bM _ _ (newObjAsIs (.ref C) _ _) _ _ _
 unfold newObjAsIs classHasDel
 refine aP (Eu (aP (aP ?_)))
 refine IT (ba _ (ba _ hC)) (bg ?_)
 rw[e1]
 refine bg (bg ?_)
 show R _ _
 rw[dB]
 exact hq
theorem ahg{us:au}(Y:Zt (bK prog w) h C f)(hz:us.length<=bz)
 (hq:jA (bK prog w) (A.under (.builtin "type.__call__" ⟨.ref C::us,[]⟩)) (.call (.ref f) ⟨.ref (h.objs.size+1)::us,[]⟩)
  (InitBack (h.objs.size+1) R) ⟨(h.push (kD us)).push (pS C h.objs.size),g,d,t,os⟩):
 jA (bK prog w) A (.call (.ref C) ⟨us,[]⟩) R ⟨h,g,d,t,os⟩:=by
 have Y':=Y
 obtain⟨⟨oc,od,cd,sl,hC,e1,e4,_⟩,made,base,self,exc,ob,YH,noA,noN,noT,cal,typ,ty,init,bnd,sa⟩:=Y
 refine Bi ?_
 show bM _ _ (callAny (.ref C) _) _ _ _
 refine nd_load hC ?_
 show bM _ _ (Ug (.ref C) _) _ _ _
 unfold Ug
 refine aP (cal.at ?_)
 dsimp only
 rw[tc_bind]
 refine aP (bg (aP (bg ?_)))
 refine bg (a:=Fin.again (.call (.builtin "type.__call__") ⟨.ref C::us,[]⟩)) (And.intro rfl ?_)
 refine codeAny_call_builtin_at (tK _ (by decide+kernel)) entry_typeCall ?_
 refine check_slot tc_kind tc_split typ (tc_args _ _ _) ?_
 unfold Builtin.«type.__call__»
 have hm:Looks (bK prog w) h (mroOf (.ref C)) cd.mro:=((Looks.ld (part:=ab) hC).andThen .now).andThen .now
 repeat (first|simp only[e4,cD,if_false]|with_reducible refine m8 ?_|lk)
 refine newX Y' hz ?_
 have k:∀b o,h.get? b=aa o->((h.push (kD us)).push (pS C h.objs.size)).get? b=aa o:=fun b o e=>
  ba _ (ba _ e)
 have hx:((h.push (kD us)).push (pS C h.objs.size)).get? (h.objs.size+1)=aa (pS C h.objs.size):=by heap_get
 have t1:Looks (bK prog w) ((h.push (kD us)).push (pS C h.objs.size)) (NA (.ref (h.objs.size+1))) (.ref C):=
  (Looks.ld hx).andThen .now
 have s1:=self.keeps k
 have i1:=init.keeps k
 have b1:=(bnd (.ref (h.objs.size+1))).keeps k
 unfold wk callSpecial? specialOf
 repeat (first|with_reducible refine m8 ?_|lk)
 refine iU hq fun r s' z=>?_
 rcases r with e|(v|_|_|_)
 ·exact z
 ·exact z.elim
 ·exact z.elim
 ·exact z.elim
 obtain⟨rfl,z⟩:=z
 exact bg (bg z)
end
section
variable{prog:bY}{w:cX}{A:cZ}{C f x dx:Addr}{s:a9}{K:Frag}{name:Str}{v:aX}{E:ar}
theorem abP{R:Ey->a9->Prop}{ox:Obj}{od:Option Obj}{tk:Tok}(X:K.In s.heap)(Y:Zt (bK prog w) s.heap C f)(I:InstAt s.heap x ox C od)(hn:findIn K (.ref C) name=aa ab)
 (h:bM (bK prog w) A.in1 (storeInOwnDict (.ref x) (.ref C) (.str name tk) name v af)
  (fun fin s'=>match fin with|.done f=>R (.ok f) s'|.again c'=>c'.quiet=ae/\jA (bK prog w) A c' R s') (fun e s'=>R (.error e) s') s):
 jA (bK prog w) A (.call (.builtin "object.__setattr__") ⟨[.ref x,.str name tk,v],[]⟩) R s:=by
 have SF:=PySem.F.store_object
 obtain⟨oc,odc,cd,sl,hC,e1,e4,e5,e6⟩:=Y.obj
 have hio:Looks (bK prog w) s.heap (wk (.ref x) (.type "object")) ae:=I.type.andThen Y.ob
 have hm:Looks (bK prog w) s.heap (mroOf (.ref C)) cd.mro:=((Looks.ld (part:=ab) hC).andThen .now).andThen .now
 refine kb SF.slot.plain SF.entry ?_
 refine@check_slot (bK prog w) _ _ s "object.__setattr__" "object" "__setattr__" (.ref x) [.str name tk,v] [] _ SF.kind SF.split hio (SF.args (.ref x) (.str name tk) v) ?_
 rw[osa_eq,refuse_eq]
 refine aP (aP (I.type.here (aP (hm.here ?_))))
 rw[Td,e6,Z4]
 refine bg (aP (I.type.here (aP ((looks_findIn X hn).here (aP (bg ?_))))))
 exact h
theorem W0{vs:Array aX}{sl:Array (Option aX)}{mA:aj}{ns:ak}{Q:Unit->a9->Prop}(X:K.In s.heap)(Y:Zt (bK prog w) s.heap C f)
 (hx:s.heap.get? x=aa ⟨.ref C,aa dx,.fields vs,sl⟩)(hd:s.heap.Ns1 dx mA)(hs:findIn K (.ref C) "__setattr__"=aa (aa (.builtin "object.__setattr__")))(hn:findIn K (.ref C) name=aa ab)
 (hw:oV mA ns)(hz:ns.length<bz)
 (h:∀h',h'.Ns1 dx (fun y=>if y=name then aa v else mA y)->kQ dx s.heap h'->Q () {s with heap:=h',toks:=s.toks+2}):
 bM (bK prog w) A (setAttr (.ref x) name v) Q E s:=by
 obtain⟨oD,esD,epD,hoD,hdD,_⟩:=id hd
 have I:InstAt s.heap x ⟨.ref C,aa dx,.fields vs,sl⟩ C (aa oD):=⟨hx,rfl,rfl,hoD⟩
 refine set_plain X I hs (abP (s:={s with toks:=s.toks+1}) X Y I hn ?_)
 obtain⟨oc,odc,cd,slc,hC,e1,e4,e5,e6⟩:=Y.obj
 refine aP (bg (aP (aP (Et hx (aP (aP (IT hC (bg ?_))))))))
 rw[e5]
 refine bg (a:=aa dx) (aP (bg (aP ?_)))
 refine Y2 (s:={s with toks:=s.toks+1}) hd fun h' n2 s2=>?_
 obtain⟨oE,esE,epE,hoE,hdE,hcE⟩:=n2.count (y8 name v hw)
 refine aP (Ny hoE (by rw[hdE];exact NC (cR hcE (by rw[cK];omega))) ?_)
 exact bg (h _ n2 s2)
theorem W2{vs:Array aX}{sl:Array (Option aX)}{Q:Unit->a9->Prop}(X:K.In s.heap)(Y:Zt (bK prog w) s.heap C f)
 (hx:s.heap.get? x=aa ⟨.ref C,ab,.fields vs,sl⟩)(hs:findIn K (.ref C) "__setattr__"=aa (aa (.builtin "object.__setattr__")))(hn:findIn K (.ref C) name=aa ab)
 (h:∀h',h'.get? x=aa ⟨.ref C,aa s.heap.objs.size,.fields vs,sl⟩->h'.Ns1 s.heap.objs.size (fun y=>if y=name then aa v else ab)->(∀b o,b≠x->s.heap.get? b=aa o->h'.get? b=aa o)->
  Q () {s with heap:=h',toks:=s.toks+2}):
 bM (bK prog w) A (setAttr (.ref x) name v) Q E s:=by
 have I:InstAt s.heap x ⟨.ref C,ab,.fields vs,sl⟩ C ab:=⟨hx,rfl,rfl,jw⟩
 refine set_plain X I hs (abP (s:={s with toks:=s.toks+1}) X Y I hn ?_)
 obtain⟨oc,odc,cd,slc,hC,e1,e4,e5,e6⟩:=Y.obj
 refine aP (bg (aP (aP (Et hx (aP (aP (IT hC (bg ?_))))))))
 rw[e5]
 have e2:(s.heap.push emptyDict).get? s.heap.objs.size=aa emptyDict:=bI s.heap rfl
 have hx':(s.heap.push emptyDict).get? x=aa ⟨.ref C,ab,.fields vs,sl⟩:=ba _ hx
 have ne:x≠s.heap.objs.size:=ck (bG hx)
 have e3:(s.heap.push emptyDict).Ns s.heap.objs.size (fun _=>ab):=⟨emptyDict,#[],_,e2,rfl,(fun e he=>absurd he (by simp)),fun _=>rfl⟩
 refine aP (Eu (aP (wpAny_update hx' (bg (a:=aa s.heap.objs.size) (aP (bg (aP ?_)))))))
 generalize hU:((s.heap.push emptyDict).update x fun o=>{o with dict:=aa s.heap.objs.size})=U
 have hxU:U.get? x=aa ⟨.ref C,aa s.heap.objs.size,.fields vs,sl⟩:=by
  rw[<-hU];exact dQ _ hx' rfl
 have agE:∀b,b≠x->U.get? b=(s.heap.push emptyDict).get? b:=fun b hb=>by
  rw[<-hU];exact cv _ _ (dh hb)
 have n1:U.Ns1 s.heap.objs.size (fun _=>ab):=(SG e3).at fun o q=>by
  rw[agE _ (dh ne)];exact q
 refine Y2 (s:={s with heap:=U,toks:=s.toks+1}) n1 fun h' n2 s2=>?_
 obtain⟨oE,esE,epE,hoE,hdE,hcE⟩:=n2.count (y8 name v (ns:=[]) (fun y hy=>absurd rfl hy))
 refine aP (Ny hoE (by rw[hdE];exact NC (cR hcE (by show 1<=bz+1;exact Nat.le_add_left 1 _))) ?_)
 refine bg (h _ ((s2.2 x ne).trans hxU) n2 fun b o hb e=>?_)
 have nb:b≠s.heap.objs.size:=ck (bG e)
 exact(s2.2 b nb).trans ((agE b hb).trans (ba _ e))
end
theorem aaW(self:aX):bindSpecial (.builtin "BaseException.__getattribute__") self=pure (.builtin "BaseException.__getattribute__",[self]):=by kernel_rfl
section
variable{prog:bY}{w:cX}{A:cZ}{C f x dx:Addr}{s:a9}{K:Frag}{name:Str}{v:aX}{E:ar}
theorem akj{vs:Array aX}{sl:Array (Option aX)}{mA:aj}{expr:Bool}{Q:ar}(X:K.In s.heap)(Y:Zt (bK prog w) s.heap C f)
 (hx:s.heap.get? x=aa ⟨.ref C,aa dx,.fields vs,sl⟩)(hd:s.heap.Ns1 dx mA)(hh:hasDictIn K C=ae)
 (hga:findIn K (.ref C) "__getattribute__"=aa (aa (.builtin "BaseException.__getattribute__")))(hgt:findIn K (.ref C) "__getattr__"=aa ab)(hn:findIn K (.ref C) name=aa ab)
 (hv:mA name=aa v)(hv':handedIn v=ae)(h:Q v {s with toks:=s.toks+1}):
 bM (bK prog w) A (Y7 (.ref x) name expr) Q E s:=by
 obtain⟨od,ho,hl⟩:=L2.KN hd
 have I:InstAt s.heap x ⟨.ref C,aa dx,.fields vs,sl⟩ C (aa od):=⟨hx,rfl,rfl,ho⟩
 have ff:findObj K C (aa od) name=aa (.value v):=findObj_own hh hn rfl (by rw[hl,hv])
 have L0:=I.type (M:=bK prog w)
 have L1:=looks_findIn (M:=bK prog w) X hga
 have L2':=looks_findIn (M:=bK prog w) X hgt
 have L3:=looks_find (M:=bK prog w) X I ff
 have LB:Looks (bK prog w) s.heap (wk (.ref x) (.type "BaseException")) ae:=L0.andThen Y.YH
 obtain⟨hp,g,d,t,os⟩:=s
 unfold Y7 getAttrBy
 refine aP (wpAny_mkText (d8 (aP (L0.at (aP (L1.at ?_))))))
 show bM _ _ (getAttrByItsOwn _ _ _ _ _ _) _ _ _
 unfold getAttrByItsOwn hookBefore callGetattribute
 refine aP (L2'.at (aP (oP (d8 ?_))))
 rw[cQ (show¬(expr&&onTheHeap (Value.builtin "BaseException.__getattribute__"))=ae by cases expr<;>exact cB)]
 unfold boundAndCalled
 rw[aaW]
 have hk:builtinKind "BaseException.__getattribute__"=aa .slot:=by decide+kernel
 have adX:splitId "BaseException.__getattribute__"=aa ("BaseException","__getattribute__"):=by decide+kernel
 have yT:plainId "BaseException.__getattribute__"=ae:=by decide+kernel
 refine aP (bg (m8 (kb yT F.entry_bexc_ga ?_)))
 refine@check_slot (bK prog w) _ _ _ "BaseException.__getattribute__" "BaseException" "__getattribute__" (.ref x) [.str name t] [] _ hk adX LB (F.args_bexc_ga (.ref x) (.str name t)) ?_
 unfold Builtin.«object.__getattribute__»
 refine aP (bg (aP (bg (aP (L0.at (aP (L3.at ?_)))))))
 refine bg ?_
 show bM _ _ (handedOut v) _ _ _
 rw[handedOut_of hv']
 exact bg h
end
end XL
end
section
namespace XL
open PySem PySem.W PySem.Calls PyProof.Rows
structure ab9(fs:ag)(a:Addr)(v:Option aX)(h h':Heap):Prop where
 keep:∀b o,h.get? b=aa o->b≠a->v≠aa (.ref b)->b∉fs->h'.get? b=aa o
 slot:∀b o,h.get? b=aa o->b≠a->v≠aa (.ref b)->∃sl,h'.get? b=aa {o with slots:=sl}
 there:∀b o,h.get? b=aa o->∃o',h'.get? b=aa o'
inductive Has(a:Addr)(oe:Obj)(n T:Nat)(h:Heap):Prop
 |mk (vs:_) (oT:_) (ts:_) (z:_) (_:h.get? a=aa {oe with data:=.fields vs}) (_:1<vs.size) (_:vs[1]?=aa (.ref T)) (_:h.get? T=aa oT) (_:oT.data=.fields ts) (_:ts[3]?=aa z) (_:T≠a) (_:n<=T)
section
variable{M:Gx}{A:cZ}{E:ar}{s:a9}{base:Heap}{env:Env}{outer:List Env}{L a:Addr}{oe:Obj}{vs:Array aX}
theorem K6{head:aX}{b:Bool}{Q:Unit->a9->Prop}(hfr:A.frames=aa (env::outer))(hl:s.heap.FunFrames base (env::outer))(hf:env.frame=aa L)
 (he:s.heap.get? a=aa oe)(hd:oe.data=.fields vs)(hz:1<vs.size)
 (k:∀h',(∀b o,s.heap.get? b=aa o->b≠a->b∉(env::outer).filterMap (·.frame)->h'.get? b=aa o)->
  (∀b o,s.heap.get? b=aa o->b≠a->∃sl,h'.get? b=aa {o with slots:=sl})->Has a oe s.heap.objs.size s.heap.objs.size h'->Q () {s with heap:=h'}):
 bM M A (do let fr<-frameOf env;let pl<-entryPlaceOf L b;let t<-NL head fr .none (j6 L) .none pl;setField (.ref a) 1 t) Q E s:=by
 have hna:a∉(env::outer).filterMap (·.frame):=fun hm=>by
  obtain⟨_,o,ho,hnf⟩:=hl.mem hm;rw[he]at ho;cases ho;exact hnf vs hd
 refine aP (wpAny_frameOf_fun hfr hl hf fun h1 s1=>?_)
 refine aP (wpAny_entryPlaceOf fun pl yT=>?_)
 unfold NL newFields
 refine aP (j9 ?_ (yT.sizeOk5 _ _ _ _ _))
 generalize htb:({cls:=.type "traceback",dict:=ab,data:=.fields ([head,.ref L,.none,j6 L,.none]++(if pl.isEmpty then cA 6 eG else pl)).toArray}:Obj)=tb
 have he1:h1.get? a=aa oe:=(s1.2.1 a hna).trans he
 have he2:(h1.push tb).get? a=aa oe:=ba _ he1
 refine Er he2 hd hz ?_
 have hsz:h1.objs.size=s.heap.objs.size:=s1.1
 have hTa:h1.objs.size≠a:=dm (bG he1)
 have hd3:=oC hd (·.setIfInBounds 1 (cu h1.objs.size))
 have JM:oe.mapFields (·.setIfInBounds 1 (cu h1.objs.size))={oe with data:=.fields (vs.setIfInBounds 1 (.ref h1.objs.size))}:=by
  obtain⟨c0,d0,dt0,sl0⟩:=oe;cases hd;rfl
 have ajy:tb.isFreed=af:=by rw[<-htb];rfl
 have Tu:∀b o,b≠a->h1.get? b=aa o->((h1.push tb).update a (js (·.setIfInBounds 1 (cu h1.objs.size)))).get? b=aa o:=fun b o hb e=>by
  rw[cv _ _ (dh hb)];exact ba _ e
 refine k _ (fun b o e hb hn=>Tu b o hb ((s1.2.1 b hn).trans e)) (fun b o e hb=>?_) ?_
 ·obtain⟨sl,q⟩:=s1.2.2 b o e
  exact⟨sl,Tu b _ hb q⟩
 refine⟨vs.setIfInBounds 1 (.ref h1.objs.size),tb,([head,.ref L,.none,j6 L,.none]++(if pl.isEmpty then cA 6 eG else pl)).toArray,j6 L,?_,by simpa using hz,by rw[<-hsz];simp[hz],?_,by rw[<-htb],?_,by rw[<-hsz];exact hTa,bu _⟩
 ·rw[<-JM]
  exact dQ _ he2 (qp hd3)
 ·rw[<-hsz,cv _ _ (dh hTa)]
  exact bI h1 ajy
 simp
def Tr(h:Heap)(a:Addr)(n:Nat)(v:Option aX):Prop:=
 v=aa .none\/∃T oT ts z,v=aa (.ref T)/\h.get? T=aa oT/\oT.data=.fields ts/\ts[3]?=aa z/\T≠a/\n<=T
theorem Xz{n:Nat}{Q:Unit->a9->Prop}(hfr:A.frames=aa (env::outer))(hl:s.heap.FunFrames base (env::outer))(hf:env.frame=aa L)
 (he:s.heap.get? a=aa oe)(hd:oe.data=.fields vs)(hz:1<vs.size)(tr:Tr s.heap a n vs[1]?)(hn:n<=s.heap.objs.size)
 (k:∀h' T,ab9 ((env::outer).filterMap (·.frame)) a vs[1]? s.heap h'->Has a oe n T h'->(s.heap.objs.size<=T\/vs[1]?=aa (.ref T))->Q () {s with heap:=h'}):
 bM M A (VZ (.ref a) env) Q E s:=by
 unfold VZ
 simp only[hf]
 rcases tr with h1|⟨T,oT,ts,z,h1,hT,Zm,h3,hTa,hnT⟩
 ·refine aP (gY he hd h1 ?_)
  rw[cQ (by decide)]
  refine K6 hfr hl hf he hd hz fun h' k1 k2 k3=>?_
  obtain⟨vs',oT,ts,z,a1,a2,a3,a4,a5,a6,a7,a8⟩:=k3
  refine k h' _ ⟨fun b o e hb _ hx=>k1 b o e hb hx,fun b o e hb _=>k2 b o e hb,fun b o e=>?_⟩ ⟨vs',oT,ts,z,a1,a2,a3,a4,a5,a6,a7,hn⟩ (.inl (bu _))
  by_cases hb:b=a
  ·rw[hb]
   exact⟨_,a1⟩
  obtain⟨sl,q⟩:=k2 b o e hb
  exact⟨_,q⟩
 refine aP (gY he hd h1 ?_)
 rw[da (show(cu T != eG)=ae from by simp)]
 refine aP (gY hT Zm h3 ?_)
 by_cases hzL:(z==j6 L)=ae
 ·rw[da hzL]
  refine bg (k s.heap T ⟨fun b o e _ _ _=>e,fun b o e _ _=>⟨o.slots,e⟩,fun b o e=>⟨o,e⟩⟩ ⟨vs,oT,ts,z,?_,hz,h1,hT,Zm,h3,hTa,hnT⟩ (.inr h1))
  rw[he]
  obtain⟨c0,d0,dt0,sl0⟩:=oe
  cases hd
  rfl
 rw[cQ hzL]
 refine aP (Er hT Zm (fJ.mp h3).1 ?_)
 have Tu:∀b,b≠T->(s.heap.update T (js (·.setIfInBounds 3 eG))).get? b=s.heap.get? b:=fun b hb=>cv _ _ (dh hb)
 have hTn:(s.heap.update T (js (·.setIfInBounds 3 eG))).get? T=aa (oT.mapFields (·.setIfInBounds 3 eG)):=
  dQ _ hT (qp (oC Zm _))
 have NR:(s.heap.update T (js (·.setIfInBounds 3 eG))).FunFrames base (env::outer):=hl.of_keeps fun b o hb hnf=>by
  refine⟨o,(Tu b fun q=>?_).trans hb,rfl⟩;rw[q,hT]at hb;cases hb;exact hnf ts Zm
 have hsz:(s.heap.update T (js (·.setIfInBounds 3 eG))).objs.size=s.heap.objs.size:=Heap.size_after_update ..
 refine K6 (s:={s with heap:=s.heap.update T (js (·.setIfInBounds 3 eG))}) hfr NR hf ((Tu a (dh hTa)).trans he) hd hz fun h' k1 k2 k3=>?_
 obtain⟨vs',oT',ts',z',a1,a2,a3,a4,a5,a6,a7,a8⟩:=k3
 have nT:∀b,vs[1]?≠aa (.ref b)->b≠T:=fun b hb q=>hb (by rw[q];exact h1)
 refine k h' _ ⟨fun b o e hb ht hx=>k1 b o ((Tu b (nT b ht)).trans e) hb hx,fun b o e hb ht=>k2 b o ((Tu b (nT b ht)).trans e) hb,fun b o e=>?_⟩ ⟨vs',oT',ts',z',a1,a2,a3,a4,a5,a6,a7,?_⟩ (.inl ?_)
 ·by_cases hb:b=a
  ·rw[hb]
   exact⟨_,a1⟩
  by_cases hbT:b=T
  ·obtain⟨sl,q⟩:=k2 b _ (by rw[hbT];exact hTn) hb
   exact⟨_,q⟩
  obtain⟨sl,q⟩:=k2 b o ((Tu b hbT).trans e) hb
  exact⟨_,q⟩
 ·exact cR hn (k4 hsz.symm)
 exact k4 hsz.symm
theorem RN{n:Nat}{fr:Option Addr}{Q:Unit->a9->Prop}(he:s.heap.get? a=aa oe)(hd:oe.data=.fields vs)(tr:Tr s.heap a n vs[1]?)
 (k:∀h',(∀b o,s.heap.get? b=aa o->vs[1]?≠aa (.ref b)->h'.get? b=aa o)->(∀b o,s.heap.get? b=aa o->∃o',h'.get? b=aa o')->Tr h' a n vs[1]?->Q () {s with heap:=h'}):
 bM M A (VY (.ref a) fr) Q E s:=by
 unfold VY
 rcases tr with h1|⟨T,oT,ts,z,h1,hT,Zm,h3,hTa,hnT⟩
 ·refine aP (gY he hd h1 ?_)
  rw[cQ (by decide)]
  exact bg (k _ (fun b o e _=>e) (fun b o e=>⟨o,e⟩) (.inl h1))
 refine aP (gY he hd h1 ?_)
 rw[da (show(cu T != eG)=ae from by simp)]
 have hsz:=(fJ.mp h3).1
 refine Er hT Zm hsz (k _ (fun b o e hb=>?_) (fun b o e=>?_) (.inr ⟨T,_,_,fr.elim .none fun f=>j6 f,h1,dQ _ hT (qp (oC Zm _)),oC Zm _,?_,hTa,hnT⟩))
 ·rw[cv _ _ (fun q=>hb (by rw[<-q];exact h1))]
  exact e
 ·by_cases hbT:b=T
  ·rw[hbT]
   exact⟨_,dQ _ hT (qp (oC Zm _))⟩
  rw[cv _ _ (dh hbT)]
  exact⟨o,e⟩
 simp[hsz]
end
end XL
end
section
namespace XL
open PySem PySem.Spec PyProof.Rows L2
def Ea(a C:Addr)(d:Option Addr):HO:=.ext fun h=>∃vs sl,h.get? a=aa ⟨.ref C,d,.fields vs,sl⟩/\1<vs.size
def lR(a C:Addr)(d:Option Addr):HO:=.ext fun h=>∃vs sl,h.get? a=aa ⟨.ref C,d,.fields vs,sl⟩/\1<vs.size/\vs[1]?=aa .none
def Cu(dx:Addr)(fs:aq):HO:=.ext fun h=>fs.length<=1000/\∃mA,h.Ns1 dx mA/\(∀f,qW (fs.lookup f) (mA f))/\oV mA (fs.map (·.1))
section
variable{P:bY}{w:cX}{H:Hp}{h:Heap}{a C:Addr}{d:Option Addr}{fs:aq}
theorem Xv{vs:Array aX}{sl:Array (Option aX)}(e:h.get? a=aa ⟨.ref C,d,.fields vs,sl⟩)(z:1<vs.size):jc P w H h a (Ea a C d):=
 ⟨⟨vs,sl,e,z⟩,⟨_,e⟩,fun h1 h2 ⟨vs,sl,e,z⟩ k=>⟨vs,sl,k _ e,z⟩⟩
theorem L7{vs:Array aX}{sl:Array (Option aX)}(e:h.get? a=aa ⟨.ref C,d,.fields vs,sl⟩)(z:1<vs.size)(n:vs[1]?=aa .none):jc P w H h a (lR a C d):=
 ⟨⟨vs,sl,e,z,n⟩,⟨_,e⟩,fun h1 h2 ⟨vs,sl,e,z,n⟩ k=>⟨vs,sl,k _ e,z,n⟩⟩
theorem Xw{mA:aj}(e:h.Ns1 a mA)(r:∀f,qW (fs.lookup f) (mA f))(wi:oV mA (fs.map (·.1)))(z:fs.length<=1000):jc P w H h a (Cu a fs):=
 ⟨⟨z,mA,e,r,wi⟩,let⟨o,_,_,q,_⟩:=e;⟨o,q⟩,fun h1 h2 ⟨z,mA,e,r,wi⟩ k=>⟨z,mA,e.at k,r,wi⟩⟩
theorem IB(gx:yq P w H h)(e:H a=aa (Ea a C d)):∃vs sl,h.get? a=aa ⟨.ref C,d,.fields vs,sl⟩/\1<vs.size:=(show jc P w H h a (Ea a C d)from gx a _ e).1
theorem Gm(gx:yq P w H h)(e:H a=aa (lR a C d)):∃vs sl,h.get? a=aa ⟨.ref C,d,.fields vs,sl⟩/\1<vs.size/\vs[1]?=aa .none:=(show jc P w H h a (lR a C d)from gx a _ e).1
theorem Yv(gx:yq P w H h)(e:H a=aa (Cu a fs)):fs.length<=1000/\∃mA,h.Ns1 a mA/\(∀f,qW (fs.lookup f) (mA f))/\oV mA (fs.map (·.1)):=(show jc P w H h a (Cu a fs)from gx a _ e).1
end
structure Bd(X:Cx):Prop where
 QS:X.stack=X.env::X.outer
 fr:X.env.frame=aa X.env.locals
def nbs(n:Nat)(p:Addr×Obj):Nat:=if n<=p.1 then Nat.succ p.1 else n
def nb(X:Cx):Nat:=X.pn.foldl nbs X.DE.heap.objs.size
theorem ady(n:Nat)(p:Addr×Obj):n<=nbs n p/\Nat.lt p.1 (nbs n p)/\∀m:Nat,n<=m->Nat.lt p.1 m->nbs n p<=m:=by
 unfold nbs;by_cases h:n<=p.1
 ·rw[da h];exact⟨Nat.le_succ_of_le h,eQ _,fun m _ h2=>h2⟩
 rw[cQ h];exact⟨bu _,Nat.lt_of_not_le h,fun m h1 _=>h1⟩
theorem B5:∀(l:ah)(n:Nat),n<=l.foldl nbs n/\(∀p∈l,Nat.lt p.1 (l.foldl nbs n))/\∀m:Nat,n<=m->(∀p∈l,Nat.lt p.1 m)->l.foldl nbs n<=m
 |[],n=>⟨bu _,fun p hp=>(nomatch hp),fun m hm _=>hm⟩
 |q::r,n=>by
  have ih:=B5 r (nbs n q);obtain⟨k1,k2,k3⟩:=ady n q;rw[nR];refine⟨cR k1 ih.1,fun p hp=>?_,fun m hm hp=>?_⟩
  ·rcases bQ.mp hp with e|e
   ·rw[e];exact bJ k2 ih.1
   exact ih.2.1 p e
  exact ih.2.2 m (k3 m hm (hp q (bO ..))) fun p hq=>hp p (bD _ hq)
theorem Tz(X:Cx):X.DE.heap.objs.size<=nb X:=(B5 X.pn X.DE.heap.objs.size).1
theorem XE{X:Cx}{p:Addr×Obj}(h:p∈X.pn):p.1<nb X:=(B5 X.pn X.DE.heap.objs.size).2.1 p h
theorem abR{X:Cx}{pins:ah}{σ:L2.St}{H:Hp}{s:a9}(I:Inv X pins σ H s):nb X<=s.heap.objs.size:=
 (B5 X.pn X.DE.heap.objs.size).2.2 _ I.sz fun p hp=>bG (I.pin p (fK _ hp)).1
inductive Trk(n:Nat)(H:Hp)(h:Heap)(a:Addr):Prop
 |mk (oe:_) (vs:_) (_:h.get? a=aa oe) (_:oe.data=.fields vs) (_:1<vs.size) (_:Tr h a n vs[1]?) (_:∀T,vs[1]?=aa (.ref T)->H T=ab)
theorem Trk.mono{n m:Nat}{H:Hp}{h:Heap}{a:Addr}(t:Trk n H h a)(hm:m<=n):Trk m H h a:=by
 obtain⟨oe,vs,h1,h2,h3,h4,h5⟩:=t;refine⟨oe,vs,h1,h2,h3,?_,h5⟩;rcases h4 with e|⟨T,oT,ts,z,e1,e2,e3,e4,e5,e6⟩
 ·exact .inl e
 exact .inr ⟨T,oT,ts,z,e1,e2,e3,e4,e5,cR hm e6⟩
structure YY(X:Cx)(a:Addr)(H:Hp)(s:a9):Prop where
 inv:∃σ,Inv X [] σ H s
 exc:∃C d,H a=aa (Ea a C d)
 trk:Trk (nb X) H s.heap a
def YX(X:Cx)(E:XK):ar:=fun e s=>∃a H,e=.ref a/\YY X a H s/\E (.ref a) ab H
abbrev Pt(X:Cx)(E:XK):Cx:=X.tL (YX X E)
section
variable{X:Cx}{σ:L2.St}{H:Hp}{s:a9}{a C:Addr}{d:Option Addr}{h':Heap}
theorem KR{v:Option aX}{t':Nat}(B:Bd X)(I:Inv X [] σ H s)(hx:H a=aa (Ea a C d))(N:ab9 (RL X.stack) a v s.heap h')
 (hT:∀T,v=aa (.ref T)->H T=ab/\nb X<=T/\∃oT ts,s.heap.get? T=aa oT/\oT.data=.fields ts)
 (ha:∃vs sl,h'.get? a=aa ⟨.ref C,d,.fields vs,sl⟩/\1<vs.size):Inv X [] σ H {s with heap:=h',toks:=t'}:=by
 obtain⟨ch,Ve⟩:∃ch:ag,∀b,b∈ch↔v=aa (.ref b):=by
  match v with
  |some (.ref T)=>exact⟨[T],fun b=>by simp[eq_comm]⟩
  |none=>exact⟨[],fun b=>by simp⟩
  |some .none=>exact⟨[],fun b=>by simp⟩
  |some .ellipsis=>exact⟨[],fun b=>by simp⟩
  |some .notImplemented=>exact⟨[],fun b=>by simp⟩
  |some (.bool _)=>exact⟨[],fun b=>by simp⟩
  |some (.int _ _)=>exact⟨[],fun b=>by simp⟩
  |some (.float _ _)=>exact⟨[],fun b=>by simp⟩
  |some (.str _ _)=>exact⟨[],fun b=>by simp⟩
  |some (.bytes _ _)=>exact⟨[],fun b=>by simp⟩
  |some (.type _)=>exact⟨[],fun b=>by simp⟩
  |some (.builtin _)=>exact⟨[],fun b=>by simp⟩
 have na:∀b,H b=ab->b≠a:=fun b e q=>by rw[q,hx]at e;cases e
 have nv:∀b,b∉ch->v≠aa (.ref b):=fun b hb q=>hb ((Ve b).mpr q)
 refine I.call (ch:=ch) (g':=s.gens) (d':=s.drawn) ⟨fun b o e n hf hc=>N.keep b o e (na b n) (nv b hc) hf,fun b o e n hf hc=>N.slot b o e (na b n) (nv b hc),fun _ _ _ n _=>n,fun b o e _=>N.there b o e,
  fun _ _ q=>q,fun _ _ _ q=>q,fun _ ps q=>⟨#[],by rw[q];simp⟩⟩ (fun b o e=>?_) I.bare (fun b hb=>?_)
 ·by_cases hb:b=a
  ·subst hb
   rw[hx]at e
   cases e
   obtain⟨vs,sl,q,z⟩:=ha
   exact Xv q z
  refine(I.gx b o e).tM (fun c u hc q=>?_) (fun _ q=>q) fun _ _ q=>q
  have tk:∃u,H c=aa u:=by
   rcases hc with z|z
   ·rw[z];exact⟨_,e⟩
   exact⟨_,z⟩
  obtain⟨u',tk⟩:=tk
  have ca:c≠a:=by
   rcases hc with z|z
   ·rw[z];exact hb
   intro q2;rw[q2,hx]at z;cases z
  refine N.keep c u q ca (fun q2=>?_) (fun q2=>?_)
  ·rw[(hT c q2).1]at tk
   cases tk
  rw[I.Lv c q2]at tk
  cases tk
 have q:=(Ve b).mp hb
 obtain⟨q1,q2,oT,ts,q3,q4⟩:=hT b q
 refine⟨.inr (cR (Tz X) q2),fun z=>?_,fun x c e z=>?_,fun p hp=>?_⟩
 ·obtain⟨m,⟨o',es,ep,EV,hd',_⟩,_⟩:=I.loc
  rw[z,EV]at q3
  cases q3
  rw[hd']at q4
  cases q4
 ·obtain⟨y,o',EV,hd'⟩:=I.cell x c e
  rw[z,q3]at EV
  cases EV
  rw[hd']at q4
  cases q4
 rw[cp]at hp
 exact ck (bJ (XE hp) q2)
end
section
variable{X:Cx}{σ:L2.St}{H:Hp}{s:a9}{a:Addr}{A:cZ}{E:ar}
inductive Ent(h:Heap)(a:Addr):Prop
 |mk (oe:_) (vs:_) (T:_) (_:h.get? a=aa oe) (_:oe.data=.fields vs) (_:vs[1]?=aa (.ref T))
theorem XA{Q:Unit->a9->Prop}(B:Bd X)(hA:A.frames=aa X.stack)(F:YY X a H s)(k:∀s',YY X a H s'->Ent s'.heap a->Q () s'):
 bM (bK X.prog X.w) A (VZ (.ref a) X.env) Q E s:=by
 obtain⟨⟨σ,I⟩,⟨C,d,hx⟩,oe,vs,e1,e2,e3,e4,e5⟩:=F
 have KS:s.heap.FunFrames X.base (X.env::X.outer):=by
  rw[<-B.QS];exact I.stack
 refine Xz (n:=nb X) (by rw[hA,B.QS]) KS B.fr e1 e2 e3 e4 (abR I) fun h' T N hh hT=>?_
 obtain⟨vs0,sl0,q0,z0⟩:=IB I.gx hx
 rw[e1]at q0
 cases q0
 cases e2
 obtain⟨vs',oT,ts,z,a1,a2,a3,a4,a5,a6,a7,a8⟩:=hh
 have I':Inv X [] σ H {s with heap:=h'}:=KR (t':=s.toks) (v:=vs[1]?) B I hx (by unfold RL;rw[B.QS];exact N) (fun T' VX=>by
  rcases e4 with q|⟨T1,oT1,ts1,z1,q1,q2,q3,q4,q5,q6⟩
  ·rw[q]at VX;cases VX
  rw[q1]at VX;cases VX;exact⟨e5 _ q1,q6,oT1,ts1,q2,q3⟩) ⟨vs',_,a1,a2⟩
 refine k _ ⟨⟨σ,I'⟩,⟨C,d,hx⟩,_,vs',a1,rfl,a2,.inr ⟨T,oT,ts,z,a3,a4,a5,a6,a7,a8⟩,fun T' VX=>?_⟩ ⟨_,vs',T,a1,rfl,a3⟩
 rw[a3]at VX
 cases VX
 rcases hT with q|q
 ·exact I.gx.fresh q
 exact e5 _ q
theorem yV{fr:Option Addr}{Q:Unit->a9->Prop}(B:Bd X)(F:YY X a H s)(k:∀s',YY X a H s'->(Ent s.heap a->Ent s'.heap a)->Q () s'):
 bM (bK X.prog X.w) A (VY (.ref a) fr) Q E s:=by
 obtain⟨⟨σ,I⟩,⟨C,d,hx⟩,oe,vs,e1,e2,e3,e4,e5⟩:=F
 refine RN (n:=nb X) e1 e2 e4 fun h' k1 k2 k3=>?_
 obtain⟨vs0,sl0,q0,z0⟩:=IB I.gx hx
 rw[e1]at q0
 cases q0
 cases e2
 have na:vs[1]?≠aa (.ref a):=fun q=>by
  rw[e5 _ q]at hx;cases hx
 have a1:=k1 a _ e1 na
 have I':Inv X [] σ H {s with heap:=h'}:=KR (t':=s.toks) (v:=vs[1]?) B I hx ⟨fun b o e _ hb _=>k1 b o e hb,fun b o e _ hb=>⟨o.slots,k1 b o e hb⟩,k2⟩ (fun T' VX=>by
  rcases e4 with q|⟨T1,oT1,ts1,z1,q1,q2,q3,q4,q5,q6⟩
  ·rw[q]at VX;cases VX
  rw[q1]at VX;cases VX;exact⟨e5 _ q1,q6,oT1,ts1,q2,q3⟩) ⟨vs,_,a1,e3⟩
 refine k _ ⟨⟨σ,I'⟩,⟨C,d,hx⟩,_,vs,a1,rfl,e3,k3,e5⟩ fun⟨oe,ws,T,q1,q2,q3⟩=>?_
 rw[e1]at q1
 cases q1
 cases q2
 exact⟨_,vs,T,a1,rfl,q3⟩
theorem ahf{Ek:XK}(B:Bd X)(F:YY X a H s)(n:Ent s.heap a)(q:Ek (.ref a) ab H):cameBackBy (bK X.prog X.w) A X.env (YX X Ek) (.ref a) s:=by
 obtain⟨oe,vs,T,e1,e2,e3⟩:=n;unfold cameBackBy;refine aP (gY e1 e2 e3 ?_);rw[cQ (show¬(cu T==eG)=ae from by simp)];exact yV B F fun s' F' _=>⟨a,H,rfl,F',q⟩
end
def k7(P:bY)(w:cX):Qp:=fun outer H s E e s'=>∃a H',e=.ref a/\s'.os=s.os/\E9 s'.gens/\Un (RL outer) [] H H' s.heap s'.heap/\yq P w H' s'.heap/\
 (∃C d,H' a=aa (Ea a C d))/\Trk s.heap.objs.size H' s'.heap a/\E (.ref a) ab H'
theorem LU{X:Cx}{E:XK}(B:Bd X):Passes (k7 X.prog X.w) (Pt X E) E:=fun pins σ H s e s' I h=>by
 obtain⟨a,H',q1,q2,q3,q4,q5,q6,q7,q8⟩:=h;have I0:Inv X pins σ H s:=I.pb;have I1:Inv X [] σ H s:=I0.BD fun p hp=>absurd hp (by simp);have I2:Inv X [] σ H' s':=I1.ab5 (ch:=[]) q2 q4 q5 q3 fun b hb=>absurd hb (by simp);exact⟨a,H',q1,⟨⟨σ,I2⟩,q6,q7.mono (abR I0)⟩,q8⟩
section
variable{P:bY}{w:cX}{K:aY}{mg:aj}{base:Heap}
abbrev bx(P:bY)(w:cX)(K:aY)(mg:aj)(base:Heap)(N:ak)(qual:Str)(st:Stmt)(f:Addr)(fz:aX)(A:cZ)(outer:List Env)(s:a9)(H:Hp)(E:XK):Cx:=
 MY (k7 P w) P w K mg base N qual (bA st) f fz A outer s H E
theorem k6{N:ak}{qual:Str}{st:Stmt}{f:Addr}{fz:aX}{A:cZ}{outer:List Env}{s:a9}{H:Hp}{E:XK}:Bd (bx P w K mg base N qual st f fz A outer s H E):=⟨rfl,rfl⟩
theorem leaveX{N:ak}{qual:Str}{st:Stmt}{f:Addr}{fz:aX}{A:cZ}{outer:List Env}{s s':a9}{H:Hp}{E:XK}{e:aX}
 (h:YX (bx P w K mg base N qual st f fz A outer s H E) E e s'):(bx P w K mg base N qual st f fz A outer s H E).xe e s':=by
 obtain⟨a,H',q,F,z⟩:=h
 subst q
 obtain⟨⟨σ,I⟩,_⟩:=id F
 show bM _ _ (leaving _ _) _ _ _
 unfold leaving
 refine aP (XA (X:=bx P w K mg base N qual st f fz A outer s H E) k6 I.ok.frames F fun s2 F2 n2=>yV (X:=bx P w K mg base N qual st f fz A outer s H E) k6 F2 fun s3 F3 _=>?_)
 obtain⟨⟨σ3,I3⟩,x3,t3⟩:=F3
 exact⟨a,H',rfl,I3.os,I3.bare,I3.base,I3.gx,x3,t3,z⟩
theorem DV{x qual:Str}{st:Stmt}{f:Addr}{fd:bC}{N ps:ak}{k:Nat}{sp:Sp}(F:iG K x qual st f fd)(S:bV N ps (bA st))
 (Im:∀(fz:aX)(A:cZ)(outer:List Env)(s:a9)(H:Hp)(vs:ao)(Q:VK)(E:XK),gG k (A.deeper (AY qual (bA st) s.heap.objs.size f fz))->sp vs H Q E->
  ∃t,Nt (Pt (bx P w K mg base N qual st f fz A outer s H E) E) (jY st) t/\t {nx:=fun _ H'=>Q .j7 H',rt:=Q} (start N vs) H)(len:∀vs H Q E,sp vs H Q E->vs.length=ps.length:=by intro _ _ _ _ h;cases h;first|(subst_vars;rfl)|(rename_i h;cases h.1;rfl)):dy P w K mg base (k7 P w) (k+1) f fd ps sp:=by
 obtain⟨oc,od,kV,doc,pm,an,fz,ct,Xs,rfl,lk,NS⟩:=F.ex
 refine Yn lk NS S len fun A outer s H vs Q E hr VW=>?_
 obtain⟨t,h,q⟩:=Im fz A outer s H vs Q E hr VW
 exact⟨t,fun pins s1 σ H1 D I hw=>eE (h pins s1 σ H1 D (I.tL _) hw) (fun _ _ q=>q.pb) fun _ _ z=>leaveX z,q⟩
end
structure XF(K:aY)(C:Addr):Prop where
 sa:gb K (.ref C) "__setattr__"=aa (aa (.builtin "object.__setattr__"))
 ga:gb K (.ref C) "__getattribute__"=aa (aa (.builtin "BaseException.__getattribute__"))
 gt:gb K (.ref C) "__getattr__"=aa ab
 hd:oB K C=ae
 kp:jg K (.ref C)=ae
theorem N6{K:aY}{C f:Addr}(e:qc K C f=ae):XF K C:=by
 unfold qc at e;split at e
 ·rename_i oc od cd sl ho;simp only[cM,vd,beq_iff_eq]at e;obtain⟨⟨⟨⟨⟨⟨⟨⟨⟨⟨⟨⟨⟨⟨⟨⟨⟨⟨⟨⟨e1,e2⟩,e3⟩,e4⟩,e5⟩,e6⟩,e7⟩,e8⟩,e9⟩,e10⟩,e20⟩,e21⟩,e11⟩,e12⟩,e13⟩,e14⟩,e15⟩,e16⟩,e17⟩,e18⟩,e19⟩:=e;refine⟨e17,e18,e19,?_,e16⟩;unfold oB PySem.W.clsIn;rw[ho];exact e10
 cases e
def An(C:Addr)(sp:Sp)(t:TA):TE:=fun σ H Q=>t σ H fun vs H1=>vs.length<=bz/\∀a,H1 a=ab->sp (.ref a::vs) (upd H1 a (lR a C ab)) (fun v H2=>v=.j7/\Q (.ref a) H2) E0
section
variable{X:Cx}{k:Nat}{f C:Addr}{fd:bC}{ps:ak}{sp:Sp}{x m:Str}{p pos apos:Pos}{e o:Expr}{es:List Expr}{ta:TE}{t:TA}
theorem X3{pins:ah}{σ:L2.St}{H:Hp}{s:a9}(us:au)(I:Inv X pins σ H s):
 Inv X pins σ (upd H (s.heap.objs.size+1) (lR (s.heap.objs.size+1) C ab)) {s with heap:=(s.heap.push (kD us)).push (pS C s.heap.objs.size)}:=by
 have I1:=I.kept (h':=s.heap.push (kD us)) (t':=s.toks) fun b u q=>ba _ q
 have e2:((s.heap.push (kD us)).push (pS C s.heap.objs.size)).get? (s.heap.objs.size+1)=aa (pS C s.heap.objs.size):=by
  have:=bI (s.heap.push (kD us)) (o:=pS C s.heap.objs.size) rfl;rwa [dB]at this
 exact I1.laid (a:=s.heap.objs.size+1) (t':=s.toks) (fun b u q=>ba _ q) (k4 (dB _ _)) (L7 e2 (by show 1<6;decide) rfl)
theorem Ky{pins:ah}{σ:L2.St}{H:Hp}{s:a9}{Q:VK}{us:au}{vs:ao}(M:qc X.K C f=ae)(F:dy X.prog X.w X.K X.mg X.base eM k f fd ps sp)(hr:gG (k+1) X.A)(hb:Binds X.K fd ps [])
 (I:Inv X pins σ H s)(r:Vals vs us)(hz:vs.length<=bz)
 (h:∀a,H a=ab->sp (.ref a::vs) (upd H a (lR a C ab)) (fun v H2=>v=.j7/\Q (.ref a) H2) E0):
 bM (bK X.prog X.w) X.A (call (.ref C) us) (EP X pins σ Q) X.xe s:=by
 have hq:=h (s.heap.objs.size+1) (I.gx.fresh (qZ _))
 have I2:=X3 (C:=C) us I
 have r2:Vals (V.ref (s.heap.objs.size+1)::vs) (cu (s.heap.objs.size+1)::us):=.cons rfl r
 have hl:(cu (s.heap.objs.size+1)::us++[]).length=ps.length:=by
  have e:=r2.length;rw[F.len _ _ _ _ hq]at e;rw[cp];exact e.symm
 have Ip:=hb _ (cu (s.heap.objs.size+1)::us) I2.wQ hl
 rw[cp]at Ip
 obtain⟨hp,g,d,tk,os⟩:=s
 refine m8 (ahg (mkX I.wQ M) (by rw[<-r.length];exact hz) (iU (F.run _ X.stack _ _ ⟨cu (hp.objs.size+1)::us,[]⟩ (cu (hp.objs.size+1)::us) _ _ E0 (hr.make C us [])
  (I2.aev.make C us []) Ip r2 hq) fun r s' X8=>?_))
 cases r with
 |error e=>exact(show False from X8).elim
 |ok fl=>
  cases fl with
  |ret u=>
   obtain⟨v,H',I3,rv,ev,q3⟩:=I2.after X8
   subst ev
   exact⟨rv,⟨V.ref (hp.objs.size+1),H',I3,rfl,q3⟩⟩
  |next=>exact fB X8
  |brk=>exact fB X8
  |cont=>exact fB X8
theorem Xn(M:qc X.K C f=ae)(F:dy X.prog X.w X.K X.mg X.base eM k f fd ps sp)(hr:gG (k+1) X.A)(hg:Gl X x)(hm:X.mg x=aa (.ref C))(hb:Binds X.K fd ps [])
 (ha:PA X (e::es) t)(AG:(x==("__debug__":Str))=af:=by decide)(he:bX (e::es) X.env=(af,eval e X.env)::bX es X.env:=by rfl)(yT:(gz pos (bX es X.env)).any (·.1)=af:=by rfl):
 PE X (.Call (.Name x p) (e::es) [] pos) (An C sp t):=by
 intro pins s σ H Q I h
 refine fh (tp I hg hm ?_ AG)
 refine nF (h₀:=X.base) I.ok.mod.kin (N6 M).kp (ic (ha pos pins s σ H _ I h) fun us s1 ⟨vs,H1,I1,r,q1,q⟩=>⟨I1.wQ,?_⟩) he yT
 exact Ky M F hr hb I1 r q1 q
theorem UR(M:qc X.K C f=ae)(F:dy X.prog X.w X.K X.mg X.base eM k f fd ps sp)(hr:gG (k+1) X.A)(hg:Gl X x)(hm:X.mg x=aa (.ref C))(hb:Binds X.K fd ps [])
 (AG:(x==("__debug__":Str))=af:=by decide):PE X (.Call (.Name x p) [] [] pos) (An C sp Dr):=by
 intro pins s σ H Q I h
 refine fh (tp I hg hm ?_ AG)
 exact zG I.wQ (N6 M).kp (Ky (us:=[]) M F hr hb I .nil h.1 h.2)
end
end XL
end
section
namespace XL
open PySem PySem.Spec PyProof.Rows L2
open PySem.W (Looks)
def Lr(K:aY)(E:XK)(te:TE):TS:=fun D σ H=>te σ H fun x H1=>∃a C f d,x=.ref a/\H1 a=aa (lR a C d)/\qc K C f=ae/\E (.ref a) ab (upd H1 a (Ea a C d))
section
variable{prog:bY}{w:cX}{A:cZ}{E:ar}{s:a9}{a C f:Addr}
theorem UK{env:Env}{x:Sem aX}{Q:Flow->a9->Prop}(hh:A.handled=ab)
 (h:bM (bK prog w) A x (fun v s1=>∃a C f d vs sl,v=.ref a/\Zt (bK prog w) s1.heap C f/\s1.heap.get? a=aa ⟨.ref C,d,.fields vs,sl⟩/\vs[1]?=aa .none/\E (.ref a) s1) E s):
 bM (bK prog w) A (raiseStmt env (aa x) ab) Q E s:=by
 unfold raiseStmt
 refine aP (eE h (fun v s1 h1=>?_) fun _ _ z=>z)
 obtain⟨a,C,f,d,vs,sl,rfl,Y,ha,hn,hE⟩:=h1
 obtain⟨hp,g,dr,tk,os⟩:=s1
 have t1:Looks (bK prog w) hp (NA (.ref a)) (.ref C):=(nN ha).andThen .now
 have t2:=Y.ty
 have t3:=Y.YH
 have t4:Looks (bK prog w) hp (isType (.ref a)) af:=(nN (part:=aa headPart) ha).andThen .now
 have t5:Looks (bK prog w) hp (isExcClass (.ref a)) af:=t4.andThen .now
 have t6:Looks (bK prog w) hp (wk (.ref a) (.type "BaseException")) ae:=t1.andThen t3
 have t7:∀c,Looks (bK prog w) hp (excFromValue (.ref a) c) (.ref a):=fun c=>t5.andThen (t6.andThen .now)
 have t8:Looks (bK prog w) hp (raisedInstance (.ref a)) (.ref a):=t1.andThen (t2.andThen .now)
 refine aP (bg (aP (d8 ((t7 _).at ?_))))
 refine aP (t4.at ?_)
 refine aP (t8.at (aP ?_))
 unfold VY
 refine aP (gY ha rfl hn ?_)
 exact bg (wpAny_raiseNew_none hh hE)
end
section
variable{X:Cx}{E:XK}{e:Expr}{te:TE}{pos:Pos}
theorem kK(B:Bd X)(hc:X.calm=ae)(he:PE (Pt X E) e te):PS (Pt X E) (.Raise (aa e) ab pos) (Lr X.K E te):=by
 intro pins s σ H D I h;rw[arm_exec_Raise];refine aP (lU ?_);refine UK (I.ok.hd hc) (aP (ic (he pins s σ H _ I h) fun u s1 ⟨x,H1,I1,rx,a,C,f,d,ex,ea,m,q⟩=>aP (lU (bg ?_))));subst ex;obtain rfl:u=cu a:=rx;obtain⟨vs,sl,q1,q2,q3⟩:=Gm I1.gx ea;refine⟨a,C,f,d,vs,sl,rfl,mkX I1.wQ m,q1,q3,a,_,rfl,⟨⟨σ,?_⟩,⟨C,d,bf⟩,_,vs,q1,rfl,q2,.inl q3,fun T hT=>?_⟩,q⟩
 ·have I2:Inv X [] σ H1 s1:=I1.pb.BD fun p hp=>absurd hp (by simp);exact I2.write (x:=a) (e:=a) (h':=s1.heap) (t':=s1.toks) (by rw[ea];exact jw) (.inl rfl) (fun b u _ z=>z) ⟨_,q1⟩ (Xv q1 q2)
 rw[q3]at hT;cases hT
end
inductive acR(K:aY)(n:Str)(Q:VK)(x:V)(H1:Hp):Prop
 |mk (a:_) (C:_) (f:_) (dx:_) (fs:_) (v:_) (_:x=.ref a) (_:H1 a=aa (Ea a C (aa dx))) (_:H1 dx=aa (Cu dx fs)) (_:qc K C f=ae) (_:eV K C n) (_:fs.lookup n=aa v) (_:Q v H1)
def SU(K:aY)(ta:TE)(n:Str):TE:=fun σ H Q=>ta σ H fun x H1=>acR K n Q x H1
inductive Z0(K:aY)(n:Str)(D:L2.Ends)(σ:L2.St)(y:V)(x:V)(H2:Hp):Prop
 |mk (a:_) (C:_) (f:_) (_:x=.ref a) (_:H2 a=aa (lR a C ab)) (_:qc K C f=ae) (_:eV K C n) (_:∀dx,H2 dx=ab->D.nx σ (upd (upd H2 dx (Cu dx [(n,y)])) a (lR a C (aa dx))))
def ac4(K:aY)(ta tv:TE)(n:Str):TS:=fun D σ H=>tv σ H fun y H1=>ta σ H1 fun x H2=>Z0 K n D σ y x H2
inductive ac3(K:aY)(n:Str)(D:L2.Ends)(σ:L2.St)(y:V)(x:V)(H2:Hp):Prop
 |mk (a:_) (C:_) (f:_) (dx:_) (fs:_) (_:x=.ref a) (_:H2 a=aa (lR a C (aa dx))) (_:H2 dx=aa (Cu dx fs)) (_:qc K C f=ae) (_:eV K C n) (_:fs.length<1000) (_:D.nx σ (upd H2 dx (Cu dx (rL n y fs))))
def afL(K:aY)(ta tv:TE)(n:Str):TS:=fun D σ H=>tv σ H fun y H1=>ta σ H1 fun x H2=>ac3 K n D σ y x H2
section
variable{X:Cx}{o e value:Expr}{n:Str}{pos pos' GG:Pos}{ta tv:TE}
theorem LS(he:PE X e ta)(hb:sA e n X.env (eval e X.env)=eval e X.env):PE X (.Attribute e n pos) (SU X.K ta n):=by
 intro pins s σ H Q I h;refine Uc hb (ic (he pins s σ H _ I h) fun u s1 ⟨x,H1,I1,rx,a,C,f,dx,fs,v,ex,ea,ed,m,hn,l,q⟩=>?_);subst ex;obtain rfl:u=cu a:=rx;obtain⟨vs,sl,q1,q2⟩:=IB I1.gx ea;obtain⟨q3,mA,q4,q5,q6⟩:=Yv I1.gx ed;obtain⟨u,hu,ru⟩:=qW.some_of (v:=v) (o:=mA n) (by rw[<-l];exact q5 n);have F:=N6 m;exact akj I1.wQ (mkX I1.wQ m) q1 q4 F.hd F.ga F.gt hn hu (KZ ru) ⟨v,H1,I1.tok _,ru,q⟩
theorem Tg(ha:PE X o ta)(hv:PE X value tv)(hs:pU value (aa (.Attribute o n pos')) pos.line X.env=pure af):PS X (.Assign [.Attribute o n pos'] value pos) (afL X.K ta tv n):=by
 intro pins s σ H D I h;refine qX (ic (hv pins s σ H _ I h) fun u s1 ⟨y,H1,I1,ry,q⟩=>ic (ha pins s1 σ H1 _ I1 q) fun ov s2 ⟨x,H2,I2,rx,a,C,f,dx,fs,ex,ea,ed,m,hn,l,q2⟩=>?_) hs;subst ex;obtain rfl:ov=cu a:=rx;obtain⟨vs,sl,q1,_,_⟩:=Gm I2.gx ea;obtain⟨q3,mA,q4,q5,q6⟩:=Yv I2.gx ed;refine W0 (ns:=fs.map (·.1)) I2.wQ (mkX I2.wQ m) q1 q4 (N6 m).sa hn q6 (by rw[aV,bZ];omega) fun h' n1 sb=>⟨σ,_,?_,q2⟩;have ho:∃o,h'.get? dx=aa o:=let⟨o,_,_,z,_⟩:=n1;⟨o,z⟩
 refine I2.write (x:=dx) (e:=dx) (by rw[ed];exact jw) (.inl rfl) (fun b q hb z=>(sb.2 b hb).trans z) ho (Xw n1 (fun g=>?_) (fun g hg=>?_) ?_)
 ·rw[xX];by_cases z:g=n
  ·rw[da z,da z];exact ry
  rw[cQ z,cQ z];exact q5 g
 ·by_cases z:g=n
  ·rw[z];exact(uR n y fs).1
  refine(uR n y fs).2 g (q6 g fun z2=>hg ?_);show(if g=n then aa u else mA g)=ab;rw[cQ z];exact z2
 have:=x5 n y fs;omega
theorem Xd(ha:PE X o ta)(hv:PE X value tv)(hs:pU value (aa (.Attribute o n pos')) pos.line X.env=pure af):PS X (.Assign [.Attribute o n pos'] value pos) (ac4 X.K ta tv n):=by
 intro pins s σ H D I h;refine qX (ic (hv pins s σ H _ I h) fun u s1 ⟨y,H1,I1,ry,q⟩=>ic (ha pins s1 σ H1 _ I1 q) fun ov s2 ⟨x,H2,I2,rx,a,C,f,ex,ea,m,hn,q2⟩=>?_) hs;subst ex;obtain rfl:ov=cu a:=rx;obtain⟨vs,sl,q1,z1,z2⟩:=Gm I2.gx ea;have fr:H2 s2.heap.objs.size=ab:=I2.gx.fresh (bu _);have na:s2.heap.objs.size≠a:=fun z=>by rw[z,ea]at fr;cases fr
 refine W2 I2.wQ (mkX I2.wQ m) q1 (N6 m).sa hn fun h' g1 n1 k1=>⟨σ,_,?_,q2 _ fr⟩;have tkd:∀b u,H2 b=aa u->b≠s2.heap.objs.size:=fun b u z q=>by rw[q,fr]at z;cases z
 refine I2.un ⟨fun b o z nb _ _=>k1 b o (fun q=>by rw[q,ea]at nb;cases nb) z,fun b o z nb _ _=>⟨o.slots,k1 b o (fun q=>by rw[q,ea]at nb;cases nb) z⟩,fun b o z nb _=>?_,fun b o z _=>?_,
  fun b xs z=>?_,fun b o xs z=>?_,fun b ps z=>⟨#[],?_⟩⟩ fun b u z=>?_
 ·have b1:b≠a:=fun q=>by rw[q,ea]at nb;cases nb
  rw[bB b1,bB (ck (bG z))];exact nb
 ·by_cases b1:b=a
  ·rw[b1];exact⟨_,g1⟩
  exact⟨o,k1 b o b1 z⟩
 ·rw[bB (fun q=>by rw[q,ea]at z;cases z),bB (tkd b _ z)];exact z
 ·rw[bB (fun q=>by rw[q,ea]at z;cases z),bB (tkd b _ z)];exact z
 ·rw[bB (fun q=>by rw[q,ea]at z;cases z),bB (tkd b _ z),z];simp
 by_cases b1:b=a
 ·subst b1;rw[bf]at z;cases z;exact L7 g1 z1 z2
 rw[bB b1]at z;by_cases b2:b=s2.heap.objs.size
 ·subst b2;rw[bf]at z;cases z;refine Xw n1 (fun g=>?_) (fun g hg=>?_) (by show 1<=1000;decide)
  ·by_cases q:g=n
   ·have hb:(g==n)=ae:=beq_iff_eq.mpr q;simp only[ig,hb,da q];exact ry
   have hb:(g==n)=af:=beq_eq_false_iff_ne.mpr q;simp only[ig,hb,cQ q];exact jw
  by_cases q:g=n
  ·rw[q];exact bU.mpr rfl
  exact absurd (cQ q) hg
 rw[bB b2]at z;refine(I2.gx b u z).tM (fun c v hc q=>k1 c v (fun qa=>?_) q) (fun c q=>?_) fun c xs q=>?_
 ·rcases hc with hc|hc
  ·exact b1 (hc.symm.trans qa)
  rw[qa,ea]at hc;cases hc
 ·rw[bB (fun qa=>by rw[qa,ea]at q;cases q),bB (tkd c _ q)];exact q
 rw[bB (fun qa=>by rw[qa,ea]at q;cases q),bB (tkd c _ q)];exact q
end
section
variable{prog:bY}{w:cX}{A:cZ}{E:ar}{C f a:Addr}{R:Ey->a9->Prop}{h:Heap}{g:Array Kc}{d:Drawn}{t:Nat}{os:OsState}
theorem ago{dd:Option Addr}{vs:Array aX}{sl:Array (Option aX)}(Y:Zt (bK prog w) h C f)(ha:h.get? a=aa ⟨.ref C,dd,.fields vs,sl⟩)(hz:1<vs.size)
 (hq:R (.ok (.ret .none)) ⟨(h.push (kD [])).update a (js (·.setIfInBounds 0 (.ref h.objs.size))),g,d,t,os⟩):
 jA (bK prog w) A (.call (.builtin "Exception.__init__") ⟨[.ref a],[]⟩) R ⟨h,g,d,t,os⟩:=by
 have F:=Ji
 have agy:=F.noStar
 have t1:Looks (bK prog w) h (NA (.ref a)) (.ref C):=(nN ha).andThen .now
 have t2:Looks (bK prog w) h (wk (.ref a) (.type "Exception")) ae:=t1.andThen Y.exc
 obtain⟨v0,h0⟩:∃v0,vs[0]?=aa v0:=⟨_,Array.getElem?_eq_getElem (by omega)⟩
 refine kb F.init.plain F.initEntry ?_
 simp only[zD,F.initKind,F.initSplit,F.initRow]
 refine aP (t2.at ?_)
 rw[cQ (by decide)]
 obtain⟨oc,od,cd,slc,hC,e1,e4,e5,e6⟩:=Y.obj
 show bM _ _ (Bind.checkArgs _ _ _) _ _ _
 unfold Bind.checkArgs
 repeat (first|(with_reducible refine wpAny_loadPart_at ha ?_)|(with_reducible refine wpAny_loadPart_at hC ?_)|wp_step)
 rw[h0]
 have ha2:(h.push (kD [])).get? a=aa ⟨.ref C,dd,.fields vs,sl⟩:=ba _ ha
 refine bg (aP (Er ha2 rfl (by omega) ?_))
 have fin:∀v:aX,bM (bK prog w) A.in1 (match v with|cu a=>letGo [v]|x=>pure ()) (fun _ s'=>bM (bK prog w) A.in1 (ret eG)
  (fun fin s'=>match fin with|Fin.done f=>R (lX f) s'|Fin.again c'=>c'.quiet=ae/\jA (bK prog w) A c' R s') (fun e s'=>R (Dk e) s') s') (fun e s'=>R (Dk e) s')
  ⟨(h.push (kD [])).update a (js (·.setIfInBounds 0 (.ref h.objs.size))),g,d,t,os⟩:=fun v=>by
  cases v with
  |ref b=>exact wpAny_letGo (bg hq)
  |_=>exact bg (bg hq)
 exact fin v0
end
def acQ(K:aY)(t:TE):TE:=fun σ H Q=>t σ H fun x H1=>∃a C f d,x=.ref a/\H1 a=aa (lR a C d)/\qc K C f=ae/\Q .j7 H1
theorem aes(K:aY):wH K (.type "Exception") (.type "type") "__init__"=aa (.val (.builtin "Exception.__init__")):=by kernel_rfl
theorem acE:NA (.type "Exception")=pure (.type "type"):=by kernel_rfl
theorem acW:Manifest.isStub "Exception"=af:=by kernel_rfl
theorem aeF:ip "Exception"=aa (.type "Exception"):=by kernel_rfl
section
variable{X:Cx}{k:Nat}{f C:Addr}{fd:bC}{ps:ak}{sp:Sp}{x m:Str}{p pos apos:Pos}{e o:Expr}{es:List Expr}{ta te:TE}{t:TA}
theorem Q9{pl:Sem Bool}(hg:Gl X "Exception")(hm:X.mg "Exception"=ab)(he:PE X e te)
 (KS:bX [e] X.env=(af,eval e X.env)::bX [] X.env:=by rfl)(yT:(gz pos (bX [] X.env)).any (·.1)=af:=by rfl)
 (ht:eval (.Call (.Attribute (.Name "Exception" p) "__init__" apos) [e] [] pos) X.env=(do
  let ov<-eval (.Name "Exception" p) X.env
  sy apos.atName
  let(f,first)<-qI [ov] (pW ov "__init__" pl)
  sS pos f first (gz pos (bX [e] X.env)) (wm pos (m9 [] X.env))):=by rfl):
 PE X (.Call (.Attribute (.Name "Exception" p) "__init__" apos) [e] [] pos) (acQ X.K te):=by
 intro pins s σ H Q I h
 have hn:PE X (.Name "Exception" p) (tC (.ty "Exception")):=aae hg hm aeF rfl
 refine o5 (pl:=pl) (ic (hn pins s σ H (fun v H'=>v=.ty "Exception"/\H'=H) I ⟨rfl,rfl⟩) fun u s1 ⟨y,H1,I1,rx,ey,eH⟩=>?_) ht
 subst ey eH
 obtain rfl:u=iV "Exception":=rx
 obtain⟨mF,FR⟩:=I1.fr
 refine PySem.W.method_type FR I1.ok.mod.kin acE acW (aes _) rfl ?_
 have I2:Inv X pins σ H1 {s1 with toks:=s1.toks+1}:=I1.tok _
 have Mr:bM (bK X.prog X.w) X.A (E3 (gz pos (bX [e] X.env))) (AP X pins σ (fun vs H2=>match vs with|[x]=>∃a C f d,x=.ref a/\H2 a=aa (lR a C d)/\qc X.K C f=ae/\Q .j7 H2|_=>False)) X.xe {s1 with toks:=s1.toks+1}:=
  (aQ he bq KS) pos pins _ σ H1 _ I2 h
 rw[KS]at Mr⊢
 refine PySem.W.callWith_of (P:=fun _=>True) (by show((af||(gz pos (bX [] X.env)).any (·.1))||af)=af;rw[yT];rfl) (fun _ _=>⟨.machine,.inr (.inl rfl),Gv rfl⟩) (zH (ic Mr fun us s2 ⟨vs,H2,I3,r,q⟩=>⟨jw,?_⟩))
 match vs,r,q with
 |[x0],r,q=>
  obtain⟨a,C,f,d,rfl,ea,mm,q⟩:=q
  obtain⟨u,rfl,ru⟩:=vals1 r
  cases ru
  obtain⟨vs,sl,q1,q2,q3⟩:=Gm I3.gx ea
  obtain⟨hp,g,dr,tk,os⟩:=s2
  refine m8 (ago (mkX I3.wQ mm) q1 q2 ?_)
  refine⟨.j7,H2,?_,rfl,q⟩
  have I4:=I3.kept (h':=hp.push (kD [])) (t':=tk) fun b u q=>ba _ q
  have q1':(hp.push (kD [])).get? a=aa ⟨.ref C,d,.fields vs,sl⟩:=ba _ q1
  have z:(⟨.ref C,d,.fields vs,sl⟩:Obj).mapFields (·.setIfInBounds 0 (.ref hp.objs.size))=⟨.ref C,d,.fields (vs.setIfInBounds 0 (.ref hp.objs.size)),sl⟩:=rfl
  have q5:=dQ (js (·.setIfInBounds 0 (.ref hp.objs.size))) q1' rfl
  rw[z]at q5
  have I5:=I4.write (x:=a) (e:=a) (o:=lR a C d) (h':=(hp.push (kD [])).update a (js (·.setIfInBounds 0 (.ref hp.objs.size)))) (t':=tk) (by rw[ea];exact jw) (.inl rfl) (fun b u hb q=>by rw[cv _ _ (dh hb)];exact q) ⟨_,q5⟩
   (L7 q5 (by simpa using q2) (by rw[<-q3];simp))
  have e2:upd H2 a (lR a C d)=H2:=by
   funext b;by_cases hb:b=a
   ·rw[hb,bf,ea]
   rw[bB hb]
  rw[e2]at I5
  exact I5
theorem mf{CX:Qp}{E:XK}{ds:au}{De:ao}{pl:Sem Bool}(Ij:FQ X.K C (.type "type")=ae)(VW:CV X.K (.ref C) "__getattribute__"=aa (aa (.builtin "type.__getattribute__")))
 (hfc:wH X.K (.ref C) (.type "type") m=aa (.val (.ref f)))(hk:jg X.K (.ref f)=ae)
 (F:dy X.prog X.w X.K X.mg X.base CX k f fd ps sp)(hr:gG k X.A)(hg:Gl X x)(hm:X.mg x=aa (.ref C))(hb:Binds X.K fd ps ds)(hd:Vals De ds)(hx:Passes CX X E)(ha:PA X (e::es) t)
 (AG:(x==("__debug__":Str))=af:=by decide)
 (KS:bX (e::es) X.env=(af,eval e X.env)::bX es X.env:=by rfl)(yT:(gz pos (bX es X.env)).any (·.1)=af:=by rfl)
 (ht:eval (.Call (.Attribute (.Name x p) m apos) (e::es) [] pos) X.env=(do
  let ov<-eval (.Name x p) X.env
  sy apos.atName
  let(f,first)<-qI [ov] (pW ov m pl)
  sS pos f first (gz pos (bX (e::es) X.env)) (wm pos (m9 [] X.env))):=by rfl):
 PE X (.Call (.Attribute (.Name x p) m apos) (e::es) [] pos) (SV sp De E t):=by
 intro pins s σ H Q I h
 have hn:PE X (.Name x p) (tC (.ref C)):=Ge hg hm rfl AG
 refine o5 (pl:=pl) (ic (hn pins s σ H (fun v H'=>v=.ref C/\H'=H) I ⟨rfl,rfl⟩) fun u s1 ⟨y,H1,I1,rx,ey,eH⟩=>?_) ht
 subst ey eH
 obtain rfl:u=cu C:=rx
 refine PySem.W.method_cls I1.wQ VW (PySem.W.cls_value I1.wQ Ij hfc rfl ?_)
 refine nF (first:=[]) (h₀:=X.base) I.ok.mod.kin hk (ic (ha pos pins _ σ H1 _ (I1.tok _) h) fun us s2 ⟨vs,H2,I2,r,q2⟩=>⟨I2.wQ,?_⟩) KS yT
 exact LK F hr hb hd hx I2 r q2
end
section
variable{M:Gx}{h:Heap}{C f Ci fi a:Addr}
theorem ES{b:Bool}{d:Option Addr}{vs:Array aX}{sl:Array (Option aX)}(Yi:Zt M h Ci fi)(ha:h.get? a=aa ⟨.ref C,d,.fields vs,sl⟩)(sb:Looks M h (se (.ref C) (.ref Ci)) b):
 Looks M h (Su (.ref a) (.ref Ci)) b:=by
 have t1:Looks M h (NA (.ref a)) (.ref C):=(nN ha).andThen .now
 obtain⟨oc,od,cd,slc,hC,e1,e4,e5,e6⟩:=Yi.obj
 have t2:Looks M h (wk (.ref Ci) (.type "tuple")) af:=Yi.ty.andThen (Gv tc_notTuple)
 have t3:Looks M h (isType (.ref Ci)) ae:=(nN (part:=aa headPart) hC).andThen .now
 have t4:Looks M h (isExcClass (.ref Ci)) ae:=t3.andThen Yi.YH
 intro A Q E s k q
 unfold Su
 refine aP (t2 A _ E s k ?_)
 rw[cQ (by decide)]
 refine aP (bg ?_)
 simp only[nQ,tJ]
 refine aP (aP (aP (t4 A _ E s k ?_)))
 refine bg (bg (aP (t1 A _ E s k (aP (aP (aP (sb A _ E s k ?_)))))))
 cases b with
 |true=>exact bg (bg (bg q))
 |false=>exact bg (bg (bg q))
end
section
variable{X:Cx}{pins:ah}{σ:L2.St}{H:Hp}{s:a9}
theorem name_goes{M:Gx}{A:cZ}{E:ar}{i:Nat}{n:Str}{pos:Pos}{Q:Unit->a9->Prop}(I:Inv X pins σ H s)(hN:X.N.Nodup)(hi:X.N[i]?=aa n)(hk:X.env.scope.names.lookup n=aa .local)
 (h:∀s',Inv X pins (σ.set i ab) H s'->Q () s'):bM M A (do bindName X.env n .none;unbindBehindTheSuite X.env n pos) Q E s:=by
 obtain⟨m,hn,hl⟩:=id I.loc
 have aee:(X.env.scope.kind== .class||(X.env.scope.kind== .module&&X.env.locals != X.env.globals))=af:=by
  rw[I.ok.kind];rfl
 have nl:∀{b:Addr}{o:Obj},X.DE.heap.get? b=aa o->b≠X.env.locals:=fun e=>ck (bJ (bG e) I.ok.above)
 refine wpAny_nameGoes_keeps hk hn aee fun h' v n2 hs=>h _ ?_
 refine⟨I.ok,I.os,I.bare,⟨fun b o e z hb hx=>(hs.2 b (nl e)).trans (I.base.keep b o e z hb hx),fun b o e z hb hx=>?_,I.base.free,fun b o e hx=>?_,I.base.Fb,I.base.Iu,I.base.GJ⟩,⟨_,n2,fun j y v' e1 e2 e3=>?_⟩,fun y c e=>?_,
  I.free,I.p0,fun p hp=>?_,fun b ob e=>?_,by rw[fO];exact I.len⟩
 ·obtain⟨sl,e1⟩:=I.base.slot b o e z hb hx
  exact⟨sl,(hs.2 b (nl e)).trans e1⟩
 ·obtain⟨o',e1⟩:=I.base.there b o e hx
  exact⟨o',(hs.2 b (nl e)).trans e1⟩
 ·have hj:j≠i:=fun q=>by
   subst q;rw[o7 (by rw[I.len];exact(aZ.mp e1).1)]at e2;cases e2
  rw[qO (dh hj)]at e2
  obtain⟨u,r,q⟩:=hl j y v' e1 e2 e3
  refine⟨u,r,?_⟩
  rcases q with⟨k,e⟩|⟨k,c,e,z⟩
  ·refine .inl ⟨k,?_⟩
   have ny:y≠n:=fun q=>hj (BQ hN e1 (q▸hi))
   show(if y=n then v else m y)=_
   rw[cQ ny]
   exact e
  exact .inr ⟨k,c,e,z.sameBut hs (I.cne y c e)⟩
 ·obtain⟨w',z⟩:=I.cell y c e
  exact⟨w',z.sameBut hs (I.cne y c e)⟩
 ·obtain⟨e,z,ne,nf,d⟩:=I.pin p hp
  exact⟨(hs.2 p.1 ne).trans e,z,ne,nf,d⟩
 refine(I.gx b ob e).tM (fun c w' hc q=>(hs.2 c fun z=>?_).trans q) (fun _ q=>q) fun _ _ q=>q
 rcases hc with hc|hc
 ·rw[<-hc,z,I.free]at e
  cases e
 rw[z,I.free]at hc
 cases hc
end
abbrev pin(X:Cx)(pn:ah):Cx:={X with pn:=pn}
abbrev hand(X:Cx)(a:Addr):Cx:={X with A:=X.A.mark (aa (.ref a)),calm:=af,xe:=fun _ _=>False}
section
variable{X:Cx}{pins:ah}{σ:L2.St}{H:Hp}{s:a9}{a:Addr}
theorem Inv.pinned(I:Inv X pins σ H s):Inv (pin X (X.pn++pins)) [] σ H s:=
 ⟨⟨I.ok.mod,I.ok.kind,I.ok.glob,I.ok.blt,I.ok.above,I.ok.inj,I.ok.has,I.ok.cab,I.ok.hd,I.ok.frames,I.ok.QS,I.ok.exf,I.ok.bs,I.ok.Sb,I.ok.L8,I.ok.MI,I.ok.yb,I.ok.Vm⟩,I.os,I.bare,I.base,I.loc,I.cell,I.free,I.p0,
  fun p hp=>I.pin p (by rw[cp]at hp;exact hp),I.gx,I.len⟩
theorem Inv.ma(I:Inv (pin X (X.pn++pins)) [] σ H s):Inv X pins σ H s:=
 ⟨⟨I.ok.mod,I.ok.kind,I.ok.glob,I.ok.blt,I.ok.above,I.ok.inj,I.ok.has,I.ok.cab,I.ok.hd,I.ok.frames,I.ok.QS,I.ok.exf,I.ok.bs,I.ok.Sb,I.ok.L8,I.ok.MI,I.ok.yb,I.ok.Vm⟩,I.os,I.bare,I.base,I.loc,I.cell,I.free,I.p0,
  fun p hp=>I.pin p (by rw[cp];exact hp),I.gx,I.len⟩
theorem Inv.hand(I:Inv X pins σ H s)(a:Addr):Inv (hand X a) pins σ H s:=
 ⟨⟨I.ok.mod,I.ok.kind,I.ok.glob,I.ok.blt,I.ok.above,I.ok.inj,I.ok.has,I.ok.cab,fun z=>(nomatch (show af=ae from z)),I.ok.frames,I.ok.QS,I.ok.exf,I.ok.bs,I.ok.Sb,I.ok.L8,I.ok.MI,I.ok.yb,I.ok.Vm⟩,I.os,I.bare,I.base,I.loc,I.cell,I.free,I.p0,I.pin,I.gx,I.len⟩
theorem Inv.Al(c:X.calm=ae->X.A.handled=ab)(I:Inv (XL.hand X a) pins σ H s):Inv X pins σ H s:=
 ⟨⟨I.ok.mod,I.ok.kind,I.ok.glob,I.ok.blt,I.ok.above,I.ok.inj,I.ok.has,I.ok.cab,c,I.ok.frames,I.ok.QS,I.ok.exf,I.ok.bs,I.ok.Sb,I.ok.L8,I.ok.MI,I.ok.yb,I.ok.Vm⟩,I.os,I.bare,I.base,I.loc,I.cell,I.free,I.p0,I.pin,I.gx,I.len⟩
end
abbrev HR:=Addr->Hp->Ends->Prop
def PH(X:Cx)(E:XK)(hs:List yB)(t:HR):Prop:=
 ∀(pins:ah)(a:Addr)(H:Hp)(s:a9)(D:Ends),YY (pin X (X.pn++pins)) a H s->Ent s.heap a->t a H D->bM (bK X.prog X.w) X.A (handleBy (.ref a) X.env hs) (SP X pins D) (YX X E) s
def ain(tb:XK->TS)(th:HR):TS:=fun D σ H=>tb (fun e _ H'=>∃a,e=.ref a/\th a H' D) D σ H
def WT(X:Cx):L2.St:=cA X.N.length ab
theorem aap{X:Cx}{pins:ah}:nb X<=nb (pin X (X.pn++pins)):=
 (B5 X.pn X.DE.heap.objs.size).2.2 _ (Tz (pin X (X.pn++pins))) fun p hp=>XE (X:=pin X (X.pn++pins)) (fK _ hp)
theorem YY.Oc{X:Cx}{pins:ah}{a:Addr}{H:Hp}{s:a9}(F:YY (pin X (X.pn++pins)) a H s):YY X a H s:=by
 obtain⟨⟨σ,I⟩,e,t⟩:=F;exact⟨⟨σ,(Inv.ma I).BD fun p hp=>(nomatch hp)⟩,e,t.mono aap⟩
theorem SP.Oc{X:Cx}{pins:ah}{D:Ends}{f:Flow}{s:a9}(h:SP (pin X (X.pn++pins)) [] D f s):SP X pins D f s:=by
 cases f with
 |next=>obtain⟨σ,H,I,q⟩:=h;exact⟨σ,H,Inv.ma I,q⟩
 |brk=>obtain⟨σ,H,I,q⟩:=h;exact⟨σ,H,Inv.ma I,q⟩
 |cont=>obtain⟨σ,H,I,q⟩:=h;exact⟨σ,H,Inv.ma I,q⟩
 |ret u=>obtain⟨v,σ,H,I,r,q⟩:=h;exact⟨v,σ,H,Inv.ma I,r,q⟩
theorem SP.tL{X:Cx}{E:ar}{pins:ah}{D:Ends}{f:Flow}{s:a9}(h:SP X pins D f s):SP (X.tL E) pins D f s:=by
 cases f with
 |next=>obtain⟨σ,H,I,q⟩:=h;exact⟨σ,H,I.tL E,q⟩
 |brk=>obtain⟨σ,H,I,q⟩:=h;exact⟨σ,H,I.tL E,q⟩
 |cont=>obtain⟨σ,H,I,q⟩:=h;exact⟨σ,H,I.tL E,q⟩
 |ret u=>obtain⟨v,σ,H,I,r,q⟩:=h;exact⟨v,σ,H,I.tL E,r,q⟩
section
variable{X:Cx}{E:XK}
theorem Xb{body:List Stmt}{h0:yB}{hs:List yB}{pos:Pos}{tb:XK->TS}{th:HR}(B:Bd X)(hb:∀pn E1,Nt (Pt (pin X pn) E1) body (tb E1))(hh:PH X E (h0::hs) th):
 PS (Pt X E) (.Try body (h0::hs) [] [] pos) (ain tb th):=by
 intro pins s σ H D I h
 have I1:Inv (pin X (X.pn++pins)) [] σ H s:=Inv.pinned I.pb
 refine wpAny_Try_except (eE (hb (X.pn++pins) _ [] s σ H D (I1.tL _) h) (fun f s1 q=>?_) fun e s1 q=>?_)
 ·have q2:SP (Pt X E) pins D f s1:=SP.tL (SP.Oc (q.pb))
  cases f with
  |next=>exact uq q2
  |brk=>exact q2
  |cont=>exact q2
  |ret u=>exact q2
 obtain⟨a,H1,e1,F,a',e2,q⟩:=q
 subst e1
 cases e2
 have B1:Bd (pin X (X.pn++pins)):=⟨B.QS,B.fr⟩
 have hA:X.A.frames=aa (pin X (X.pn++pins)).stack:=I.ok.frames
 refine XA (X:=pin X (X.pn++pins)) B1 hA F fun s2 F2 n2=>?_
 refine yV (X:=pin X (X.pn++pins)) B1 F2 fun s3 F3 n3=>?_
 exact ic (hh pins a H1 s3 D F3 (n3 n2) q) fun f s4 z=>SP.tL z
end
section
variable{X:Cx}{E:XK}
theorem Xi(B:Bd X):PH X E [] (fun a H _=>E (.ref a) ab H):=by
 intro pins a H s D F n h;refine wpAny_handleBy_nil ?_;unfold PySem.passOn;obtain⟨oe,vs,T,e1,e2,e3⟩:=n;refine aP (gY e1 e2 e3 ?_);rw[cQ (show¬(cu T==eG)=ae from by simp)];refine aP (yV (X:=X) B (YY.Oc F) fun s' F' _=>?_);exact wpAny_throw ⟨a,H,rfl,F',h⟩
theorem SP.Al{X:Cx}{a:Addr}{pins:ah}{D:Ends}{f:Flow}{s:a9}(c:X.calm=ae->X.A.handled=ab)(h:SP (hand X a) pins D f s):SP X pins D f s:=by
 cases f with
 |next=>obtain⟨σ,H,I,q⟩:=h;exact⟨σ,H,Inv.Al c I,q⟩
 |brk=>obtain⟨σ,H,I,q⟩:=h;exact⟨σ,H,Inv.Al c I,q⟩
 |cont=>obtain⟨σ,H,I,q⟩:=h;exact⟨σ,H,Inv.Al c I,q⟩
 |ret u=>obtain⟨v,σ,H,I,r,q⟩:=h;exact⟨v,σ,H,Inv.Al c I,r,q⟩
theorem Kx{X:Cx}{pins:ah}{σ:L2.St}{H:Hp}{s:a9}(I:Inv X pins σ H s):Inv X pins (WT X) H s:=
 I.weak (by unfold WT;rw[iu,I.len]) fun i v e=>by
  unfold WT at e;rw[Qi]at e;split at e<;>cases e
inductive ag0(K:aY)(Ci:Addr)(ts:HR)(tr:HR)(a:Addr)(H:Hp)(D:L2.Ends):Prop
 |mk (C:_) (f:_) (d:_) (b:_) (_:H a=aa (Ea a C d)) (_:qc K C f=ae) (_:ZA K (.ref C) (.ref Ci)=aa b) (_:if b=ae then ts a H D else tr a H D)
theorem Z9{x:Str}{np pos:Pos}{b0:Stmt}{Om:List Stmt}{rest:List yB}{Ci fi:Addr}{ts:TS}{tr:HR}(B:Bd X)(hg:Gl X x)(hm:X.mg x=aa (.ref Ci))(hci:qc X.K Ci fi=ae)
 (hs:∀pn a,Nt (hand (pin X pn) a) (b0::Om) ts)(hr:PH X E rest tr)(AG:(x==("__debug__":Str))=af:=by decide):
 PH X E (.ExceptHandler (aa (.Name x np)) ab (b0::Om) pos::rest) (ag0 X.K Ci (fun _ H D=>ts D (WT X) H) tr):=by
 intro pins a H s D F n ⟨C,f,d,b,ea,m,sb,q⟩
 obtain⟨⟨σ,I⟩,_⟩:=id F
 obtain⟨vs,sl,q1,q2⟩:=IB I.gx ea
 have B1:Bd (pin X (X.pn++pins)):=⟨B.QS,B.fr⟩
 have Lm:Looks (bK X.prog X.w) s.heap (Su (.ref a) (.ref Ci)) b:=ES (mkX I.wQ hci) q1 (Qt I.wQ sb)
 have c:(pin X (X.pn++pins)).calm=ae->(pin X (X.pn++pins)).A.handled=ab:=I.ok.hd
 refine wpAny_handleBy_cons (Zx (tp (X:=hand (pin X (X.pn++pins)) a) (Inv.hand I a) hg hm ?_ AG)) (by intro z;cases z)
 refine Lm.here ?_
 cases b with
 |true=>
  refine codeAny_handlers_suite (yV (X:=pin X (X.pn++pins)) B1 F fun s1 F1 _=>?_)
  obtain⟨⟨σ1,I1⟩,_⟩:=F1
  have I2:=Inv.hand (Kx I1) a
  refine eE (hs (X.pn++pins) a [] s1 _ H D I2 q) (fun f s2 z=>?_) fun _ _ z=>fB z
  exact SP.Oc (SP.Al c z)
 |false=>exact hr pins a H s D F n q
def aem(i:Nat)(D:Ends):Ends where
 nx:=fun σ H=>D.nx (σ.set i ab) H
 rt:=D.rt
 bk:=fun σ H=>D.bk (σ.set i ab) H
 ct:=fun σ H=>D.ct (σ.set i ab) H
theorem Xj{x n:Str}{i:Nat}{np pos:Pos}{b0:Stmt}{Om:List Stmt}{rest:List yB}{Ci fi:Addr}{ts:TS}{tr:HR}(B:Bd X)(hg:Gl X x)(hm:X.mg x=aa (.ref Ci))(hci:qc X.K Ci fi=ae)
 (hN:X.N.Nodup)(hi:X.N[i]?=aa n)(hk:X.env.scope.names.lookup n=aa .local)
 (hs:∀pn a,Nt (hand (pin X pn) a) (b0::Om) ts)(hr:PH X E rest tr)(AG:(x==("__debug__":Str))=af:=by decide):
 PH X E (.ExceptHandler (aa (.Name x np)) (aa n) (b0::Om) pos::rest) (ag0 X.K Ci (fun a H D=>ts (aem i D) ((WT X).set i (aa (.ref a))) H) tr):=by
 intro pins a H s D F n' ⟨C,f,d,b,ea,m,sb,q⟩
 obtain⟨⟨σ,I⟩,_⟩:=id F
 obtain⟨vs,sl,q1,q2⟩:=IB I.gx ea
 have B1:Bd (pin X (X.pn++pins)):=⟨B.QS,B.fr⟩
 have Lm:Looks (bK X.prog X.w) s.heap (Su (.ref a) (.ref Ci)) b:=ES (mkX I.wQ hci) q1 (Qt I.wQ sb)
 have c:(pin X (X.pn++pins)).calm=ae->(pin X (X.pn++pins)).A.handled=ab:=I.ok.hd
 refine wpAny_handleBy_cons (Zx (tp (X:=hand (pin X (X.pn++pins)) a) (Inv.hand I a) hg hm ?_ AG)) (by intro z;cases z)
 refine Lm.here ?_
 cases b with
 |true=>
  refine codeAny_handlers_suite_as (yV (X:=pin X (X.pn++pins)) B1 F fun s1 F1 _=>?_)
  obtain⟨⟨σ1,I1⟩,_⟩:=F1
  have I2:=Inv.hand (Kx I1) a
  refine Bq (X:=hand (pin X (X.pn++pins)) a) I2 hN hi (.inl hk) (v:=.ref a) rfl (fun s2 I3=>?_) (.inr hk)
  refine eE (hs (X.pn++pins) a [] s2 _ H (aem i D) I3 q) (fun f s3 z=>?_) fun _ _ z=>fB z
  have z1:SP X pins (aem i D) f s3:=SP.Oc (SP.Al c z)
  cases f with
  |next=>
   obtain⟨σ3,H3,I4,q4⟩:=z1
   exact name_goes I4 hN hi hk fun s4 I5=>⟨_,H3,I5,q4⟩
  |brk=>
   obtain⟨σ3,H3,I4,q4⟩:=z1
   exact name_goes I4 hN hi hk fun s4 I5=>⟨_,H3,I5,q4⟩
  |cont=>
   obtain⟨σ3,H3,I4,q4⟩:=z1
   exact name_goes I4 hN hi hk fun s4 I5=>⟨_,H3,I5,q4⟩
  |ret u=>
   obtain⟨v,σ3,H3,I4,r4,q4⟩:=z1
   exact name_goes I4 hN hi hk fun s4 I5=>⟨v,_,H3,I5,r4,q4⟩
 |false=>exact hr pins a H s D F n' q
end
end XL
end
section
namespace SR
inductive Ue{A0 A1:Type}(p:A0->A1->Prop):Prop
 |mk (a0:A0) (a1:A1) (_:p a0 a1)
inductive Ex3{A0 A1 A2:Type}(p:A0->A1->A2->Prop):Prop
 |mk (a0:A0) (a1:A1) (a2:A2) (_:p a0 a1 a2)
inductive Ex4{A0 A1 A2 A3:Type}(p:A0->A1->A2->A3->Prop):Prop
 |mk (a0:A0) (a1:A1) (a2:A2) (a3:A3) (_:p a0 a1 a2 a3)
inductive Ex5{A0 A1 A2 A3 A4:Type}(p:A0->A1->A2->A3->A4->Prop):Prop
 |mk (a0:A0) (a1:A1) (a2:A2) (a3:A3) (a4:A4) (_:p a0 a1 a2 a3 a4)
inductive Ex6{A0 A1 A2 A3 A4 A5:Type}(p:A0->A1->A2->A3->A4->A5->Prop):Prop
 |mk (a0:A0) (a1:A1) (a2:A2) (a3:A3) (a4:A4) (a5:A5) (_:p a0 a1 a2 a3 a4 a5)
inductive Ex9{A0 A1 A2 A3 A4 A5 A6 A7 A8:Type}(p:A0->A1->A2->A3->A4->A5->A6->A7->A8->Prop):Prop
 |mk (a0:A0) (a1:A1) (a2:A2) (a3:A3) (a4:A4) (a5:A5) (a6:A6) (a7:A7) (a8:A8) (_:p a0 a1 a2 a3 a4 a5 a6 a7 a8)
end SR
namespace SR
open PySem PySem.Spec PyProof.Rows L2 XL
def top(i:Nat):Stmt:=PySem.Challenge.pw_sharedrooms_s01_answers.main.body.getD i (.Pass ⟨0,0,0,0⟩)
abbrev rG:Stmt:=inClass (top 1) 0
theorem Fd:bV ["self","number"] ["self","number"] (bA rG):=by nofun
abbrev rF:Stmt:=inClass (top 2) 0
theorem Fc:bV dS dS (bA rF):=by nofun
abbrev px:Stmt:=inClass (top 3) 0
theorem Bv:bV Hq Hq (bA px):=by nofun
abbrev pq:Stmt:=inClass (top 4) 0
theorem Bu:bV Hs Hs (bA pq):=by nofun
abbrev pD:Stmt:=inClass (top 5) 0
theorem Bz:bV dS dS (bA pD):=by nofun
abbrev pj:Stmt:=inClass (top 6) 0
theorem Bt:bV dS dS (bA pj):=by nofun
abbrev m3:Stmt:=inClass (top 7) 0
theorem zi:bV dS dS (bA m3):=by nofun
abbrev l4:Stmt:=inClass (top 8) 0
theorem xx:bV dS dS (bA l4):=by nofun
abbrev m5:Stmt:=inClass (top 9) 0
theorem zj:bV dS dS (bA m5):=by nofun
abbrev pz:Stmt:=inClass (top 10) 0
theorem Bw:bV dS dS (bA pz):=by nofun
abbrev mZ:Stmt:=inClass (top 11) 0
theorem zh:bV dS dS (bA mZ):=by nofun
abbrev tW:Stmt:=top 13
theorem xi:bV ["program","times","time","statement"] jV (bA tW):=by nofun
abbrev Ax:Stmt:=top 14
theorem EL:bV ["program","statement"] jV (bA Ax):=by nofun
abbrev vA:Stmt:=top 15
theorem zQ:bV ["program","first","last","number","operands","operand","statement"] jV (bA vA):=by nofun
abbrev tU:Stmt:=top 16
theorem Hh:bV jV jV (bA tU):=by nofun
abbrev qv:Stmt:=top 17
theorem uF:bV ["program","ranges","taker","taken","same_length"] Ti (bA qv):=by nofun
abbrev tV:Stmt:=top 18
theorem xh:bV ["program","ranges","time","total","number","statement"] KD (bA tV):=by nofun
abbrev l3:Stmt:=top 19
theorem pZ:bV ["program","ranges","time","longest","taker","operands","taken"] KD (bA l3):=by nofun
abbrev n8:Stmt:=top 20
theorem rA:bV ["program","ranges","most","time","needed"] jV (bA n8):=by nofun
abbrev rE:Stmt:=top 23
theorem wq:bV ["program","plan","offset"] xH (bA rE):=by nofun
abbrev mU:Stmt:=top 24
theorem zb:bV ["program","a","b"] ["program","a","b"] (bA mU):=by nofun
abbrev Q2:Stmt:=top 25
theorem ZZ:bV OR OR (bA Q2):=by nofun
abbrev DD:Stmt:=top 26
theorem Hg:bV ["program","plan","a","b","a_end","b_end"] ["program","plan","a","b"] (bA DD):=by nofun
abbrev j3:Stmt:=top 27
theorem tN:bV BC BC (bA j3):=by nofun
abbrev LJ:Stmt:=top 28
theorem W3:bV BC BC (bA LJ):=by nofun
abbrev tX:Stmt:=top 29
theorem xj:bV ["program","plan","ranges","a","b"] xH (bA tX):=by nofun
abbrev DC:Stmt:=top 30
theorem Hf:bV ["program","plan","room","number","statement"] xH (bA DC):=by nofun
abbrev mQ:Stmt:=top 32
theorem qK:bV ["program","plan","placed","offsets","other"] ["program","plan","placed"] (bA mQ):=by nofun
abbrev mT:Stmt:=top 33
theorem qM:bV ["program","ranges","plan","number","placed","other"] UO (bA mT):=by nofun
abbrev LI:Stmt:=top 34
theorem OA:bV ["program","ranges","plan","number","placed","offsets","offset"] UO (bA LI):=by nofun
abbrev tR:Stmt:=top 35
theorem xc:bV ["program","order","ranges","plan","placed","number"] ["program","order"] (bA tR):=by nofun
abbrev jx:Stmt:=top 36
theorem lj:bV ["program","plan","offset","statement"] jV (bA jx):=by nofun
abbrev qu:Stmt:=top 37
theorem Dz:bV jV jV (bA qu):=by nofun
abbrev lr:Stmt:=top 38
theorem oY:bV ["program","lengths","order","statement"] jV (bA lr):=by nofun
abbrev DB:Stmt:=top 40
theorem Q1:bV BC BC (bA DB):=by nofun
abbrev Av:Stmt:=top 41
theorem EK:bV ["program","ranges","plan","number","members","looked_at","other"] ["program","ranges","plan","number"] (bA Av):=by nofun
abbrev n9:Stmt:=top 42
theorem rB:bV ["program","ranges","plan","groups","grouped","number","members","member"] ["program","ranges","plan"] (bA n9):=by nofun
abbrev qw:Stmt:=top 43
theorem uG:bV ["program","ranges","plan","members","placed","member","other"] UP (bA qw):=by nofun
abbrev tS:Stmt:=top 44
theorem xf:bV ["program","ranges","plan","members","placed","offsets","offset","member"] UP (bA tS):=by nofun
abbrev tT:Stmt:=top 45
theorem xg:bV ["program","plan","ranges","packed","placed","members"] xH (bA tT):=by nofun
abbrev pA:Stmt:=inClass (top 47) 0
theorem Bx:bV Z7 Z7 (bA pA):=by nofun
abbrev rJ:Stmt:=inClass (top 48) 0
theorem Fe:bV Th Th (bA rJ):=by nofun
abbrev qx:Stmt:=top 49
theorem uH:bV ["program","number","statement"] jV (bA qx):=by nofun
abbrev n6:Stmt:=top 50
theorem rq:bV ["statement","words"] ["statement"] (bA n6):=by nofun
abbrev vy:Stmt:=top 51
theorem zN:bV ["program","statement"] jV (bA vy):=by nofun
abbrev vC:Stmt:=inClass (top 61) 0
theorem Jr:bV Xf Xf (bA vC):=by nofun
abbrev Au:Stmt:=top 62
theorem OB:bV ["byte"] ["byte"] (bA Au):=by nofun
abbrev xC:Stmt:=top 63
theorem LH:bV ["byte"] ["byte"] (bA xC):=by nofun
abbrev vw:Stmt:=top 64
theorem zM:bV vL vL (bA vw):=by nofun
abbrev tO:Stmt:=top 65
theorem rp:bV vL vL (bA tO):=by nofun
abbrev As:Stmt:=top 66
theorem EJ:bV vL vL (bA As):=by nofun
abbrev vz:Stmt:=top 67
theorem zP:bV vL vL (bA vz):=by nofun
abbrev xB:Stmt:=top 68
theorem vp:bV ["word_bytes","signs","byte"] ["word_bytes"] (bA xB):=by nofun
abbrev rD:Stmt:=top 69
theorem mD:bV ["number_bytes","value","byte"] ["number_bytes"] (bA rD):=by nofun
abbrev vx:Stmt:=top 70
theorem pM:bV ["text","position","byte","end"] vL (bA vx):=by nofun
abbrev tQ:Stmt:=top 71
theorem lh:bV ["text","tokens","position","token"] ["text"] (bA tQ):=by nofun
abbrev ud:Stmt:=inClass (top 80) 0
theorem Hj:bV ["self","tokens"] ["self","tokens"] (bA ud):=by nofun
abbrev uc:Stmt:=inClass (top 80) 1
theorem xu:bV ["self","kind","choices","token"] ["self","kind","choices"] (bA uc):=by nofun
abbrev qz:Stmt:=inClass (top 80) 2
theorem DA:bV dS dS (bA qz):=by nofun
abbrev pC:Stmt:=inClass (top 80) 3
theorem sY:bV ["self","can_stand","token"] ["self","can_stand"] (bA pC):=by nofun
abbrev mV:Stmt:=inClass (top 80) 4
theorem zd:bV ["self","choices"] ["self","choices"] (bA mV):=by nofun
abbrev mX:Stmt:=inClass (top 80) 5
theorem zf:bV ["self","sign"] ["self","sign"] (bA mX):=by nofun
abbrev mY:Stmt:=inClass (top 80) 6
theorem lZ:bV ["self","token","is_name"] dS (bA mY):=by nofun
abbrev lB:Stmt:=inClass (top 80) 7
theorem oZ:bV ["self","token"] dS (bA lB):=by nofun
abbrev lq:Stmt:=top 81
theorem oX:bV ["reader","names"] ["reader"] (bA lq):=by nofun
abbrev ph:Stmt:=top 82
theorem fS:bV ["reader","first_words","word","name","length","way","operand_names"] ["reader","first_words"] (bA ph):=by nofun
abbrev kr:Stmt:=top 83
theorem uE:bV ["statements"] ["statements"] (bA kr):=by nofun
abbrev n0:Stmt:=top 84
theorem mP:bV ["text","reader","statements"] ["text"] (bA n0):=by nofun
abbrev qy:Stmt:=top 85
theorem uI:bV ["statements","numbers","operands","number","statement","unknown","name"] ["statements"] (bA qy):=by nofun
abbrev rC:Stmt:=top 86
theorem wo:bV ["text","statements"] ["text"] (bA rC):=by nofun
abbrev vB:Stmt:=top 91
theorem Jq:bV ["number"] ["number"] (bA vB):=by nofun
abbrev mR:Stmt:=top 92
theorem za:bV ["way","length","i"] ["way","length","i"] (bA mR):=by nofun
abbrev pf:Stmt:=top 93
theorem sV:bV ["program","plan","memory","number","i","way","total","weight","operand","length"] Tj (bA pf):=by nofun
abbrev vt:Stmt:=top 94
theorem zL:bV Tj ["program","plan","memory","number"] (bA vt):=by nofun
abbrev vq:Stmt:=top 95
theorem zK:bV ["memory","offset","data","i","element"] ["memory","offset","data"] (bA vq):=by nofun
abbrev mS:Stmt:=top 96
theorem qL:bV ["program","data","plan","memory","number","statement"] Hr (bA mS):=by nofun
abbrev tP:Stmt:=top 97
theorem xb:bV ["program","data","plan","memory","results","number","statement"] Hr (bA tP):=by nofun
abbrev vJ:Stmt:=inClass (top 116) 0
theorem Jt:bV dS dS (bA vJ):=by nofun
abbrev lA:Stmt:=inClass (top 116) 1
theorem wL:bV dS dS (bA lA):=by nofun
abbrev vH:Stmt:=inClass (top 116) 2
theorem zU:bV ["self","text","program"] ["self","text"] (bA vH):=by nofun
abbrev tZ:Stmt:=inClass (top 116) 3
theorem xp:bV ["self","text","e"] ["self","text"] (bA tZ):=by nofun
abbrev t9:Stmt:=inClass (top 116) 4
theorem xq:bV ["self","sign"] dS (bA t9):=by nofun
abbrev vI:Stmt:=inClass (top 116) 5
theorem zV:bV ["self","answer","first","last"] dS (bA vI):=by nofun
abbrev vG:Stmt:=inClass (top 116) 6
theorem Js:bV dS dS (bA vG):=by nofun
abbrev ua:Stmt:=inClass (top 116) 7
theorem xr:bV ["self","plan","program","pair"] wu (bA ua):=by nofun
abbrev vD:Stmt:=inClass (top 116) 8
theorem zR:bV ["self","plan","program"] wu (bA vD):=by nofun
abbrev vE:Stmt:=inClass (top 116) 9
theorem zS:bV ["self","kind","program"] ["self","kind"] (bA vE):=by nofun
abbrev vF:Stmt:=inClass (top 116) 10
theorem zT:bV ["self","plan","program"] wu (bA vF):=by nofun
abbrev pB:Stmt:=inClass (top 116) 11
theorem sX:bV ["self","number","data","program","element"] ["self","number","data"] (bA pB):=by nofun
abbrev kR:Stmt:=inClass (top 116) 12
theorem nZ:bV ["self","program","number"] ["self","program"] (bA kR):=by nofun
abbrev xD:Stmt:=inClass (top 116) 13
theorem By:bV ["self","plan","program"] wu (bA xD):=by nofun
abbrev ub:Stmt:=inClass (top 116) 14
theorem xt:bV ["self","program"] dS (bA ub):=by nofun
abbrev xA:Stmt:=top 117
theorem LG:bV Q8 Q8 (bA xA):=by nofun
abbrev tY:Stmt:=top 118
theorem xk:bV ["rooms","call","number","row","e"] Q8 (bA tY):=by nofun
abbrev uJ:Stmt:=top 119
theorem Hi:bV ["calls","rooms","answered","position","call","number","row","row_end","answer"] ["calls"] (bA uJ):=by nofun
end SR
end
section
namespace SR
open PySem PySem.Spec PyProof.Rows L2 XL
variable{P:bY}{w:cX}{K:aY}{mg:aj}{base:Heap}
inductive Kq(K:aY)(vs:ao)(H:Hp)(Q:VK)(z':XK):Prop
 |mk (a:_) (C:_) (f:_) (n:_) (_:vs=[.ref a,.int n]) (_:H a=aa (lR a C ab)) (_:qc K C f=ae) (_:eV K C "number") (_:∀dx,H dx=ab->Q .j7 (upd (upd H dx (Cu dx [("number",.int n)])) a (lR a C (aa dx))))
theorem Fo{f:Addr}{fd:bC}(F:iG K "__init__" "Refusal.__init__" rG f fd)(hE:mg "Exception"=ab):dy P w K mg base eM 1 f fd ["self","number"] (Kq K):=by
 refine F.ok Fd fun fz A outer s H vs Q E hr h=>?_;obtain⟨a,C,f,n,rfl,ha,m,na,k⟩:=h;refine⟨_,bh (dN (Q9 rfl hE (pv 0))) (bj (Xd (pv 0) (pv 1) rfl)),?_⟩;refine⟨_,rfl,a,C,f,ab,rfl,ha,m,?_⟩;exact⟨_,rfl,_,rfl,a,C,f,rfl,ha,m,na,k⟩
structure RF(P:bY)(w:cX)(K:aY)(mg:aj)(base:Heap)(CR fR:Addr)(Gi:bC):Prop where
 Zl:mg "Refusal"=aa (.ref CR)
 rd:FQ K CR (.type "type")=ae
 sp:CV K (.ref CR) "__getattribute__"=aa (aa (.builtin "type.__getattribute__"))
 fc:wH K (.ref CR) (.type "type") "__init__"=aa (.val (.ref fR))
 kp:jg K (.ref fR)=ae
 b:Binds K Gi ["self","number"] []
 G:dy P w K mg base eM 1 fR Gi ["self","number"] (Kq K)
inductive iL(K:aY)(n:Int)(vs:ao)(H:Hp)(Q:VK)(z':XK):Prop
 |mk (a:_) (C:_) (f:_) (_:vs=[.ref a]) (_:H a=aa (lR a C ab)) (_:qc K C f=ae) (_:eV K C "number") (_:∀dx,H dx=ab->Q .j7 (upd (upd H dx (Cu dx [("number",.int n)])) a (lR a C (aa dx))))
inductive Dx(K:aY)(n:Int)(x:Str)(vs:ao)(H:Hp)(Q:VK)(z':XK):Prop
 |mk (a:_) (C:_) (f:_) (z:_) (_:vs=[.ref a,.int z]) (_:H a=aa (lR a C ab)) (_:qc K C f=ae) (_:eV K C "number") (_:eV K C x) (_:∀dx,H dx=ab->Q .j7 (upd (upd (upd H dx (Cu dx [("number",.int n)])) a (lR a C (aa dx))) dx (Cu dx (rL x (.int z) [("number",.int n)]))))
theorem Fm{f CR fR:Addr}{fd Gi:bC}(F:iG K "__init__" "TooLong.__init__" rF f fd)(R:RF P w K mg base CR fR Gi):dy P w K mg base eM 2 f fd dS (iL K (-1)):=by
 refine F.ok Fc fun fz A outer s H vs Q E hr h=>?_;obtain⟨a,C,f,rfl,ha,m,na,k⟩:=h;refine⟨_,bj (dN (mf R.rd R.sp R.fc R.kp R.G hr rfl R.Zl R.b .nil rO (aQ (pv 0) (aQ (xJ rl cG) bq)))),?_⟩;exact⟨_,rfl,1,rfl,a,C,f,_,rfl,ha,m,na,k⟩
theorem BO{f CR fR:Addr}{fd Gi:bC}(F:iG K "__init__" "NoProgram.__init__" pD f fd)(R:RF P w K mg base CR fR Gi):dy P w K mg base eM 2 f fd dS (iL K (-4)):=by
 refine F.ok Bz fun fz A outer s H vs Q E hr h=>?_;obtain⟨a,C,f,rfl,ha,m,na,k⟩:=h;refine⟨_,bj (dN (mf R.rd R.sp R.fc R.kp R.G hr rfl R.Zl R.b .nil rO (aQ (pv 0) (aQ (xJ rl cG) bq)))),?_⟩;exact⟨_,rfl,4,rfl,a,C,f,_,rfl,ha,m,na,k⟩
theorem BJ{f CR fR:Addr}{fd Gi:bC}(F:iG K "__init__" "WrongPlan.__init__" pj f fd)(R:RF P w K mg base CR fR Gi):dy P w K mg base eM 2 f fd dS (iL K (-5)):=by
 refine F.ok Bt fun fz A outer s H vs Q E hr h=>?_;obtain⟨a,C,f,rfl,ha,m,na,k⟩:=h;refine⟨_,bj (dN (mf R.rd R.sp R.fc R.kp R.G hr rfl R.Zl R.b .nil rO (aQ (pv 0) (aQ (xJ rl cG) bq)))),?_⟩;exact⟨_,rfl,5,rfl,a,C,f,_,rfl,ha,m,na,k⟩
theorem zr{f CR fR:Addr}{fd Gi:bC}(F:iG K "__init__" "MissingData.__init__" mZ f fd)(R:RF P w K mg base CR fR Gi):dy P w K mg base eM 2 f fd dS (iL K (-10)):=by
 refine F.ok zh fun fz A outer s H vs Q E hr h=>?_;obtain⟨a,C,f,rfl,ha,m,na,k⟩:=h;refine⟨_,bj (dN (mf R.rd R.sp R.fc R.kp R.G hr rfl R.Zl R.b .nil rO (aQ (pv 0) (aQ (xJ rl cG) bq)))),?_⟩;exact⟨_,rfl,10,rfl,a,C,f,_,rfl,ha,m,na,k⟩
theorem BL{f CR fR:Addr}{fd Gi:bC}(F:iG K "__init__" "WrongForm.__init__" px f fd)(R:RF P w K mg base CR fR Gi):dy P w K mg base eM 2 f fd Hq (Dx K (-2) "position"):=by
 refine F.ok Bv fun fz A outer s H vs Q E hr h=>?_;obtain⟨a,C,f,z,rfl,ha,m,na,nx,k⟩:=h;refine⟨_,bh (dN (mf R.rd R.sp R.fc R.kp R.G hr rfl R.Zl R.b .nil rO (aQ (pv 0) (aQ (xJ rl cG) bq)))) (bj (Tg (pv 0) (pv 1) rfl)),?_⟩;refine⟨_,rfl,2,rfl,a,C,f,_,rfl,ha,m,na,fun dx Mq=>?_⟩;have nd:dx≠a:=fun q=>by rw[q,ha]at Mq;cases Mq
 refine⟨_,rfl,_,rfl,a,C,f,dx,_,rfl,bf,?_,m,nx,(by show 1<1000;decide),k dx Mq⟩;rw[bB nd,bf]
theorem BK{f CR fR:Addr}{fd Gi:bC}(F:iG K "__init__" "WrongName.__init__" pq f fd)(R:RF P w K mg base CR fR Gi):dy P w K mg base eM 2 f fd Hs (Dx K (-3) "statement_number"):=by
 refine F.ok Bu fun fz A outer s H vs Q E hr h=>?_;obtain⟨a,C,f,z,rfl,ha,m,na,nx,k⟩:=h;refine⟨_,bh (dN (mf R.rd R.sp R.fc R.kp R.G hr rfl R.Zl R.b .nil rO (aQ (pv 0) (aQ (xJ rl cG) bq)))) (bj (Tg (pv 0) (pv 1) rfl)),?_⟩;refine⟨_,rfl,3,rfl,a,C,f,_,rfl,ha,m,na,fun dx Mq=>?_⟩;have nd:dx≠a:=fun q=>by rw[q,ha]at Mq;cases Mq
 refine⟨_,rfl,_,rfl,a,C,f,dx,_,rfl,bf,?_,m,nx,(by show 1<1000;decide),k dx Mq⟩;rw[bB nd,bf]
def jv(E:XK)(H:Hp)(C:Addr)(fs:aq):Prop:=∀a dx H',bH H H'->H' a=aa (Ea a C (aa dx))->H' dx=aa (Cu dx fs)->E (.ref a) ab H'
theorem ac9{E:XK}{H:Hp}{C f:Addr}{n:Int}{D:Ends}{σ:L2.St}(M:qc K C f=ae)(na:eV K C "number")(h:jv E H C [("number",.int n)]):Lr K E (An C (iL K n) Dr) D σ H:=by
 refine⟨cC _,fun a ha=>⟨a,C,f,rfl,bf,M,na,fun dx Mq=>⟨rfl,a,C,f,aa dx,rfl,bf,M,?_⟩⟩⟩;have nd:dx≠a:=fun q=>by rw[q,bf]at Mq;cases Mq
 rw[bB nd]at Mq;refine h a dx _ (fun b o e=>?_) bf ?_
 ·have b1:b≠a:=bP e ha;have b2:b≠dx:=bP e Mq;rw[bB b1,bB b1,bB b2,bB b1];exact e
 rw[bB nd,bB nd,bf]
theorem ac8{E:XK}{H:Hp}{C f:Addr}{n z:Int}{x:Str}{D:Ends}{σ:L2.St}{te:TE}(M:qc K C f=ae)(na:eV K C "number")(nx:eV K C x)(he:te σ H fun v H'=>v=.int z/\H'=H)
 (mono:∀Q Q':VK,(∀v H',Q v H'->Q' v H')->te σ H Q->te σ H Q')(h:jv E H C (rL x (.int z) [("number",.int n)])):Lr K E (An C (Dx K n x) (EF te Dr)) D σ H:=by
 refine mono _ _ (fun v H' q=>?_) he
 obtain⟨rfl,rfl⟩:=q
 refine⟨by show 1<=bz;decide,fun a ha=>⟨a,C,f,z,rfl,bf,M,na,nx,fun dx Mq=>⟨rfl,a,C,f,aa dx,rfl,?_,M,?_⟩⟩⟩
 ·have nd:dx≠a:=fun q=>by rw[q,bf]at Mq;cases Mq
  rw[bB (dh nd),bf]
 have nd:dx≠a:=fun q=>by rw[q,bf]at Mq;cases Mq
 rw[bB nd]at Mq
 refine h a dx _ (fun b o e=>?_) bf ?_
 ·have b1:b≠a:=bP e ha
  have b2:b≠dx:=bP e Mq
  rw[bB b1,bB b2,bB b1,bB b2,bB b1]
  exact e
 rw[bB nd,bf]
section
variable{X:Cx}
theorem iE{x:Str}{n:Int}{pos:Pos}(hg:Gl X x)(hm:∃t,X.mg x=aa (.int n t))(hd:(x==("__debug__":Str))=af:=by decide):PE X (.Name x pos) (tC (.int n)):=
 let⟨t,e⟩:=hm
 Ge hg e ⟨t,rfl⟩ hd
theorem Tp{x z:Str}{pos:Pos}(hg:Gl X x)(hm:∃t,X.mg x=aa (.str z t))(hd:(x==("__debug__":Str))=af:=by decide):PE X (.Name x pos) (tC (.str z)):=
 let⟨t,e⟩:=hm
 Ge hg e ⟨t,rfl⟩ hd
theorem Hw{x:Str}{a:Addr}{pos:Pos}(hg:Gl X x)(hm:X.mg x=aa (.ref a))(hd:(x==("__debug__":Str))=af:=by decide):PE X (.Name x pos) (tC (.ref a)):=Ge hg hm rfl hd
end
def tx(t:List Nat):ao:=t.map fun(n:Nat)=>V.int (n:Int)
theorem GF{t:List Nat}{i:Nat}{c:Nat}(h:t[i]?=aa c):(tx t)[i]?=aa (V.int c):=by
 unfold tx;rw[bL,h];rfl
def scan(f:Nat->Bool)(t:List Nat)(p:Nat):Nat:=p+((t.drop p).takeWhile f).length
theorem lO{f:Nat->Bool}{t:List Nat}{p c:Nat}(h:t[p]?=aa c)(hf:f c=ae):scan f t p=scan f t (p+1):=by
 unfold scan;obtain⟨hl,e⟩:=aZ.mp h;rw[d5 hl,e,si,da hf,cK];omega
theorem Dy{f:Nat->Bool}{t:List Nat}{p c:Nat}(h:t[p]?=aa c)(hf:f c=af):scan f t p=p:=by
 unfold scan;obtain⟨hl,e⟩:=aZ.mp h;rw[d5 hl,e,si,cQ (by rw[hf];decide)];rfl
theorem He{f:Nat->Bool}{t:List Nat}{p:Nat}(h:t.length<=p):scan f t p=p:=by
 unfold scan;rw[kP h];rfl
inductive xa(g:Nat->Bool)(vs:ao)(H:Hp)(Q:VK)(z':XK):Prop
 |mk (c:Nat) (_:vs=[.int c]) (_:Q (.bl (g c)) H)
theorem O3{f:Addr}{fd:bC}(F:iG K "is_digit" "is_digit" Au f fd)(hZ:∃t,mg "ZERO"=aa (.int 48 t))(hD:∃t,mg "DIGITS"=aa (.str "0123456789" t))(hl:mg "len"=ab):
 dy P w K mg base eM 1 f fd ["byte"] (xa cb):=by
 refine F.ok OB fun fz A outer s H vs Q E hr h=>?_
 obtain⟨c,rfl,k⟩:=h
 refine⟨_,bj (cf (Hx BG tm (iE (by rfl) hZ) (pv 0) (fZ j5 (iE (by rfl) hZ) (dD vV (by rfl) hl cx (aQ (Tp (by rfl) hD) bq))))),?_⟩
 refine⟨_,rfl,_,_,rfl,rfl,_,rfl,?_⟩
 unfold cb at k
 by_cases h1:(48:Int)<=(c:Int)
 ·rw[qk h1]
  refine dM ⟨_,rfl,(by show 10<=bz;decide),_,_,rfl,rfl,_,_,rfl,rfl,?_⟩
  have e:decide ((c:Int)<48+((("0123456789":Str).length:Nat):Int))=decide (48<=c/\c<=57):=by
   rw[show(("0123456789":Str).length:Nat)=10 from rfl,decide_eq_decide];omega
  show Q (V.bl (decide ((c:Int)<48+((("0123456789":Str).length:Nat):Int)))) H
  rw[e]
  exact k
 rw[gX h1]
 refine cE ?_
 have e:decide (48<=c/\c<=57)=af:=gX (by omega)
 rw[e]at k
 exact k
inductive Ds(K:aY)(g:Nat->Bool)(vs:ao)(H:Hp)(Q:VK)(z':XK):Prop
 |mk (a:Addr) (t:List Nat) (p:Nat) (_:vs=[.ref a,.int p]) (_:dw K H a (tx t)) (_:p<=t.length) (_:Q (.int (scan g t p)) H)
theorem JA{f:Addr}{fd:bC}(F:iG K "remark_end" "remark_end" vw f fd)(hL:∃t,mg "LINE_FEED"=aa (.int 10 t))(hl:mg "len"=ab):
 dy P w K mg base eM 1 f fd vL (Ds K fun c=>c != 10):=by
 refine F.ok zM fun fz A outer s H vs Q E hr h=>?_
 obtain⟨a,t,p,rfl,hS,hp,k⟩:=h
 refine⟨_,bh (oj bW (xF (cS tm (pv 1) (dD cJ (by rfl) hl cx (aQ (pv 0) bq)) (dg _)) (sZ (cS wz (dW cW (pv 0) (pv 1) (fun _ _=>rfl)) (iE (by rfl) hL) (dg _)))).pt
  (bj (rM (i:=1) zM.nd rfl (ux rfl) cG qB))) (bj (cf (pv 1))),?_⟩
 refine⟨fun m σ H'=>∃q:Nat,m=t.length-q/\H'=H/\σ=[aa (.ref a),aa (.int q)]/\q<=t.length/\scan (fun c=>c != 10) t q=scan (fun c=>c != 10) t p,⟨_,p,rfl,rfl,rfl,hp,rfl⟩,?_⟩
 rintro m σ H' ⟨q,rfl,rfl,rfl,hq,eq⟩
 refine⟨_,rfl,_,rfl,a,_,rfl,.inl hS,_,_,rfl,rfl,_,rfl,?_⟩
 by_cases h1:(q:Int)<((tx t).length:Int)
 ·rw[qk h1]
  have Ik:q<t.length:=by
   unfold tx at h1;rw[aV]at h1;omega
  obtain⟨c,hc⟩:∃c,t[q]?=aa c:=⟨_,bF Ik⟩
  refine dM ⟨_,rfl,_,rfl,a,_,_,_,rfl,rfl,hS,at_of (j:=q) rfl (GF hc),rfl,_,rfl,?_⟩
  by_cases h2:c=10
  ·have e2:(!decide (V.int (c:Int)=V.int 10))=af:=by rw[h2];decide
   rw[e2]
   refine cE ⟨_,rfl,?_⟩
   rw[<-eq,Dy hc (by rw[h2];rfl)]at k
   exact k
  have e2:(!decide (V.int (c:Int)=V.int 10))=ae:=by
   rw[gX fun z=>h2 (by have:=V.int.inj z;omega)];rfl
  rw[e2]
  refine dM ⟨fun σ' G=>∃q':Nat,t.length-q'<t.length-q/\G=H'/\σ'=[aa (.ref a),aa (.int q')]/\q'<=t.length/\scan (fun c=>c != 10) t q'=scan (fun c=>c != 10) t p,fun σ' G z=>?_,?_⟩
  ·obtain⟨q',z1,z2⟩:=z
   exact⟨_,z1,q',rfl,z2⟩
  exact⟨_,rfl,_,_,rfl,rfl,q+1,by omega,rfl,rfl,Ik,by rw[<-eq];exact(lO hc (by simpa using h2)).symm⟩
 rw[gX h1]
 refine cE (cE ⟨_,rfl,?_⟩)
 have hq2:t.length<=q:=by
  unfold tx at h1;rw[aV]at h1;omega
 rw[<-eq,He hq2]at k
 exact k
structure Fn(P:bY)(w:cX)(K:aY)(mg:aj)(base:Heap)(CX:Qp)(k:Nat)(x:Str)(ps:ak)(sp:Sp):Prop where
 ex:∃(f:Addr)(fd:bC),dy P w K mg base CX k f fd ps sp/\mg x=aa (.ref f)/\jg K (.ref f)=ae/\Binds K fd ps []
section
variable{X:Cx}{k:Nat}{x:Str}{ps:ak}{sp:Sp}{e:Expr}{es:List Expr}{t:TA}{p pos:Pos}
theorem dJ(C:Fn X.prog X.w X.K X.mg X.base eM k x ps sp)(hr:gG k X.A)(hg:Gl X x)(ha:PA X (e::es) t)(AG:(x==("__debug__":Str))=af:=by decide)
 (he:bX (e::es) X.env=(af,eval e X.env)::bX es X.env:=by rfl)(yT:(gz pos (bX es X.env)).any (·.1)=af:=by rfl):PE X (.Call (.Name x p) (e::es) [] pos) (SV sp [] E0 t):=by
 obtain⟨f,fd,G,m,kp,b⟩:=C.ex
 exact Ts G hr hg m kp b .nil rO ha AG he yT
theorem rN{E:XK}(C:Fn X.prog X.w X.K X.mg X.base (k7 X.prog X.w) k x ps sp)(B:Bd X)(hr:gG k X.A)(hg:Gl X x)(ha:PA (Pt X E) (e::es) t)(AG:(x==("__debug__":Str))=af:=by decide)
 (he:bX (e::es) X.env=(af,eval e X.env)::bX es X.env:=by rfl)(yT:(gz pos (bX es X.env)).any (·.1)=af:=by rfl):PE (Pt X E) (.Call (.Name x p) (e::es) [] pos) (SV sp [] E t):=by
 obtain⟨f,fd,G,m,kp,b⟩:=C.ex
 exact Ts (X:=Pt X E) G hr hg m kp b .nil (LU B) ha AG he yT
end
theorem L6{f:Addr}{fd:bC}(F:iG K "is_letter" "is_letter" xC f fd)(hZ:∃t,mg "SMALL_A"=aa (.int 97 t))(hD:∃t,mg "LETTERS"=aa (.str "abcdefghijklmnopqrstuvwxyz" t))(hl:mg "len"=ab):
 dy P w K mg base eM 1 f fd ["byte"] (xa jR):=by
 refine F.ok LH fun fz A outer s H vs Q E hr h=>?_
 obtain⟨c,rfl,k⟩:=h
 refine⟨_,bj (cf (Hx BG tm (iE (by rfl) hZ) (pv 0) (fZ j5 (iE (by rfl) hZ) (dD vV (by rfl) hl cx (aQ (Tp (by rfl) hD) bq))))),?_⟩
 refine⟨_,rfl,_,_,rfl,rfl,_,rfl,?_⟩
 unfold jR at k
 by_cases h1:(97:Int)<=(c:Int)
 ·rw[qk h1]
  refine dM ⟨_,rfl,(by show 26<=bz;decide),_,_,rfl,rfl,_,_,rfl,rfl,?_⟩
  have e:decide ((c:Int)<97+((("abcdefghijklmnopqrstuvwxyz":Str).length:Nat):Int))=decide (97<=c/\c<=122):=by
   rw[show(("abcdefghijklmnopqrstuvwxyz":Str).length:Nat)=26 from rfl,decide_eq_decide];omega
  show Q (V.bl (decide ((c:Int)<97+((("abcdefghijklmnopqrstuvwxyz":Str).length:Nat):Int)))) H
  rw[e]
  exact k
 rw[gX h1]
 refine cE ?_
 have e:decide (97<=c/\c<=122)=af:=gX (by omega)
 rw[e]at k
 exact k
theorem SM{t:List Nat}{q:Nat}(h:(q:Int)<((tx t).length:Int)):q<t.length:=by
 unfold tx at h;rw[aV]at h;omega
theorem SN{t:List Nat}{q:Nat}(h:¬(q:Int)<((tx t).length:Int)):t.length<=q:=by
 unfold tx at h;rw[aV]at h;omega
theorem JD{f:Addr}{fd:bC}(F:iG K "number_end" "number_end" vz f fd)(hl:mg "len"=ab)(Cd:Fn P w K mg base eM 1 "is_digit" ["byte"] (xa cb)):
 dy P w K mg base eM 2 f fd vL (Ds K cb):=by
 refine F.ok zP fun fz A outer s H vs Q E hr h=>?_
 obtain⟨a,t,p,rfl,hS,hp,k⟩:=h
 refine⟨_,bh (oj bW (xF (cS tm (pv 1) (dD cJ (by rfl) hl cx (aQ (pv 0) bq)) (dg _)) (sZ (jy (dJ Cd hr (by rfl) (aQ (dW cW (pv 0) (pv 1) (fun _ _=>rfl)) bq))))).pt
  (bj (rM (i:=1) zP.nd rfl (ux rfl) cG qB))) (bj (cf (pv 1))),?_⟩
 refine⟨fun m σ H'=>∃q:Nat,m=t.length-q/\H'=H/\σ=[aa (.ref a),aa (.int q)]/\q<=t.length/\scan cb t q=scan cb t p,⟨_,p,rfl,rfl,rfl,hp,rfl⟩,?_⟩
 rintro m σ H' ⟨q,rfl,rfl,rfl,hq,eq⟩
 refine⟨_,rfl,_,rfl,a,_,rfl,.inl hS,_,_,rfl,rfl,_,rfl,?_⟩
 by_cases h1:(q:Int)<((tx t).length:Int)
 ·rw[qk h1]
  have Ik:=SM h1
  obtain⟨c,hc⟩:∃c,t[q]?=aa c:=⟨_,bF Ik⟩
  refine dM ⟨_,rfl,_,rfl,a,_,_,_,rfl,rfl,hS,at_of (j:=q) rfl (GF hc),c,rfl,_,rfl,?_⟩
  cases h2:cb c with
  |false=>
   refine cE ⟨_,rfl,?_⟩
   rw[<-eq,Dy hc h2]at k
   exact k
  |true=>
   refine dM ⟨fun σ' G=>∃q':Nat,t.length-q'<t.length-q/\G=H'/\σ'=[aa (.ref a),aa (.int q')]/\q'<=t.length/\scan cb t q'=scan cb t p,fun σ' G z=>?_,?_⟩
   ·obtain⟨q',z1,z2⟩:=z
    exact⟨_,z1,q',rfl,z2⟩
   exact⟨_,rfl,_,_,rfl,rfl,q+1,by omega,rfl,rfl,Ik,by rw[<-eq];exact(lO hc h2).symm⟩
 rw[gX h1]
 refine cE (cE ⟨_,rfl,?_⟩)
 rw[<-eq,He (SN h1)]at k
 exact k
theorem OW{f:Addr}{fd:bC}(F:iG K "word_end" "word_end" As f fd)(hl:mg "len"=ab)(Cd:Fn P w K mg base eM 1 "is_digit" ["byte"] (xa cb))(Cl:Fn P w K mg base eM 1 "is_letter" ["byte"] (xa jR)):
 dy P w K mg base eM 2 f fd vL (Ds K cU):=by
 refine F.ok EJ fun fz A outer s H vs Q E hr h=>?_
 obtain⟨a,t,p,rfl,hS,hp,k⟩:=h
 refine⟨_,bh (oj bW (xF (cS tm (pv 1) (dD cJ (by rfl) hl cx (aQ (pv 0) bq)) (dg _)) (sZ (KC (jy (dJ Cl hr (by rfl) (aQ (dW cW (pv 0) (pv 1) (fun _ _=>rfl)) bq))) (DH (jy (dJ Cd hr (by rfl) (aQ (dW cW (pv 0) (pv 1) (fun _ _=>rfl)) bq))))).pt)).pt
  (bj (rM (i:=1) EJ.nd rfl (ux rfl) cG qB))) (bj (cf (pv 1))),?_⟩
 refine⟨fun m σ H'=>∃q:Nat,m=t.length-q/\H'=H/\σ=[aa (.ref a),aa (.int q)]/\q<=t.length/\scan cU t q=scan cU t p,⟨_,p,rfl,rfl,rfl,hp,rfl⟩,?_⟩
 rintro m σ H' ⟨q,rfl,rfl,rfl,hq,eq⟩
 refine⟨_,rfl,_,rfl,a,_,rfl,.inl hS,_,_,rfl,rfl,_,rfl,?_⟩
 by_cases h1:(q:Int)<((tx t).length:Int)
 ·rw[qk h1]
  have Ik:=SM h1
  obtain⟨c,hc⟩:∃c,t[q]?=aa c:=⟨_,bF Ik⟩
  have go:cU c=ae->∃N:L2.St->Hp->Prop,(∀σ' G,N σ' G->∃m',m'<t.length-q/\∃q':Nat,m'=t.length-q'/\G=H'/\σ'=[aa (.ref a),aa (.int q')]/\q'<=t.length/\scan cU t q'=scan cU t p)/\N [aa (.ref a),aa (.int (q+1))] H':=fun h2=>
   ⟨fun σ' G=>∃q':Nat,t.length-q'<t.length-q/\G=H'/\σ'=[aa (.ref a),aa (.int q')]/\q'<=t.length/\scan cU t q'=scan cU t p,fun σ' G ⟨q',z1,z2⟩=>⟨_,z1,q',rfl,z2⟩,q+1,by omega,rfl,rfl,Ik,by rw[<-eq];exact(lO hc h2).symm⟩
  refine dM ⟨_,rfl,_,rfl,a,_,_,_,rfl,rfl,hS,at_of (j:=q) rfl (GF hc),c,rfl,_,rfl,?_⟩
  cases h2:jR c with
  |true=>
   obtain⟨N,n1,n2⟩:=go (by unfold cU;rw[h2];rfl)
   exact dM (dM ⟨N,n1,_,rfl,_,_,rfl,rfl,n2⟩)
  |false=>
   refine cE ⟨_,rfl,_,rfl,a,_,_,_,rfl,rfl,hS,at_of (j:=q) rfl (GF hc),c,rfl,_,rfl,?_⟩
   cases h3:cb c with
   |true=>
    obtain⟨N,n1,n2⟩:=go (by unfold cU;rw[h2,h3];rfl)
    exact dM ⟨N,n1,_,rfl,_,_,rfl,rfl,n2⟩
   |false=>
    refine cE ⟨_,rfl,?_⟩
    rw[<-eq,Dy hc (by unfold cU;rw[h2,h3];rfl)]at k
    exact k
 rw[gX h1]
 refine cE (cE ⟨_,rfl,?_⟩)
 rw[<-eq,He (SN h1)]at k
 exact k
structure KM(K:aY)(a:Addr)(f:Key->Option V):Prop where
 at_:∀(P:bY)(w:cX)(h:Heap),K.In h->∃g:Key->Option aX,h.MapOf (k5 P w) a g/\∀k,qW (f k) (g k)
 ns:(a==jK)=af
section
variable{X:Cx}{d i:Expr}{td ti:TE}{pos:Pos}
inductive afy(K:aY)(Q:VK)(y:V)(x:V)(H2:Hp):Prop
 |mk (a:_) (k:_) (f:_) (_:x=.ref a) (_:y=kV k) (_:KM K a f) (_:Q (.bl (f k).isSome) H2)
def ait(K:aY)(ti td:TE):TE:=fun σ H Q=>ti σ H fun y H1=>td σ H1 fun x H2=>afy K Q y x H2
inductive acP(K:aY)(Q:VK)(x:V)(y:V)(H2:Hp):Prop
 |mk (a:_) (k:_) (f:_) (v:_) (_:x=.ref a) (_:y=kV k) (_:KM K a f) (_:f k=aa v) (_:Q v H2)
def afz(K:aY)(td ti:TE):TE:=fun σ H Q=>td σ H fun x H1=>ti σ H1 fun y H2=>acP K Q x y H2
theorem UI{o:Option V}{p:Option aX}(r:qW o p):p.isSome=o.isSome:=by
 cases o<;>cases p<;>first|rfl|exact(show False from r).elim
theorem adl(hi:PE X i ti)(ho:PE X d td):PC X .In i d (ait X.K ti td):=by
 intro pins s σ H Q I h;refine ic (hi pins s σ H _ I h) fun iv s1 ⟨y,H1,I1,ry,q1⟩=>ic (ho pins s1 σ H1 _ I1 q1) fun u s2 ⟨x,H2,I2,rx,a,k,f,ex,ey,km,q2⟩=>?_;subst ex ey;obtain rfl:u=cu a:=rx;obtain⟨g,m,r⟩:=km.at_ X.prog X.w _ I2.wQ;refine wpAny_in_of (Ic ry) km.ns m ?_;rw[UI (r k)];exact⟨.bl _,H2,I2.tok _,rfl,q2⟩
theorem aad(ho:PE X d td)(hi:PE X i ti)(hs:aeM i):PE X (.Subscript d i pos) (afz X.K td ti):=by
 intro pins s σ H Q I h;refine SW Jh.lookup hs (ic (ho pins s σ H _ I h) fun u s1 ⟨x,H1,I1,rx,q1⟩=>ic (hi pins s1 σ H1 _ I1 q1) fun iv s2 ⟨y,H2,I2,ry,a,k,f,v,ex,ey,km,fv,q2⟩=>?_);subst ex ey;obtain rfl:u=cu a:=rx;obtain⟨g,m,r⟩:=km.at_ X.prog X.w _ I2.wQ;obtain⟨u,hu,ru⟩:=qW.some_of (v:=v) (o:=g k) (by rw[<-fv];exact r k);exact⟨m.typeIs,wpAny_getItem_of (Ic ry) m hu ⟨v,H2,I2.tok _,ru,q2⟩⟩
end
theorem adG{K:aY}{a:Addr}{i j:Int}{x y:Str}{t1 t2 t3 t4:Tok}{n:Nat}(hi:hashInt i=i)(hj:hashInt j=j)(ne:i≠j)(ns:(a==jK)=af)
 (lk:K.lookup a=aa ⟨.type "dict",ab,.dict #[⟨i,.int i t1,.str x t2⟩,⟨j,.int j t3,.str y t4⟩] n,#[]⟩):KM K a (fun k=>if k=cN i then aa (.str x)else if k=cN j then aa (.str y)else ab):=by
 refine⟨fun P w h KX=>⟨fun k=>if k=cN i then aa (.str x t2)else if k=cN j then aa (.str y t4)else ab,⟨_,_,n,KX _ _ lk,⟨rfl,rfl,rfl⟩,rfl,?_,fun k=>?_⟩,fun k=>?_⟩,ns⟩
 ·intro e he
  simp at he
  rcases he with rfl|rfl
  ·exact⟨cN i,by show kF i (.int i t1)=ae;simp[kF],hi.symm⟩
  exact⟨cN j,by show kF j (.int j t3)=ae;simp[kF],hj.symm⟩
 ·unfold findBy
  cases k with
  |inl z=>
   have e1:wA (cN z) (.int i t1)=decide (z=i):=by show kF z (.int i t1)=_;simp[kF,eq_comm,SH]
   have e2:wA (cN z) (.int j t3)=decide (z=j):=by show kF z (.int j t3)=_;simp[kF,eq_comm,SH]
   show((#[(⟨i,.int i t1,.str x t2⟩:DictEntry),⟨j,.int j t3,.str y t4⟩].find? fun e=>wA (cN z) e.key).map (·.val))=_
   rw[<-Dc]
   simp only[List.find?,e1,e2]
   by_cases z1:z=i
   ·rw[qk z1,da (by rw[z1])]
    rfl
   rw[gX z1,cQ (fun q=>z1 (qi q))]
   by_cases z2:z=j
   ·rw[qk z2,da (by rw[z2])]
    rfl
   rw[gX z2,cQ (fun q=>z2 (qi q))]
   rfl
  |inr z=>
   show((#[(⟨i,.int i t1,.str x t2⟩:DictEntry),⟨j,.int j t3,.str y t4⟩].find? fun e=>wA (iM z) e.key).map (·.val))=_
   rw[<-Dc]
   have e1:wA (iM z) (.int i t1)=af:=rfl
   have e2:wA (iM z) (.int j t3)=af:=rfl
   simp only[List.find?,e1,e2]
   rw[cQ (by intro q;cases q),cQ (by intro q;cases q)]
   rfl
 show qW (if k=cN i then aa (V.str x)else if k=cN j then aa (V.str y)else ab) (if k=cN i then aa (Ai x t2)else if k=cN j then aa (Ai y t4)else ab)
 by_cases z1:k=cN i
 ·rw[da z1,da z1]
  exact⟨t2,rfl⟩
 rw[cQ z1,cQ z1]
 by_cases z2:k=cN j
 ·rw[da z2,da z2]
  exact⟨t4,rfl⟩
 rw[cQ z2,cQ z2]
 exact jw
def zJ(t:List Nat):Nat->Nat->Nat
 |0,p=>p
 |k+1,p=>match t[p]? with
  |none=>p
  |some c=>if oN c=ae then zJ t k (p+1)else if c=35 then zJ t k (scan (fun c=>c != 10) t p)else p
def skip(t:List Nat)(p:Nat):Nat:=zJ t (t.length-p) p
theorem pL{f:Nat->Bool}{t:List Nat}{p:Nat}:p<=scan f t p:=by
 unfold scan;omega
theorem qQ{f:Nat->Bool}{t:List Nat}{p:Nat}(h:p<=t.length):scan f t p<=t.length:=by
 unfold scan;have:=(SE (p:=f) (l:=t.drop p)).length_le;rw[qr]at this;omega
theorem G7{t:List Nat}:∀(k j p:Nat),t.length-p<=k->t.length-p<=j->zJ t k p=zJ t j p:=by
 intro k;induction k with
 |zero=>
  intro j p h1 h2;have hp:t.length<=p:=by omega
  cases j with
  |zero=>rfl
  |succ j=>
   show p=match t[p]? with|none=>p|some c=>_
   rw[dZ hp]
 |succ k ih=>
  intro j p h1 h2;cases hc:t[p]? with
  |none=>
   have e1:zJ t (k+1) p=p:=by simp only[zJ,hc]
   rw[e1];cases j with
   |zero=>rfl
   |succ j=>simp only[zJ,hc]
  |some c=>
   have hp:p<t.length:=(aZ.mp hc).1;cases j with
   |zero=>omega
   |succ j=>
    simp only[zJ,hc];split
    ·exact ih j (p+1) (by omega) (by omega)
    split
    ·rename_i Vf;have hs:scan (fun c=>c != 10) t p=scan (fun c=>c != 10) t (p+1):=lO hc (by rw[Vf];rfl);have:=pL (f:=fun c=>c != 10) (t:=t) (p:=p+1);exact ih j _ (by omega) (by omega)
    rfl
theorem uC{t:List Nat}{p:Nat}(h:t.length<=p):skip t p=p:=by
 unfold skip;rw[show t.length-p=0 by omega];rfl
theorem F8{t:List Nat}{p c:Nat}(h:t[p]?=aa c):skip t p=if oN c=ae then skip t (p+1)else if c=35 then skip t (scan (fun c=>c != 10) t p)else p:=by
 have hp:p<t.length:=(aZ.mp h).1;unfold skip;obtain⟨k,hk⟩:∃k,t.length-p=k+1:=⟨t.length-p-1,by omega⟩;rw[hk];simp only[zJ,h];split
 ·exact G7 _ _ _ (by omega) (by omega)
 split
 ·rename_i Vf;have hs:scan (fun c=>c != 10) t p=scan (fun c=>c != 10) t (p+1):=lO h (by rw[Vf];rfl);have:=pL (f:=fun c=>c != 10) (t:=t) (p:=p+1);exact G7 _ _ _ (by omega) (by omega)
 rfl
inductive KT(K:aY)(mg:aj)(x:Str)(xs:ao):Prop
 |mk (a:_) (_:mg x=aa (.ref a)) (_:∀H,wF K H a xs)
inductive WE(K:aY)(vs:ao)(H:Hp)(Q:VK)(z':XK):Prop
 |mk (a:Addr) (t:List Nat) (p:Nat) (_:vs=[.ref a,.int p]) (_:dw K H a (tx t)) (_:p<=t.length) (_:Q (.int (skip t p)) H)
theorem X7(c:Nat):ve (.int (c:Int)) [.int 32,.int 9,.int 10,.int 13]=oN c:=by
 unfold ve oN;simp only[List.any,Yq,lg]
 have h:∀n:Nat,((n:Int)==(c:Int))=(c==n):=fun n=>by
  rw[eN,beq_iff_eq,beq_iff_eq];omega
 rw[show((32:Int)==(c:Int))=(c==32)from h 32,show((9:Int)==(c:Int))=(c==9)from h 9,show((10:Int)==(c:Int))=(c==10)from h 10,show((13:Int)==(c:Int))=(c==13)from h 13]
theorem HD{f:Addr}{fd:bC}(F:iG K "skip_blanks" "skip_blanks" tO f fd)(hl:mg "len"=ab)(hB:KT K mg "BLANKS" [.int 32,.int 9,.int 10,.int 13])(hR:∃t,mg "REMARK"=aa (.int 35 t))
 (Cr:Fn P w K mg base eM 1 "remark_end" vL (Ds K fun c=>c != 10)):dy P w K mg base eM 2 f fd vL (WE K):=by
 obtain⟨aB,hB1,hB2⟩:=hB
 refine F.ok rp fun fz A outer s H vs Q E hr h=>?_
 obtain⟨a,t,p,rfl,hS,hp,k⟩:=h
 refine⟨_,bh (oj bW (cS tm (pv 1) (dD cJ (by rfl) hl cx (aQ (pv 0) bq)) (dg _))
  (bj (d9 (cS yO (dW cW (pv 0) (pv 1) (fun _ _=>rfl)) (Hw (by rfl) hB1) (by rfl)) (bj (rM (i:=1) rp.nd rfl (ux rfl) cG qB))
   (bj (d9 (cS iY (dW cW (pv 0) (pv 1) (fun _ _=>rfl)) (iE (by rfl) hR) (dg _)) (bj (jB 1 rp.nd (dJ Cr hr (by rfl) (aQ (pv 0) (aQ (pv 1) bq))))) (bj (cf (pv 1)))))))) (bj (cf (pv 1))),?_⟩
 refine⟨fun m σ H'=>∃q:Nat,m=t.length-q/\H'=H/\σ=[aa (.ref a),aa (.int q)]/\q<=t.length/\skip t q=skip t p,⟨_,p,rfl,rfl,rfl,hp,rfl⟩,?_⟩
 rintro m σ H' ⟨q,rfl,rfl,rfl,hq,eq⟩
 refine⟨_,rfl,_,rfl,a,_,rfl,.inl hS,_,_,rfl,rfl,_,rfl,?_⟩
 by_cases h1:(q:Int)<((tx t).length:Int)
 ·rw[qk h1]
  have Ik:=SM h1
  obtain⟨c,hc⟩:∃c,t[q]?=aa c:=⟨_,bF Ik⟩
  have sk:=F8 hc
  refine dM ⟨fun σ' G=>∃q':Nat,t.length-q'<t.length-q/\G=H'/\σ'=[aa (.ref a),aa (.int q')]/\q'<=t.length/\skip t q'=skip t p,fun σ' G ⟨q',z1,z2⟩=>⟨_,z1,q',rfl,z2⟩,?_⟩
  refine⟨_,rfl,_,rfl,a,_,_,_,rfl,rfl,hS,at_of (j:=q) rfl (GF hc),aB,_,rfl,.inr (hB2 _),rfl,rfl,_,rfl,?_⟩
  have eb:(if af=ae then !ve (.int (c:Int)) [.int 32,.int 9,.int 10,.int 13]else ve (.int (c:Int)) [.int 32,.int 9,.int 10,.int 13])=oN c:=X7 c
  rw[eb]
  cases hb:oN c with
  |true=>
   rw[da hb]at sk
   exact dM ⟨_,rfl,_,_,rfl,rfl,q+1,by omega,rfl,rfl,Ik,by rw[<-eq,sk]⟩
  |false=>
   rw[cQ (by rw[hb];decide)]at sk
   refine cE ⟨_,rfl,_,rfl,a,_,_,_,rfl,rfl,hS,at_of (j:=q) rfl (GF hc),rfl,_,rfl,?_⟩
   by_cases Vf:c=35
   ·have e2:decide (V.int (c:Int)=V.int 35)=ae:=by rw[Vf];decide
    rw[e2]
    rw[da Vf]at sk
    have hs:scan (fun c=>c != 10) t q=scan (fun c=>c != 10) t (q+1):=lO hc (by rw[Vf];rfl)
    have g1:=pL (f:=fun c=>c != 10) (t:=t) (p:=q+1)
    have g2:=qQ (f:=fun c=>c != 10) (t:=t) (p:=q) hq
    exact dM ⟨_,rfl,_,rfl,a,t,q,rfl,hS,hq,_,by omega,rfl,rfl,g2,by rw[<-eq,sk]⟩
   have e2:decide (V.int (c:Int)=V.int 35)=af:=gX fun z=>Vf (by have:=V.int.inj z;omega)
   rw[e2]
   rw[cQ Vf]at sk
   refine cE ⟨_,rfl,?_⟩
   rw[<-eq,sk]at k
   exact k
 rw[gX h1]
 refine cE ⟨_,rfl,?_⟩
 rw[<-eq,uC (SN h1)]at k
 exact k
inductive S0(K:aY)(vs:ao)(H:Hp)(Q:VK)(z':XK):Prop
 |mk (a:Addr) (t:List Nat) (_:vs=[.ref a]) (_:dw K H a (tx t)) (_:(∀c∈t,cb c=ae)) (_:Q (.int (iI t:Nat)) H)
theorem Lo(t:List Nat)(c:Nat):iI (t++[c])=10*iI t+(c-48):=by
 unfold iI;rw[hV];rfl
theorem take_snoc{α:Type}{l:List α}{i:Nat}{x:α}(h:l[i]?=aa x):l.take (i+1)=l.take i++[x]:=by
 obtain⟨hl,e⟩:=aZ.mp h;rw[List.take_succ_eq_append_getElem hl,e]
theorem Fh{f:Addr}{fd:bC}(F:iG K "number_value" "number_value" rD f fd)(hZ:∃t,mg "ZERO"=aa (.int 48 t)):dy P w K mg base eM 1 f fd ["number_bytes"] (S0 K):=by
 refine F.ok mD fun fz A outer s H vs Q E hr h=>?_;obtain⟨a,t,rfl,hS,hd,k⟩:=h
 refine⟨_,bh (jB 1 mD.nd cG) (bh (fg bW rfl (fT (pv 0)) (o3 2 mD.nd)
  (bj (jB 1 mD.nd (fZ DN (fZ j5 (fZ Xt (pv 1) cG) (pv 2)) (iE (by rfl) hZ))))) (bj (cf (pv 1)))),?_⟩
 refine⟨_,rfl,a,rfl,⟨_,hS⟩,f7 (K:=K) (a:=a) (xs:=tx t) (fun i σ H'=>∃v,H'=H/\σ=[aa (.ref a),aa (.int (iI (t.take i):Nat)),v]) ⟨ab,rfl,rfl⟩ (fun i σ H' _ ⟨_,e,_⟩=>by rw[e];exact hS) ?_ ?_⟩
 ·rintro i y σ H' hi ⟨v,rfl,rfl⟩
  obtain⟨c,hc,rfl⟩:∃c,t[i]?=aa c/\y=V.int (c:Int):=by
   unfold tx at hi;rw[bL]at hi;cases e:t[i]? with
   |none=>rw[e]at hi;cases hi
   |some c=>rw[e]at hi;exact⟨c,rfl,(bT hi).symm⟩
  have dc:=hd c (br hc)
  have d48:48<=c:=by
   unfold cb at dc;exact(of_decide_eq_true dc).1
  refine⟨_,rfl,_,_,rfl,rfl,.inr ⟨by decide,by decide⟩,_,rfl,_,_,rfl,rfl,_,_,rfl,rfl,?_⟩;refine⟨aa (.int c),rfl,?_⟩;rw[take_snoc hc,Lo];have e:((10*iI (t.take i)+(c-48):Nat):Int)=(iI (t.take i):Int)*10+(c:Int)-48:=by omega
  rw[e];rfl
 rintro σ H' ⟨v,rfl,rfl⟩;unfold tx;rw[aV,dA];exact⟨_,rfl,k⟩
def st(t:List Nat):Str:=⟨t.toArray⟩
theorem Wx(a b:List Nat):st a++st b=st (a++b):=by
 show(⟨a.toArray++b.toArray⟩:Str)=⟨(a++b).toArray⟩;simp
theorem join_cons(x:Str):∀l:ak,pG (st []) (x::l)=x++pG (st []) l
 |[]=>by
  show x=x++st [];show x=⟨x.cps++ #[]⟩;simp
 |y::r=>by
  show x++st []++pG (st []) (y::r)=x++pG (st []) (y::r)
  have e:x++st []=x:=by
   show(⟨x.cps++ #[]⟩:Str)=x;simp
  rw[e]
theorem join_ones:∀t:List Nat,pG (st []) (t.map fun c=>st [c])=st t
 |[]=>rfl
 |c::r=>by
  rw[dE,join_cons,join_ones r,Wx];rfl
theorem Vv:∀j,j<10->("0123456789":Str).cps.toList[j]?=aa (48+j):=by decide
theorem RH:∀j,j<26->("abcdefghijklmnopqrstuvwxyz":Str).cps.toList[j]?=aa (97+j):=by decide
def ones(t:List Nat):ao:=t.map fun c=>V.str (st [c])
inductive WB(K:aY)(vs:ao)(H:Hp)(Q:VK)(z':XK):Prop
 |mk (a:Addr) (t:List Nat) (_:vs=[.ref a]) (_:dw K H a (tx t)) (_:(∀c∈t,cU c=ae)) (_:t.length<=100000) (_:∀H',bH H H'->Q (.str (st t)) H')
theorem mO{t:List Nat}{i:Nat}{y:V}(hi:(tx t)[i]?=aa y):∃c,t[i]?=aa c/\y=V.int (c:Int):=by
 unfold tx at hi;rw[bL]at hi;cases e:t[i]? with
 |none=>rw[e]at hi;cases hi
 |some c=>rw[e]at hi;exact⟨c,rfl,(bT hi).symm⟩
theorem bH.new{H:Hp}{p:Addr}{o:HO}(h:H p=ab):bH H (upd H p o):=fun b u e=>by
 rw[bB (bP e h)];exact e
theorem bH.put{H H':Hp}{p:Addr}{o:HO}(h:H p=ab)(s:bH H H'):bH H (upd H' p o):=fun b u e=>by
 rw[bB (bP e h)];exact s b u e
theorem Oj:∀t:List Nat,((t.map fun c=>st [c]).map (·.length)).sum=t.length
 |[]=>rfl
 |c::r=>by
  rw[dE,dE,List.sum_cons,Oj r,cK];show 1+r.length=r.length+1;omega
theorem LY{f:Addr}{fd:bC}(F:iG K "word_text" "word_text" xB f fd)(hZ:∃t,mg "ZERO"=aa (.int 48 t))(hA:∃t,mg "SMALL_A"=aa (.int 97 t))(hD:∃t,mg "DIGITS"=aa (.str "0123456789" t))
 (hL:∃t,mg "LETTERS"=aa (.str "abcdefghijklmnopqrstuvwxyz" t))(Cd:Fn P w K mg base eM 1 "is_digit" ["byte"] (xa cb)):dy P w K mg base eM 2 f fd ["word_bytes"] (WB K):=by
 refine F.ok vp fun fz A outer s H vs Q E hr h=>?_
 obtain⟨a,t,rfl,hS,hd,hz,k⟩:=h
 refine⟨_,bh (jB 1 vp.nd (eB bq)) (bh (fg bW rfl (fT (pv 0)) (o3 2 vp.nd)
  (bj (d9 (jy (dJ Cd hr (by rfl) (aQ (pv 2) bq)))
   (bj (dN (mq cj c9 c8 iO (pv 1) (aQ (dW X2 (Tp (by rfl) hD) (fZ DN (pv 2) (iE (by rfl) hZ)) (fun _ _=>rfl)) bq))))
   (bj (dN (mq cj c9 c8 iO (pv 1) (aQ (dW X2 (Tp (by rfl) hL) (fZ DN (pv 2) (iE (by rfl) hA)) (fun _ _=>rfl)) bq)))))))
  (bj (cf (LR eO (pv 1))))),?_⟩
 refine⟨cC _,fun p hp=>?_⟩
 have s1:bH H (upd H p (.lst [])):=bH.new hp
 refine⟨_,rfl,a,rfl,⟨_,s1.seq hS⟩,f7 (K:=K) (a:=a) (xs:=tx t) (fun i σ H'=>∃v,σ=[aa (.ref a),aa (.ref p),v]/\H' p=aa (.lst (ones (t.take i)))/\bH H H') ⟨ab,rfl,bf,s1⟩ (fun i σ H' _ ⟨_,_,_,s2⟩=>s2.seq hS) ?_ ?_⟩
 ·rintro i y σ H' hi ⟨v,rfl,hp',s2⟩
  obtain⟨c,hc,rfl⟩:=mO hi
  have dc:=hd c (br hc)
  have il:=(aZ.mp hc).1
  have len:(ones (t.take i)).length<bz:=by
   unfold ones;rw[aV,dX,bZ];omega
  have fin:∀x:V,x=V.str (st [c])->∃v,[aa (V.ref a),aa (V.ref p),aa (V.int (c:Int))]=[aa (V.ref a),aa (V.ref p),v]/\(upd H' p (.lst (ones (t.take i)++[x]))) p=aa (.lst (ones (t.take (i+1))))/\bH H (upd H' p (.lst (ones (t.take i)++[x]))):=fun x hx=>by
   refine⟨_,rfl,?_,bH.put hp s2⟩;rw[bf,take_snoc hc,hx];unfold ones;rw[cg];rfl
  refine⟨_,rfl,c,rfl,_,rfl,?_⟩
  cases h2:cb c with
  |true=>
   have dd:=of_decide_eq_true (show decide (48<=c/\c<=57)=ae from h2)
   refine dM ⟨_,rfl,.inl ⟨rfl,_,dw.of hp'⟩,_,rfl,_,_,rfl,rfl,_,_,c,rfl,rfl,(by show 10<=bz;decide),?_,p,_,_,rfl,rfl,hp',len,fin _ rfl⟩
   have e:=Vv (c-48) (by omega)
   rw[show 48+(c-48)=c by omega]at e
   have e2:((c:Int)-48)=((c-48:Nat):Int):=by omega
   rw[e2]
   exact tH e
  |false=>
   have ld:jR c=ae:=by
    unfold cU at dc;rw[h2,lg]at dc;exact dc
   have dd:=of_decide_eq_true (show decide (97<=c/\c<=122)=ae from ld)
   refine cE ⟨_,rfl,.inl ⟨rfl,_,dw.of hp'⟩,_,rfl,_,_,rfl,rfl,_,_,c,rfl,rfl,(by show 26<=bz;decide),?_,p,_,_,rfl,rfl,hp',len,fin _ rfl⟩
   have e:=RH (c-97) (by omega)
   rw[show 97+(c-97)=c by omega]at e
   have e2:((c:Int)-97)=((c-97:Nat):Int):=by omega
   rw[e2]
   exact tH e
 rintro σ H' ⟨v,rfl,hp',s2⟩
 have el:t.take (tx t).length=t:=by
  unfold tx;rw[aV,dA]
 rw[el]at hp'
 refine⟨⟨_,rfl⟩,_,rfl,_,p,t.map fun c=>st [c],rfl,rfl,.inl (dw.of ?_),?_,?_⟩
 ·rw[hp']
  unfold ones
  rw[dC]
  rfl
 ·rw[Oj,aV]
  show t.length+t.length*0<=16777216
  omega
 rw[TL.join_eq]
 show Q (.str (pG (st []) (t.map fun c=>st [c]))) H'
 rw[join_ones]
 exact k H' s2
theorem jj{H:Hp}{a:Addr}{o u:HO}:upd (upd H a o) a u=upd H a u:=by
 funext b;unfold upd;split<;>rfl
inductive Tk where
 |word (w:List Nat)|num (n:Nat)|sign (c:Nat)|bad|fin
def Tk.kind:Tk->Str
 |.word _=>"word"
 |.num _=>"number"
 |.sign _=>"sign"
 |.bad=>"none"
 |.fin=>"end"
def Tk.val:Tk->V
 |.word w=>.str (st w)
 |.num n=>.int (n:Int)
 |.sign c=>.str (st [c])
 |.bad=>.str ""
 |.fin=>.str ""
def y9(k v p e:V):aq:=[("kind",k),("value",v),("position",p),("end",e)]
structure Sg(K:aY)(C:Addr):Prop where
 cl:Gq K C
 n1:eV K C "kind"
 n2:eV K C "value"
 n3:eV K C "position"
 n4:eV K C "end"
inductive yH(C:Addr)(vs:ao)(H:Hp)(Q:VK)(z':XK):Prop
 |mk (a dx:Addr) (k v p e:V) (_:vs=[.ref a,k,v,p,e]) (_:H a=aa (.ins C dx [])) (_:Q .j7 (upd H a (.ins C dx (y9 k v p e))))
structure Mc(P:bY)(w:cX)(K:aY)(mg:aj)(base:Heap)(k:Nat)(x:Str)(C:Addr)(ps:ak)(sp:Sp):Prop where
 ex:∃(f:Addr)(fd:bC),Mk K C f/\dy P w K mg base eM k f fd ps sp/\mg x=aa (.ref C)/\Binds K fd ps []
theorem EN{X:Cx}{k:Nat}{x:Str}{C:Addr}{ps:ak}{sp:Sp}{e:Expr}{es:List Expr}{t:TA}{p pos:Pos}(M:Mc X.prog X.w X.K X.mg X.base k x C ps sp)(hr:gG (k+1) X.A)(hg:Gl X x)(ha:PA X (e::es) t)(AG:(x==("__debug__":Str))=af:=by decide)
 (he:bX (e::es) X.env=(af,eval e X.env)::bX es X.env:=by rfl)(yT:(gz pos (bX es X.env)).any (·.1)=af:=by rfl):PE X (.Call (.Name x p) (e::es) [] pos) (Oh C sp [] E0 t):=by
 obtain⟨f,fd,M,G,m,b⟩:=M.ex
 exact aab M G hr hg m b .nil rO ha AG he yT
inductive P9(C:Addr)(H:Hp)(a:Addr)(τ:Tk)(p e:Nat):Prop
 |mk (dx:_) (_:H a=aa (.ins C dx (y9 (.str τ.kind) τ.val (.int (p:Int)) (.int (e:Int)))))
theorem JG{f C:Addr}{fd:bC}(F:iG K "__init__" "Token.__init__" vC f fd)(T:Sg K C):dy P w K mg base eM 1 f fd Xf (yH C):=by
 refine F.ok Jr fun fz A outer s H vs Q E hr h=>?_;obtain⟨a,dx,k,v,p,e,rfl,ha,q⟩:=h;refine⟨_,bh (lC (pv 0) (pv 1) rfl) (bh (lC (pv 0) (pv 2) rfl) (bh (lC (pv 0) (pv 3) rfl) (bj (lC (pv 0) (pv 4) rfl)))),?_⟩;refine⟨_,rfl,_,rfl,a,C,dx,_,rfl,ha,T.cl,T.n1,(by show 0<1000;decide),?_⟩;refine⟨_,rfl,_,rfl,a,C,dx,_,rfl,bf,T.cl,T.n2,(by show 1<1000;decide),?_⟩;refine⟨_,rfl,_,rfl,a,C,dx,_,rfl,bf,T.cl,T.n3,(by show 2<1000;decide),?_⟩;refine⟨_,rfl,_,rfl,a,C,dx,_,rfl,bf,T.cl,T.n4,(by show 3<1000;decide),?_⟩;rw[jj,jj,jj];exact q
theorem DY{C:Addr}{H:Hp}{k v p e:V}{Q:VK}(h:∀a dx H',bH H H'->H a=ab->H' a=aa (.ins C dx (y9 k v p e))->Q (.ref a) H'):
 ∀x dx,H x=ab->H dx=ab->dx≠x->yH C (.ref x::([k,v,p,e]++[])) (upd (upd H dx (.own x)) x (.ins C dx [])) (fun v H2=>v=.j7/\Q (.ref x) H2) E0:=fun x dx hx hd ne=>
 ⟨x,dx,k,v,p,e,rfl,bf,rfl,h x dx _ (fun b o z=>by rw[jj,bB (bP z hx),bB (bP z hd)];exact z) hx (by rw[bf])⟩
def cut(t:List Nat)(p e:Nat):List Nat:=(t.drop p).take (e-p)
def fD(t:List Nat)(p c:Nat):Tk×Nat:=
 if c=59\/c=61 then(.sign c,p+1)
 else if jR c=ae then(.word (cut t p (scan cU t p)),scan cU t p)
 else if cb c=ae then(if c≠48\/scan cb t p=p+1 then(.num (iI (cut t p (scan cb t p))),scan cb t p)else(.bad,p))
 else(.bad,p)
theorem RW{t:List Nat}{p e:Nat}(hp:p<=t.length)(he:e<=t.length):CH (tx t) (aa (p:Int)) (aa (e:Int))=tx (cut t p e):=by
 unfold CH cut tx;rw[HT.yK,HT.yK,aV,Nat.min_eq_left hp,Nat.min_eq_left he,NZ,List.map_drop]
theorem PQ{f:Nat->Bool}{t:List Nat}{p:Nat}:cut t p (scan f t p)=(t.drop p).takeWhile f:=by
 unfold cut scan;rw[Nat.add_sub_cancel_left];exact(List.prefix_iff_eq_take.mp (SE (p:=f) (l:=t.drop p))).symm
theorem MZ{f:Nat->Bool}{t:List Nat}{p:Nat}:∀c∈cut t p (scan f t p),f c=ae:=by
 rw[PQ];intro c hc;exact cY.mp (List.all_takeWhile) c hc
theorem Ua{t:List Nat}{p e:Nat}:(cut t p e).length<=t.length:=by
 unfold cut;rw[dX,qr];omega
def Kw:Key->Option V:=fun k=>if k=cN 59 then aa (.str ";")else if k=cN 61 then aa (.str "=")else ab
structure ahk(P:bY)(w:cX)(K:aY)(mg:aj)(base:Heap)(C:Addr):Prop where
 dig:Fn P w K mg base eM 1 "is_digit" ["byte"] (xa cb)
 ajk:Fn P w K mg base eM 1 "is_letter" ["byte"] (xa jR)
 we:Fn P w K mg base eM 2 "word_end" vL (Ds K cU)
 ne:Fn P w K mg base eM 2 "number_end" vL (Ds K cb)
 wt:Fn P w K mg base eM 2 "word_text" ["word_bytes"] (WB K)
 nv:Fn P w K mg base eM 1 "number_value" ["number_bytes"] (S0 K)
 Zk:Mc P w K mg base 1 "Token" C Xf (yH C)
 sg:∃a,mg "SIGNS"=aa (.ref a)/\KM K a Kw
 ze:∃t,mg "ZERO"=aa (.int 48 t)
inductive Kr(K:aY)(C:Addr)(vs:ao)(H:Hp)(Q:VK)(z':XK):Prop
 |mk (a:Addr) (t:List Nat) (p c:Nat) (_:vs=[.ref a,.int p]) (_:dw K H a (tx t)) (_:t[p]?=aa c) (_:t.length<=100000) (_:∀b H',bH H H'->P9 C H' b (fD t p c).1 p (fD t p c).2->Q (.ref b) H')
theorem JB{f C:Addr}{fd:bC}(F:iG K "read_token" "read_token" vx f fd)(T:ahk P w K mg base C):dy P w K mg base eM 3 f fd vL (Kr K C):=by
 obtain⟨aS,hS1,hS2⟩:=T.sg;refine F.ok pM fun fz A outer s H vs Q E hr h=>?_;obtain⟨a,t,p,c,rfl,hT,hc,hz,k⟩:=h;have Ij:gG 1 _:=hr.mono (by decide);have hp:=(aZ.mp hc).1
 have bad:fD t p c=(.bad,p)->∀b dx H',bH H H'->H b=ab->H' b=aa (.ins C dx (y9 (.str "none") (.str "") (.int p) (.int p)))->Q (.ref b) H':=fun e b dx H' s1 _ z=>by
  rw[e]at k;exact k b H' s1 ⟨dx,z⟩
 refine⟨_,bh (jB 2 pM.nd (dW cW (pv 0) (pv 1) (fun _ _=>rfl)))
  (bh (d9 (DI (adl (pv 2) (Hw (by rfl) hS1))) (bj (cf (EN T.Zk hr (by rfl) (aQ eO (aQ (aad (Hw (by rfl) hS1) (pv 2) (fun _ _=>rfl)) (aQ (pv 1) (aQ (fZ j5 (pv 1) cG) bq))))))) cT)
  (bh (d9 (jy (dJ T.ajk Ij (by rfl) (aQ (pv 2) bq)))
   (bh (jB 3 pM.nd (dJ T.we hr (by rfl) (aQ (pv 0) (aQ (pv 1) bq))))
    (bj (cf (EN T.Zk hr (by rfl) (aQ eO (aQ (dJ T.wt hr (by rfl) (aQ (BE F7 (pv 0) (tf (pv 1)) (tf (pv 3))) bq)) (aQ (pv 1) (aQ (pv 3) bq)))))))) cT)
  (bh (d9 (jy (dJ T.dig Ij (by rfl) (aQ (pv 2) bq)))
   (bh (jB 3 pM.nd (dJ T.ne hr (by rfl) (aQ (pv 0) (aQ (pv 1) bq))))
    (bj (d9 (KC (cS wz (pv 2) (iE (by rfl) T.ze) (dg _)) (DH (cS iY (pv 3) (fZ j5 (pv 1) cG) (dg _)))).pt
     (bj (cf (EN T.Zk hr (by rfl) (aQ eO (aQ (dJ T.nv Ij (by rfl) (aQ (BE F7 (pv 0) (tf (pv 1)) (tf (pv 3))) bq)) (aQ (pv 1) (aQ (pv 3) bq))))))) cT))) cT)
  (bj (cf (EN T.Zk hr (by rfl) (aQ eO (aQ eO (aQ (pv 1) (aQ (pv 1) bq)))))))))),?_⟩
 refine⟨_,rfl,_,rfl,a,_,_,_,rfl,rfl,hT,at_of (j:=p) rfl (GF hc),?_⟩;refine⟨_,rfl,aS,cN (c:Int),_,rfl,rfl,hS2,_,rfl,?_⟩;by_cases h1:c=59\/c=61
 ·have e1:∃x:Str,Kw (cN (c:Int))=aa (.str x)/\x=st [c]:=by
   rcases h1 with rfl|rfl
   ·exact⟨";",rfl,rfl⟩
   exact⟨"=",rfl,rfl⟩
  obtain⟨x,e1,e2⟩:=e1;have e3:(Kw (cN (c:Int))).isSome=ae:=by rw[e1];rfl
  rw[e3];refine dM ⟨_,rfl,aS,cN (c:Int),_,_,rfl,rfl,hS2,e1,_,rfl,_,rfl,_,_,rfl,rfl,DY fun b dx H' s1 _ z=>?_⟩
  have e4:fD t p c=(.sign c,p+1):=by
   unfold fD;rw[da h1]
  rw[e4]at k;refine k b H' s1 ⟨dx,?_⟩;rw[z,e2];rfl
 have e3:(Kw (cN (c:Int))).isSome=af:=by
  unfold Kw;rw[cQ (fun q=>h1 (.inl (by have:=qi q;omega))),cQ (fun q=>h1 (.inr (by have:=qi q;omega)))];rfl
 rw[e3];refine cE ⟨_,rfl,c,rfl,_,rfl,?_⟩;cases h2:jR c with
 |true=>
  have e4:fD t p c=(.word (cut t p (scan cU t p)),scan cU t p):=by
   unfold fD;rw[cQ h1,da h2]
  rw[e4]at k;have g2:=qQ (f:=cU) (t:=t) (p:=p) (du hp);refine dM ⟨_,rfl,_,rfl,a,t,p,rfl,hT,du hp,?_⟩;refine⟨_,rfl,_,rfl,_,rfl,_,rfl,_,rfl,a,_,rfl,hT,fun q hq=>?_⟩;rw[RW (du hp) g2];refine⟨q,_,rfl,dw.of bf,MZ,cR Ua hz,fun H1 s1=>?_⟩;have s2:bH H H1:=(bH.new hq).trans s1;exact⟨_,rfl,_,rfl,DY fun b dx H' s3 _ z=>k b H' (s2.trans s3) ⟨dx,z⟩⟩
 |false=>
  refine cE ⟨_,rfl,c,rfl,_,rfl,?_⟩;cases h3:cb c with
  |true=>
   have g2:=qQ (f:=cb) (t:=t) (p:=p) (du hp)
   have num:(c≠48\/scan cb t p=p+1)->∀b dx H',bH H H'->H' b=aa (.ins C dx (y9 (.str "number") (.int (iI (cut t p (scan cb t p)):Nat)) (.int p) (.int (scan cb t p:Nat))))->Q (.ref b) H':=fun h4 b dx H' s1 z=>by
    have e4:fD t p c=(.num (iI (cut t p (scan cb t p))),scan cb t p):=by
     unfold fD;rw[cQ h1,cQ (by rw[h2];decide),da h3,da h4]
    rw[e4]at k;exact k b H' s1 ⟨dx,z⟩
   refine dM ⟨_,rfl,_,rfl,a,t,p,rfl,hT,du hp,?_⟩;refine⟨_,rfl,rfl,_,rfl,?_⟩;by_cases h4:c=48
   ·have e5:(!decide (V.int (c:Int)=V.int 48))=af:=by rw[h4];decide
    rw[e5];refine cE ⟨_,rfl,_,rfl,_,_,rfl,rfl,rfl,_,rfl,?_⟩;by_cases h5:scan cb t p=p+1
    ·have e6:decide (V.int ((scan cb t p:Nat):Int)=V.int ((p:Int)+1))=ae:=by
      rw[h5];exact qk rfl
     rw[e6];refine dM ⟨_,rfl,_,rfl,_,rfl,_,rfl,_,rfl,a,_,rfl,hT,fun q hq=>?_⟩;rw[RW (du hp) g2];exact⟨q,_,rfl,dw.of bf,MZ,_,rfl,_,rfl,DY fun b dx H' s3 _ z=>num (.inr h5) b dx H' ((bH.new hq).trans s3) z⟩
    have e6:decide (V.int ((scan cb t p:Nat):Int)=V.int ((p:Int)+1))=af:=gX fun z=>h5 (by have:=V.int.inj z;omega);rw[e6]
    have e4:fD t p c=(.bad,p):=by
     unfold fD;rw[cQ h1,cQ (by rw[h2];decide),da h3,cQ (by rintro(z|z);exact z h4;exact h5 z)]
    exact cE ⟨_,rfl,_,rfl,DY (bad e4)⟩
   have e5:(!decide (V.int (c:Int)=V.int 48))=ae:=by
    rw[gX fun z=>h4 (by have:=V.int.inj z;omega)];rfl
   rw[e5];refine dM (dM ⟨_,rfl,_,rfl,_,rfl,_,rfl,_,rfl,a,_,rfl,hT,fun q hq=>?_⟩);rw[RW (du hp) g2];exact⟨q,_,rfl,dw.of bf,MZ,_,rfl,_,rfl,DY fun b dx H' s3 _ z=>num (.inl h4) b dx H' ((bH.new hq).trans s3) z⟩
  |false=>
   have e4:fD t p c=(.bad,p):=by
    unfold fD;rw[cQ h1,cQ (by rw[h2];decide),cQ (by rw[h3];decide)]
   exact cE ⟨_,rfl,_,rfl,DY (bad e4)⟩
abbrev ia:=Tk×Nat×Nat
def Tk.isBad:Tk->Bool
 |.bad=>ae
 |_=>af
def me(t:List Nat):Nat->Nat->List ia
 |0,_=>[(.fin,t.length,t.length)]
 |k+1,p=>match t[p]? with
  |none=>[(.fin,t.length,t.length)]
  |some c=>((fD t p c).1,p,(fD t p c).2)::(if(fD t p c).1.isBad=ae then[]else me t k (skip t (fD t p c).2))
def toks(t:List Nat)(p:Nat):List ia:=me t (t.length-p) p
theorem LD{t:List Nat}:∀(n p:Nat),t.length-p<=n->p<=skip t p:=by
 intro n;induction n with
 |zero=>intro p h;rw[uC (by omega)];exact bu _
 |succ n ih=>
  intro p h;cases hc:t[p]? with
  |none=>rw[uC (ir.mp hc)];exact bu _
  |some c=>
   have hp:=(aZ.mp hc).1;rw[F8 hc];split
   ·have:=ih (p+1) (by omega);omega
   split
   ·rename_i Vf;have hs:scan (fun c=>c != 10) t p=scan (fun c=>c != 10) t (p+1):=lO hc (by rw[Vf];rfl);have g:=pL (f:=fun c=>c != 10) (t:=t) (p:=p+1);have:=ih (scan (fun c=>c != 10) t p) (by omega);omega
   exact bu _
theorem Tb{t:List Nat}:∀(n p:Nat),t.length-p<=n->p<=t.length->skip t p<=t.length:=by
 intro n;induction n with
 |zero=>intro p h hp;rw[uC (by omega)];exact hp
 |succ n ih=>
  intro p h hp;cases hc:t[p]? with
  |none=>rw[uC (ir.mp hc)];exact hp
  |some c=>
   have hp:=(aZ.mp hc).1;rw[F8 hc];split
   ·exact ih (p+1) (by omega) (by omega)
   split
   ·rename_i Vf;have hs:scan (fun c=>c != 10) t p=scan (fun c=>c != 10) t (p+1):=lO hc (by rw[Vf];rfl);have g:=pL (f:=fun c=>c != 10) (t:=t) (p:=p+1);exact ih (scan (fun c=>c != 10) t p) (by omega) (qQ (by omega))
   omega
theorem Dq{t:List Nat}{p c:Nat}(hc:t[p]?=aa c)(nb:(fD t p c).1.isBad=af):p<(fD t p c).2/\(fD t p c).2<=t.length:=by
 have hp:=(aZ.mp hc).1;unfold fD at nb⊢;split
 ·exact⟨eQ _,hp⟩
 split
 ·rename_i h1 h2;have e:scan cU t p=scan cU t (p+1):=lO hc (by unfold cU;rw[h2];rfl);have g:=pL (f:=cU) (t:=t) (p:=p+1);have g2:=qQ (f:=cU) (t:=t) (p:=p) (du hp);exact⟨by show p<scan cU t p;omega,g2⟩
 rename_i h1 h2;rw[cQ h1,cQ h2]at nb;split
 ·rename_i h3;rw[da h3]at nb;have e:scan cb t p=scan cb t (p+1):=lO hc h3;have g:=pL (f:=cb) (t:=t) (p:=p+1);have g2:=qQ (f:=cb) (t:=t) (p:=p) (du hp);split
  ·exact⟨by show p<scan cb t p;omega,g2⟩
  rename_i h4;rw[cQ h4]at nb;cases nb
 rename_i h3;rw[cQ h3]at nb;cases nb
theorem QL{t:List Nat}:∀(k j p:Nat),t.length-p<=k->t.length-p<=j->me t k p=me t j p:=by
 intro k;induction k with
 |zero=>
  intro j p h1 h2;cases j with
  |zero=>rfl
  |succ j=>simp only[me,dZ (show t.length<=p by omega)]
 |succ k ih=>
  intro j p h1 h2;cases hc:t[p]? with
  |none=>
   cases j with
   |zero=>simp only[me,hc]
   |succ j=>simp only[me,hc]
  |some c=>
   have hp:=(aZ.mp hc).1;cases j with
   |zero=>omega
   |succ j=>
    simp only[me,hc];cases nb:(fD t p c).1.isBad with
    |true=>rw[da rfl,da rfl]
    |false=>
     obtain⟨g1,g2⟩:=Dq hc nb;have g3:=LD (t:=t) _ (fD t p c).2 (bu _);rw[cQ (by decide),cQ (by decide),ih j _ (by omega) (by omega)]
theorem GH{t:List Nat}{p:Nat}(h:t.length<=p):toks t p=[(.fin,t.length,t.length)]:=by
 unfold toks;rw[show t.length-p=0 by omega];rfl
theorem Lq{t:List Nat}{p c:Nat}(hc:t[p]?=aa c):toks t p=((fD t p c).1,p,(fD t p c).2)::(if(fD t p c).1.isBad=ae then[]else toks t (skip t (fD t p c).2)):=by
 have hp:=(aZ.mp hc).1;unfold toks;obtain⟨k,hk⟩:∃k,t.length-p=k+1:=⟨t.length-p-1,by omega⟩;rw[hk];simp only[me,hc];cases nb:(fD t p c).1.isBad with
 |true=>rw[da rfl,da rfl]
 |false=>
  obtain⟨g1,g2⟩:=Dq hc nb;have g3:=LD (t:=t) _ (fD t p c).2 (bu _);rw[cQ (by decide),cQ (by decide),QL _ _ _ (by omega) (bu _)]
def qF(C:Addr)(H:Hp)(as:ag)(ts:List ia):Prop:=fM (fun a x=>P9 C H a x.1 x.2.1 x.2.2) as ts
theorem m6{α β:Type}{F:α->β->Prop}:∀{l1 l2:List α}{m1 m2:List β},fM F l1 m1->fM F l2 m2->fM F (l1++l2) (m1++m2)
 |_,_,_,_,.nil,s=>s
 |_,_,_,_,.cons r t,s=>.cons r (m6 t s)
theorem qF.same{C:Addr}{H H':Hp}{as:ag}{ts:List ia}(h:qF C H as ts)(s:bH H H'):qF C H' as ts:=Paired.sI h fun a x ⟨dx,e⟩=>⟨dx,s _ _ e⟩
theorem qF.put{C l:Addr}{H:Hp}{xs ys:ao}{as:ag}{ts:List ia}(h:qF C H as ts)(hl:H l=aa (.lst xs)):qF C (upd H l (.lst ys)) as ts:=Paired.sI h fun a x ⟨dx,e⟩=>
 ⟨dx,by rw[bB (lE e hl (by intro z;cases z))];exact e⟩
inductive WC(K:aY)(C:Addr)(vs:ao)(H:Hp)(Q:VK)(z':XK):Prop
 |mk (a:Addr) (t:List Nat) (_:vs=[.ref a]) (_:dw K H a (tx t)) (_:t.length<=100000) (_:∀l as H',bH H H'->H' l=aa (.lst (as.map V.ref))->qF C H' as (toks t (skip t 0))->Q (.ref l) H')
theorem XX(τ:Tk):decide (V.str τ.kind=V.str "none")=τ.isBad:=by cases τ<;>rfl
theorem uA{k v p e:V}:(y9 k v p e).lookup ("kind":Str)=aa k:=by
 unfold y9;rfl
theorem w6{k v p e:V}:(y9 k v p e).lookup ("value":Str)=aa v:=by
 unfold y9;rfl
theorem Wn{k v p e:V}:(y9 k v p e).lookup ("position":Str)=aa p:=by
 unfold y9;rfl
theorem Wo{k v p e:V}:(y9 k v p e).lookup ("end":Str)=aa e:=by
 unfold y9;rfl
theorem Oe{t:List Nat}{p:Nat}:(toks t p).length<=t.length-p+1:=by
 unfold toks;generalize hk:t.length-p=k
 have:∀k p,(me t k p).length<=k+1:=by
  intro k;induction k with
  |zero=>intro p;exact bu _
  |succ k ih=>
   intro p;cases hc:t[p]? with
   |none=>
    simp only[me,hc];exact Ja (cC _)
   |some c=>
    simp only[me,hc];split
    ·exact Ja (cC _)
    exact Ja (ih _)
 exact this k p
theorem HF{f C:Addr}{fd:bC}(F:iG K "read_tokens" "read_tokens" tQ f fd)(hl:mg "len"=ab)(T:Sg K C)(M:Mc P w K mg base 1 "Token" C Xf (yH C))
 (Cs:Fn P w K mg base eM 2 "skip_blanks" vL (WE K))(Ct:Fn P w K mg base eM 3 "read_token" vL (Kr K C)):dy P w K mg base eM 4 f fd ["text"] (WC K C):=by
 refine F.ok lh fun fz A outer s H vs Q E hr h=>?_
 obtain⟨a,t,rfl,hT,hz,k⟩:=h
 have RI:gG 2 _:=hr.mono (by decide)
 refine⟨_,bh (jB 1 lh.nd (eB bq)) (bh (jB 2 lh.nd (dJ Cs RI (by rfl) (aQ (pv 0) (aQ cG bq))))
  (bh (oj bW (cS tm (pv 2) (dD cJ (by rfl) hl cx (aQ (pv 0) bq)) (dg _))
   (bh (jB 3 lh.nd (dJ Ct hr (by rfl) (aQ (pv 0) (aQ (pv 2) bq))))
   (bh (dN (mq cj c9 c8 iO (pv 1) (aQ (pv 3) bq)))
   (bh (d9 (cS iY (cw (pv 3) rfl) eO (dg _)) (bj (cf (pv 1))) cT)
   (bj (jB 2 lh.nd (dJ Cs RI (by rfl) (aQ (pv 0) (aQ (cw (pv 3) rfl) bq)))))))))
  (bh (dN (mq cj c9 c8 iO (pv 1) (aQ (EN M RI (by rfl) (aQ eO (aQ eO (aQ (dD cJ (by rfl) hl cx (aQ (pv 0) bq)) (aQ (dD cJ (by rfl) hl cx (aQ (pv 0) bq)) bq))))) bq)))
  (bj (cf (pv 1)))))),?_⟩
 refine⟨cC _,fun l hl0=>?_⟩
 have s1:bH H (upd H l (.lst [])):=bH.new hl0
 refine⟨_,rfl,a,t,0,rfl,s1.seq hT,cC _,?_⟩
 have q0:=Tb (t:=t) _ 0 (bu _) (cC _)
 refine⟨fun m σ H'=>Ex4 fun(q:Nat)(v:Option V)(as:ag)(dn:List ia)=>m=t.length-q/\q<=t.length/\bH H H'/\H' l=aa (.lst (as.map V.ref))/\qF C H' as dn/\dn++toks t q=toks t (skip t 0)/\σ=[aa (.ref a),aa (.ref l),aa (.int q),v],
  ⟨_,skip t 0,ab,[],[],rfl,q0,s1,bf,.nil,rfl,rfl⟩,?_⟩
 rintro m σ H' ⟨q,v,as,dn,rfl,hq,s2,NQ,ta,dq,rfl⟩
 have anH:as.length=dn.length:=dO ta
 have agl:dn.length+(toks t q).length<=t.length+1:=by
  have:=congrArg Jc dq;rw[bR]at this;have h2:=Oe (t:=t) (p:=skip t 0);omega
 have am3:0<(toks t q).length:=by
  cases hc:t[q]? with
  |none=>rw[GH (ir.mp hc)];exact Nat.zero_lt_one
  |some c=>rw[Lq hc];exact Nat.succ_pos _
 have agk:(as.map V.ref).length<bz:=by
  rw[aV,bZ];omega
 refine⟨_,rfl,_,rfl,a,_,rfl,.inl (s2.seq hT),_,_,rfl,rfl,_,rfl,?_⟩
 by_cases h1:(q:Int)<((tx t).length:Int)
 ·rw[qk h1]
  have Ik:=SM h1
  obtain⟨c,hc⟩:∃c,t[q]?=aa c:=⟨_,bF Ik⟩
  have tq:=Lq hc
  refine dM ⟨fun σ' G=>Ex4 fun(q':Nat)(v:Option V)(as:ag)(dn:List ia)=>t.length-q'<t.length-q/\q'<=t.length/\bH H G/\G l=aa (.lst (as.map V.ref))/\qF C G as dn/\dn++toks t q'=toks t (skip t 0)/\σ'=[aa (.ref a),aa (.ref l),aa (.int q'),v],
   fun σ' G ⟨q',v,as,dn,z1,z2⟩=>⟨_,z1,q',v,as,dn,rfl,z2⟩,?_⟩
  refine⟨_,rfl,_,rfl,a,t,q,c,rfl,s2.seq hT,hc,hz,fun b H1 s3 tb=>?_⟩
  have uw:=s3 _ _ NQ
  refine⟨_,rfl,.inl ⟨rfl,_,dw.of uw⟩,_,rfl,l,_,_,rfl,rfl,uw,agk,?_⟩
  obtain⟨dx,hb⟩:=id tb
  have nb:b≠l:=lE hb uw (by intro z;cases z)
  have Ip:(upd H1 l (.lst (as.map V.ref++[V.ref b]))) b=aa (.ins C dx (y9 (.str (fD t q c).1.kind) (fD t q c).1.val (.int (q:Int)) (.int ((fD t q c).2:Int)))):=by
   rw[bB nb];exact hb
  have lst:(upd H1 l (.lst (as.map V.ref++[V.ref b]))) l=aa (.lst ((as++[b]).map V.ref)):=by
   rw[bf,cg];rfl
  have ta2:qF C (upd H1 l (.lst (as.map V.ref++[V.ref b]))) (as++[b]) (dn++[((fD t q c).1,q,(fD t q c).2)]):=m6 ((ta.same s3).put uw) (.cons ⟨dx,Ip⟩ .nil)
  have s4:bH H (upd H1 l (.lst (as.map V.ref++[V.ref b]))):=bH.put hl0 (s2.trans s3)
  refine⟨_,rfl,b,C,dx,_,_,rfl,Ip,T.cl,T.n1,uA,rfl,_,rfl,?_⟩
  rw[XX]
  cases bd:(fD t q c).1.isBad with
  |true=>
   refine dM ⟨_,rfl,k l (as++[b]) _ s4 lst ?_⟩
   rw[tq,bd,da rfl]at dq
   rw[<-dq]
   exact ta2
  |false=>
   obtain⟨g1,g2⟩:=Dq hc bd
   have g3:=LD (t:=t) _ (fD t q c).2 (bu _)
   have g4:=Tb (t:=t) _ (fD t q c).2 (bu _) g2
   refine cE ⟨_,rfl,_,rfl,b,C,dx,_,_,rfl,Ip,T.cl,T.n4,Wo,a,t,(fD t q c).2,rfl,s4.seq hT,g2,?_⟩
   refine⟨skip t (fD t q c).2,_,as++[b],dn++[((fD t q c).1,q,(fD t q c).2)],by omega,g4,s4,lst,ta2,?_,rfl⟩
   rw[tq,bd,cQ (by decide)]at dq
   rw[<-dq,de]
   rfl
 rw[gX h1]
 refine cE ⟨_,rfl,.inl ⟨rfl,_,dw.of NQ⟩,_,rfl,a,_,rfl,.inl (s2.seq hT),_,rfl,a,_,rfl,.inl (s2.seq hT),?_⟩
 intro b dx hbn hdn ndb
 refine⟨b,dx,_,_,_,_,rfl,bf,rfl,?_⟩
 generalize hH1:upd (upd (upd H' dx (.own b)) b (.ins C dx [])) b (.ins C dx (y9 (.str "end") (.str "") (.int ((tx t).length:Int)) (.int ((tx t).length:Int))))=H1
 have s3:bH H' H1:=fun y o z=>by
  rw[<-hH1,jj,bB (bP z hbn),bB (bP z hdn)];exact z
 have hb:H1 b=aa (.ins C dx (y9 (.str "end") (.str "") (.int ((tx t).length:Int)) (.int ((tx t).length:Int)))):=by
  rw[<-hH1,bf]
 have uw:=s3 _ _ NQ
 refine⟨l,_,_,rfl,rfl,uw,agk,_,rfl,?_⟩
 have nb:b≠l:=lE hb uw (by intro z;cases z)
 have lt:(tx t).length=t.length:=by
  unfold tx;exact aV _
 rw[GH (SN h1)]at dq
 refine k l (as++[b]) _ (bH.put hl0 (s2.trans s3)) ?_ ?_
 ·rw[bf,cg]
  rfl
 rw[<-dq]
 refine m6 ((ta.same s3).put uw) (.cons ⟨dx,?_⟩ .nil)
 rw[bB nb,hb,lt]
 rfl
structure Me(P:bY)(w:cX)(K:aY)(mg:aj)(base:Heap)(CX:Qp)(k:Nat)(C:Addr)(m:Str)(ps:ak)(sp:Sp):Prop where
 ex:∃(f:Addr)(fd:bC),Meth K C m f/\dy P w K mg base CX k f fd ps sp/\Binds K fd ps []
section
variable{X:Cx}{k:Nat}{C:Addr}{m:Str}{ps:ak}{sp:Sp}{o e:Expr}{es:List Expr}{ta:TE}{t:TA}{apos pos:Pos}
theorem Xm{pl:Sem Bool}(c:Gq X.K C)(M:Me X.prog X.w X.K X.mg X.base eM k C m ps sp)(hr:gG k X.A)(ho:PE X o ta)(ha:PA X (e::es) t)
 (KS:bX (e::es) X.env=(af,eval e X.env)::bX es X.env:=by rfl)(yT:(gz pos (bX es X.env)).any (·.1)=af:=by rfl)
 (ht:eval (.Call (.Attribute o m apos) (e::es) [] pos) X.env=(do
  let ov<-eval o X.env
  sy apos.atName
  let(f,first)<-qI [ov] (pW ov m pl)
  sS pos f first (gz pos (bX (e::es) X.env)) (wm pos (m9 [] X.env))):=by rfl):PE X (.Call (.Attribute o m apos) (e::es) [] pos) (GL C m sp [] E0 ta t):=by
 obtain⟨f,fd,M,G,b⟩:=M.ex
 exact To (pl:=pl) ho c M G hr b .nil rO ha KS yT ht
theorem adj{pl:Sem Bool}(c:Gq X.K C)(M:Me X.prog X.w X.K X.mg X.base eM k C m ps sp)(hr:gG k X.A)(ho:PE X o ta)
 (ht:eval (.Call (.Attribute o m apos) [] [] pos) X.env=(do
  let ov<-eval o X.env
  sy apos.atName
  let(f,first)<-qI [ov] (pW ov m pl)
  sS pos f first (gz pos (bX [] X.env)) (wm pos (m9 [] X.env))):=by rfl):PE X (.Call (.Attribute o m apos) [] [] pos) (GL C m sp [] E0 ta Dr):=by
 obtain⟨f,fd,M,G,b⟩:=M.ex
 exact OS (pl:=pl) ho c M G hr b .nil rO ht
theorem kT{E:XK}{pl:Sem Bool}(B:Bd X)(c:Gq X.K C)(M:Me X.prog X.w X.K X.mg X.base (k7 X.prog X.w) k C m ps sp)(hr:gG k X.A)(ho:PE (Pt X E) o ta)(ha:PA (Pt X E) (e::es) t)
 (KS:bX (e::es) X.env=(af,eval e X.env)::bX es X.env:=by rfl)(yT:(gz pos (bX es X.env)).any (·.1)=af:=by rfl)
 (ht:eval (.Call (.Attribute o m apos) (e::es) [] pos) X.env=(do
  let ov<-eval o X.env
  sy apos.atName
  let(f,first)<-qI [ov] (pW ov m pl)
  sS pos f first (gz pos (bX (e::es) X.env)) (wm pos (m9 [] X.env))):=by rfl):PE (Pt X E) (.Call (.Attribute o m apos) (e::es) [] pos) (GL C m sp [] E ta t):=by
 obtain⟨f,fd,M,G,b⟩:=M.ex
 exact To (X:=Pt X E) (pl:=pl) ho c M G hr b .nil (LU B) ha KS yT ht
theorem jk{E:XK}{pl:Sem Bool}(B:Bd X)(c:Gq X.K C)(M:Me X.prog X.w X.K X.mg X.base (k7 X.prog X.w) k C m ps sp)(hr:gG k X.A)(ho:PE (Pt X E) o ta)
 (ht:eval (.Call (.Attribute o m apos) [] [] pos) X.env=(do
  let ov<-eval o X.env
  sy apos.atName
  let(f,first)<-qI [ov] (pW ov m pl)
  sS pos f first (gz pos (bX [] X.env)) (wm pos (m9 [] X.env))):=by rfl):PE (Pt X E) (.Call (.Attribute o m apos) [] [] pos) (GL C m sp [] E ta Dr):=by
 obtain⟨f,fd,M,G,b⟩:=M.ex
 exact OS (X:=Pt X E) (pl:=pl) ho c M G hr b .nil (LU B) ht
end
structure RdC(K:aY)(C:Addr):Prop where
 cl:Gq K C
 n1:eV K C "tokens"
 n2:eV K C "place"
def VV(l:Addr)(i:Nat):aq:=[("tokens",.ref l),("place",.int (i:Int))]
structure wa(CT CR:Addr)(H:Hp)(r l:Addr)(as:ag)(ts:List ia)(i:Nat):Prop where
 rd:∃dx,H r=aa (.ins CR dx (VV l i))
 ls:H l=aa (.lst (as.map V.ref))
 tk:qF CT H as ts
 sm:∀(i:Nat)(w:List Nat)(p e:Nat),ts[i]?=aa (.word w,p,e)->w.length<=100000
theorem wa.tok{CT CR:Addr}{H:Hp}{r l:Addr}{as:ag}{ts:List ia}{i:Nat}(R:wa CT CR H r l as ts i){x:ia}(h:ts[i]?=aa x):∃a,as[i]?=aa a/\P9 CT H a x.1 x.2.1 x.2.2:=by
 have key:∀{as:ag}{ts:List ia}{i:Nat},qF CT H as ts->ts[i]?=aa x->∃a,as[i]?=aa a/\P9 CT H a x.1 x.2.1 x.2.2:=by
  intro as ts i hp;induction hp generalizing i with
  |nil=>intro h;simp at h
  |cons r _ ih=>
   intro h;cases i with
   |zero=>
    simp at h;subst h;exact⟨_,rfl,r⟩
   |succ i=>exact ih (by simpa using h)
 exact key R.tk h
theorem iw{as:ag}{i:Nat}{a:Addr}(h:as[i]?=aa a):(as.map V.ref)[i]?=aa (V.ref a):=by
 rw[bL,h];rfl
theorem ON{l:Addr}{i:Nat}:(VV l i).lookup ("tokens":Str)=aa (.ref l):=rfl
theorem Kz{l:Addr}{i:Nat}:(VV l i).lookup ("place":Str)=aa (.int (i:Int)):=rfl
inductive WG(K:aY)(CT CR:Addr)(vs:ao)(H:Hp)(Q:VK)(z':XK):Prop
 |mk (r l c:Addr) (as:ag) (ts:List ia) (i:Nat) (τ:Tk) (p e:Nat) (k:Str) (xs:ao) (_:vs=[.ref r,.str k,.ref c]) (_:wa CT CR H r l as ts i) (_:ts[i]?=aa (τ,p,e)) (_:wF K H c xs) (_:xs.all uX=ae) (_:Q (.bl (decide (τ.kind=k)&&ve τ.val xs)) H)
theorem Wl(τ:Tk):uX τ.val=ae:=by cases τ<;>rfl
theorem aah{f CT CR:Addr}{fd:bC}(F:iG K "sees" "Reader.sees" uc f fd)(T:Sg K CT)(R:RdC K CR):dy P w K mg base eM 1 f fd ["self","kind","choices"] (WG K CT CR):=by
 refine F.ok xu fun fz A outer s H vs Q E hr h=>?_;obtain⟨r,l,c,as,ts,i,τ,p,e,k,xs,rfl,ra,hi,hc,fl,q⟩:=h;obtain⟨dx,x9⟩:=ra.rd;obtain⟨a,ha,dt,ht⟩:=ra.tok hi
 refine⟨_,bh (jB 3 xu.nd (dW cW (cw (pv 0) rfl) (cw (pv 0) rfl) (fun _ _=>rfl)))
  (bj (cf (vN (jD iY (cw (pv 3) rfl) (pv 1) (dg _)) (vM (jD yO (cw (pv 3) rfl) (pv 2) (by rfl)))))),?_⟩
 refine⟨_,rfl,r,CR,dx,_,_,rfl,x9,R.cl,R.n1,ON,_,rfl,r,CR,dx,_,_,rfl,x9,R.cl,R.n2,Kz,l,_,_,_,rfl,rfl,dw.of ra.ls,tH (iw ha),?_⟩;refine⟨_,rfl,a,CT,dt,_,_,rfl,ht,T.cl,T.n1,uA,_,rfl,rfl,_,rfl,?_⟩;by_cases hk:τ.kind=k
 ·have e1:decide (V.str τ.kind=V.str k)=ae:=by rw[hk];exact qk rfl
  rw[e1];rw[qk hk,eI]at q;exact dM ⟨_,rfl,a,CT,dt,_,_,rfl,ht,T.cl,T.n2,w6,_,rfl,c,xs,rfl,.inr hc,Wl τ,fl,q⟩
 have e1:decide (V.str τ.kind=V.str k)=af:=gX fun z=>hk (V.str.inj z);rw[e1];rw[gX hk,eD]at q;exact cE q
structure Ec(P:bY)(w:cX)(K:aY)(mg:aj)(base:Heap)(x:Str)(C:Addr)(ps:ak)(sp:Sp):Prop where
 ex:∃(f:Addr)(fd:bC),qc K C f=ae/\dy P w K mg base eM 2 f fd ps sp/\mg x=aa (.ref C)/\Binds K fd ps []
 nn:eV K C "number"
theorem abO{X:Cx}{x:Str}{C:Addr}{ps:ak}{sp:Sp}{e:Expr}{es:List Expr}{t:TA}{p pos:Pos}(M:Ec X.prog X.w X.K X.mg X.base x C ps sp)(hr:gG 3 X.A)(hg:Gl X x)(ha:PA X (e::es) t)(AG:(x==("__debug__":Str))=af:=by decide)
 (he:bX (e::es) X.env=(af,eval e X.env)::bX es X.env:=by rfl)(yT:(gz pos (bX es X.env)).any (·.1)=af:=by rfl):PE X (.Call (.Name x p) (e::es) [] pos) (An C sp t):=by
 obtain⟨f,fd,M,G,m,b⟩:=M.ex
 exact Xn M G hr hg m b ha AG he yT
theorem ug{X:Cx}{x:Str}{C:Addr}{ps:ak}{sp:Sp}{p pos:Pos}(M:Ec X.prog X.w X.K X.mg X.base x C ps sp)(hr:gG 3 X.A)(hg:Gl X x)(AG:(x==("__debug__":Str))=af:=by decide):PE X (.Call (.Name x p) [] [] pos) (An C sp Dr):=by
 obtain⟨f,fd,M,G,m,b⟩:=M.ex;exact UR M G hr hg m b AG
theorem j4{E:XK}{H:Hp}{x:Str}{C:Addr}{n:Int}{D:Ends}{σ:L2.St}{ps:ak}(M:Ec P w K mg base x C ps (iL K n))(h:jv E H C [("number",.int n)]):Lr K E (An C (iL K n) Dr) D σ H:=by
 obtain⟨f,fd,m,_⟩:=M.ex;exact ac9 m M.nn h
theorem DG{E:XK}{H:Hp}{x y:Str}{C:Addr}{n z:Int}{ps:ak}(M:Ec P w K mg base x C ps (Dx K n y))(ny:eV K C y)(h:jv E H C (rL y (.int z) [("number",.int n)])):
 ([V.int z]:ao).length<=bz/\∀a,H a=ab->Dx K n y (.ref a::[V.int z]) (upd H a (lR a C ab)) (fun v H2=>v=.j7/\∃a' C' f' d',V.ref a=.ref a'/\H2 a'=aa (lR a' C' d')/\qc K C' f'=ae/\E (.ref a') ab (upd H2 a' (Ea a' C' d'))) E0:=by
 obtain⟨f,fd,m,_⟩:=M.ex
 exact ac8 (te:=tC (.int z)) (D:=⟨fun _ _=>True,fun _ _=>True,fun _ _=>False,fun _ _=>False⟩) (σ:=[]) m M.nn ny ⟨rfl,rfl⟩ (fun Q Q' hq h=>hq _ _ h) h
inductive Ov(CR:Addr)(vs:ao)(H:Hp)(Q:VK)(z':XK):Prop
 |mk (r dx l:Addr) (_:vs=[.ref r,.ref l]) (_:H r=aa (.ins CR dx [])) (_:Q .j7 (upd H r (.ins CR dx (VV l 0))))
theorem HN{f C:Addr}{fd:bC}(F:iG K "__init__" "Reader.__init__" ud f fd)(R:RdC K C):dy P w K mg base eM 1 f fd ["self","tokens"] (Ov C):=by
 refine F.ok Hj fun fz A outer s H vs Q E hr h=>?_;obtain⟨r,dx,l,rfl,ha,q⟩:=h;refine⟨_,bh (lC (pv 0) (pv 1) rfl) (bj (lC (pv 0) cG rfl)),?_⟩;refine⟨_,rfl,_,rfl,r,C,dx,_,rfl,ha,R.cl,R.n1,(by show 0<1000;decide),?_⟩;refine⟨_,rfl,r,C,dx,_,rfl,bf,R.cl,R.n2,(by show 1<1000;decide),?_⟩;rw[jj];exact q
def Tk.my:Tk->Bool
 |.fin=>ae
 |_=>af
theorem XW(τ:Tk):decide (V.str τ.kind=V.str "end")=τ.my:=by cases τ<;>rfl
inductive S9(CT CR:Addr)(vs:ao)(H:Hp)(Q:VK)(z':XK):Prop
 |mk (r l:Addr) (as:ag) (ts:List ia) (i:Nat) (τ:Tk) (p e:Nat) (_:vs=[.ref r]) (_:wa CT CR H r l as ts i) (_:ts[i]?=aa (τ,p,e)) (_:Q (.bl τ.my) H)
theorem UX{f CT CR:Addr}{fd:bC}(F:iG K "at_end" "Reader.at_end" qz f fd)(T:Sg K CT)(R:RdC K CR):dy P w K mg base eM 1 f fd dS (S9 CT CR):=by
 refine F.ok DA fun fz A outer s H vs Q E hr h=>?_;obtain⟨r,l,as,ts,i,τ,p,e,rfl,ra,hi,q⟩:=h;obtain⟨dx,x9⟩:=ra.rd;obtain⟨a,ha,dt,ht⟩:=ra.tok hi;refine⟨_,bj (cf (jD iY (cw (dW cW (cw (pv 0) rfl) (cw (pv 0) rfl) (fun _ _=>rfl)) rfl) eO (dg _))),?_⟩;refine⟨_,rfl,r,CR,dx,_,_,rfl,x9,R.cl,R.n1,ON,_,rfl,r,CR,dx,_,_,rfl,x9,R.cl,R.n2,Kz,l,_,_,_,rfl,rfl,dw.of ra.ls,tH (iw ha),?_⟩;refine⟨a,CT,dt,_,_,rfl,ht,T.cl,T.n1,uA,rfl,?_⟩;rw[XW];exact q
inductive uB(CT CR CW:Addr)(vs:ao)(H:Hp)(Q:VK)(E:XK):Prop
 |mk (r l:Addr) (as:ag) (ts:List ia) (i:Nat) (τ:Tk) (p e:Nat) (b:Bool) (_:vs=[.ref r,.bl b]) (_:wa CT CR H r l as ts i) (_:ts[i]?=aa (τ,p,e)) (_:(b=ae->∀dx,H r=aa (.ins CR dx (VV l i))->Q τ.val (upd H r (.ins CR dx (VV l (i+1)))))) (_:(b=af->jv E H CW [("number",.int (-2)),("position",.int (p:Int))]))
theorem Rg{f CT CR CW:Addr}{fd:bC}(F:iG K "take_if" "Reader.take_if" pC f fd)(T:Sg K CT)(R:RdC K CR)(M:Ec P w K mg base "WrongForm" CW Hq (Dx K (-2) "position"))(ny:eV K CW "position"):
 dy P w K mg base (k7 P w) 4 f fd ["self","can_stand"] (uB CT CR CW):=by
 refine DV F sY fun fz A outer s H vs Q E hr h=>?_
 obtain⟨r,l,as,ts,i,τ,p,e,b,rfl,ra,hi,q1,q2⟩:=h
 obtain⟨dx,x9⟩:=ra.rd
 obtain⟨a,ha,dt,ht⟩:=ra.tok hi
 refine⟨_,bh (jB 2 sY.nd (dW cW (cw (pv 0) rfl) (cw (pv 0) rfl) (fun _ _=>rfl)))
  (bh (d9 (ue (jy (pv 1))) (bj (kK k6 rfl (abO M hr (by rfl) (aQ (cw (pv 2) rfl) bq)))) cT)
  (bh (UL (pv 0) cG qB) (bj (cf (cw (pv 2) rfl))))),?_⟩
 refine⟨_,rfl,r,CR,dx,_,_,rfl,x9,R.cl,R.n1,ON,_,rfl,r,CR,dx,_,_,rfl,x9,R.cl,R.n2,Kz,l,_,_,_,rfl,rfl,dw.of ra.ls,tH (iw ha),?_⟩
 refine⟨_,rfl,b,rfl,?_⟩
 cases b with
 |false=>exact dM ⟨_,rfl,a,CT,dt,_,_,rfl,ht,T.cl,T.n3,Wn,DG M ny (q2 rfl)⟩
 |true=>
  refine cE ⟨_,rfl,r,CR,dx,_,_,rfl,x9,R.cl,R.n2,Kz,_,_,rfl,rfl,dx,_,x9,(by show 2<1000;decide),?_⟩
  have nr:a≠r:=fun z=>by
   rw[z,x9]at ht;have:=(HO.ins.inj (bT ht)).2.2;cases this
  exact⟨_,rfl,a,CT,dt,_,_,rfl,(bB nr).trans ht,T.cl,T.n2,w6,q1 rfl dx x9⟩
structure FJ(CR:Addr)(H H':Hp)(r l:Addr)(i:Nat):Prop where
 rd:∃dx,H' r=aa (.ins CR dx (VV l i))
 kp:∀b o,b≠r->H b=aa o->H' b=aa o
theorem jv.mono{E:XK}{H H1:Hp}{C:Addr}{fs:aq}(h:jv E H C fs)(s:bH H H1):jv E H1 C fs:=fun a dx H' s1 x y=>h a dx H' (s.trans s1) x y
theorem acG{CT CR:Addr}{H:Hp}{r l a:Addr}{i:Nat}{τ:Tk}{p e:Nat}(h:∃dx,H r=aa (.ins CR dx (VV l i)))(ht:P9 CT H a τ p e):a≠r:=fun z=>by
 obtain⟨dx,h⟩:=h;obtain⟨dt,ht⟩:=ht;rw[z,h]at ht;have:=(HO.ins.inj (bT ht)).2.2;cases this
theorem wa.YS{CT CR:Addr}{H H':Hp}{r l:Addr}{as:ag}{ts:List ia}{i j:Nat}(R:wa CT CR H r l as ts i)(A:FJ CR H H' r l j):wa CT CR H' r l as ts j:=by
 obtain⟨dx,h⟩:=id R.rd;refine⟨A.rd,A.kp l _ (lE R.ls h (by intro z;cases z)) R.ls,Paired.sI R.tk fun a x t=>?_,R.sm⟩;obtain⟨dt,t'⟩:=id t;exact⟨dt,A.kp a _ (acG R.rd t) t'⟩
theorem wa.same{CT CR:Addr}{H H':Hp}{r l:Addr}{as:ag}{ts:List ia}{i:Nat}(R:wa CT CR H r l as ts i)(s:bH H H'):wa CT CR H' r l as ts i:=by
 obtain⟨dx,h⟩:=R.rd;exact⟨⟨dx,s _ _ h⟩,s _ _ R.ls,R.tk.same s,R.sm⟩
inductive Take(CT CR CW:Addr)(g:Tk->Bool)(r:Addr)(H:Hp)(Q:VK)(E:XK):Prop
 |mk (l:Addr) (as:ag) (ts:List ia) (i:Nat) (τ:Tk) (p e:Nat) (_:wa CT CR H r l as ts i) (_:ts[i]?=aa (τ,p,e)) (_:(g τ=ae->∀H',FJ CR H H' r l (i+1)->Q τ.val H')) (_:(g τ=af->jv E H CW [("number",.int (-2)),("position",.int (p:Int))]))
theorem Take.Ub{CT CR CW:Addr}{g:Tk->Bool}{r:Addr}{H H1:Hp}{Q:VK}{E:XK}{l:Addr}{as:ag}{ts:List ia}{i:Nat}{τ:Tk}{p e:Nat}(ra:wa CT CR H r l as ts i)(s:bH H H1)(hi:ts[i]?=aa (τ,p,e))
 (q1:g τ=ae->∀H',FJ CR H H' r l (i+1)->Q τ.val H')(q2:g τ=af->jv E H CW [("number",.int (-2)),("position",.int (p:Int))]):uB CT CR CW [.ref r,.bl (g τ)] H1 Q E:=
 ⟨r,l,as,ts,i,τ,p,e,g τ,rfl,ra.same s,hi,fun hg dx h=>q1 hg _ ⟨⟨dx,bf⟩,fun b o nb z=>by rw[bB nb];exact s b o z⟩,fun hg=>(q2 hg).mono s⟩
structure RdE(P:bY)(w:cX)(K:aY)(mg:aj)(base:Heap)(CT CR CW:Addr):Prop where
 tc:Sg K CT
 rc:RdC K CR
 sees:Me P w K mg base eM 1 CR "sees" ["self","kind","choices"] (WG K CT CR)
 tif:Me P w K mg base (k7 P w) 4 CR "take_if" ["self","can_stand"] (uB CT CR CW)
def jI(k:Str)(xs:ao)(τ:Tk):Bool:=decide (τ.kind=k)&&ve τ.val xs
inductive GU(K:aY)(CT CR CW:Addr)(vs:ao)(H:Hp)(Q:VK)(E:XK):Prop
 |mk (r c:Addr) (xs:ao) (_:vs=[.ref r,.ref c]) (_:wF K H c xs) (_:xs.all uX=ae) (_:Take CT CR CW (jI "word" xs) r H Q E)
inductive Ap(CT CR CW:Addr)(vs:ao)(H:Hp)(Q:VK)(E:XK):Prop
 |mk (r:Addr) (x:Str) (_:vs=[.ref r,.str x]) (_:Take CT CR CW (jI "sign" [.str x]) r H Q E)
theorem LZ{f CT CR CW:Addr}{fd:bC}(F:iG K "take_word" "Reader.take_word" mV f fd)(R:RdE P w K mg base CT CR CW):dy P w K mg base (k7 P w) 5 f fd ["self","choices"] (GU K CT CR CW):=by
 refine DV F zd fun fz A outer s H vs Q E hr h=>?_;obtain⟨r,c,xs,rfl,hc,fl,l,as,ts,i,τ,p,e,ra,hi,q1,q2⟩:=h;obtain⟨dx,x9⟩:=id ra.rd;have Ij:gG 1 _:=hr.mono (by decide);refine⟨_,bj (cf (kT k6 R.rc.cl R.tif hr (pv 0) (aQ (Xm R.rc.cl R.sees Ij (pv 0) (aQ eO (aQ (pv 1) bq))) bq))),?_⟩;refine⟨_,rfl,r,dx,_,rfl,x9,rfl,_,rfl,r,dx,_,rfl,x9,rfl,_,rfl,r,l,c,as,ts,i,τ,p,e,_,xs,rfl,ra,hi,hc,fl,?_⟩;exact Take.Ub (g:=jI "word" xs) ra (bH.refl H) hi q1 q2
theorem L4{f CT CR CW:Addr}{fd:bC}(F:iG K "take_sign" "Reader.take_sign" mX f fd)(R:RdE P w K mg base CT CR CW):dy P w K mg base (k7 P w) 5 f fd ["self","sign"] (Ap CT CR CW):=by
 refine DV F zf fun fz A outer s H vs Q E hr h=>?_;obtain⟨r,x,rfl,l,as,ts,i,τ,p,e,ra,hi,q1,q2⟩:=h;obtain⟨dx,x9⟩:=id ra.rd;have Ij:gG 1 _:=hr.mono (by decide);refine⟨_,bj (cf (kT k6 R.rc.cl R.tif hr (pv 0) (aQ (Xm R.rc.cl R.sees Ij (pv 0) (aQ eO (aQ (Hv (aQ (pv 1) bq)) bq))) bq))),?_⟩;refine⟨_,rfl,r,dx,_,rfl,x9,rfl,_,rfl,r,dx,_,rfl,x9,rfl,_,rfl,(by show 1<=bz;decide),fun c hc=>?_⟩;have s1:bH H (upd H c (.tup [.str x])):=bH.new hc;refine⟨r,l,c,as,ts,i,τ,p,e,_,[.str x],rfl,ra.same s1,hi,wF.of bf,rfl,?_⟩;exact Take.Ub (g:=jI "sign" [.str x]) ra s1 hi q1 q2
def x6:ao:=[.str "in",.str "let",.str "out",.str "map",.str "turn"]
def iD:Tk->Bool
 |.word w=>!ve (.str (st w)) x6&&decide (w.length<=16)
 |_=>af
def pK:Tk->Bool
 |.num n=>decide (n<=64)
 |_=>af
inductive F6(CT CR CW:Addr)(g:Tk->Bool)(vs:ao)(H:Hp)(Q:VK)(E:XK):Prop
 |mk (r:Addr) (_:vs=[.ref r]) (_:Take CT CR CW g r H Q E)
theorem L5{f CT CR CW:Addr}{fd:bC}(F:iG K "take_name" "Reader.take_name" mY f fd)(R:RdE P w K mg base CT CR CW)(hK:KT K mg "KEPT_WORDS" x6)(hN:∃t,mg "NAME_LIMIT"=aa (.int 16 t))(hl:mg "len"=ab):
 dy P w K mg base (k7 P w) 5 f fd dS (F6 CT CR CW iD):=by
 obtain⟨aK,hK1,hK2⟩:=hK
 refine DV F lZ fun fz A outer s H vs Q E hr h=>?_
 obtain⟨r,rfl,l,as,ts,i,τ,p,e,ra,hi,q1,q2⟩:=h
 obtain⟨dx,x9⟩:=id ra.rd
 obtain⟨a,ha,dt,ht⟩:=ra.tok hi
 refine⟨_,bh (jB 1 lZ.nd (dW cW (cw (pv 0) rfl) (cw (pv 0) rfl) (fun _ _=>rfl)))
  (bh (jB 2 lZ.nd (vN (jD iY (cw (pv 1) rfl) eO (dg _)) (vN (jD qR (cw (pv 1) rfl) (Hw (by rfl) hK1) (by rfl)) (vM (jD BG (dD vV (by rfl) hl cx (aQ (cw (pv 1) rfl) bq)) (iE (by rfl) hN) (dg _))))))
  (bj (cf (kT k6 R.rc.cl R.tif hr (pv 0) (aQ (pv 2) bq))))),?_⟩
 refine⟨_,rfl,r,CR,dx,_,_,rfl,x9,R.rc.cl,R.rc.n1,ON,_,rfl,r,CR,dx,_,_,rfl,x9,R.rc.cl,R.rc.n2,Kz,l,_,_,_,rfl,rfl,dw.of ra.ls,tH (iw ha),?_⟩
 refine⟨_,rfl,a,CT,dt,_,_,rfl,ht,R.tc.cl,R.tc.n1,uA,rfl,_,rfl,?_⟩
 have fin:∀b,b=iD τ->GL CR "take_if" (uB CT CR CW) [] E (Am 0) (EF (Am 2) Dr) [aa (V.ref r),aa (V.ref a),aa (V.bl b)] H Q:=fun b hb=>
  ⟨_,rfl,r,dx,_,rfl,x9,rfl,_,rfl,by rw[hb];exact Take.Ub (g:=iD) ra (bH.refl H) hi q1 q2⟩
 have no:τ.kind≠"word"->iD τ=af:=fun hk=>by
  cases τ with
  |word w=>exact absurd rfl hk
  |_=>rfl
 by_cases hk:τ.kind="word"
 ·obtain⟨wd,hw⟩:∃wd,τ=.word wd:=by
   cases τ with
   |word w=>exact⟨w,rfl⟩
   |num n=>exact absurd (show("number":Str)="word" from hk) (by decide)
   |sign c=>exact absurd (show("sign":Str)="word" from hk) (by decide)
   |bad=>exact absurd hk (by decide)
   |fin=>exact absurd hk (by decide)
  subst hw
  rw[show decide (V.str (Tk.word wd).kind=V.str "word")=ae from rfl]
  refine dM ⟨_,rfl,a,CT,dt,_,_,rfl,ht,R.tc.cl,R.tc.n2,w6,aK,x6,rfl,.inr (hK2 _),rfl,rfl,_,rfl,?_⟩
  rw[da (show ae=ae from rfl)]
  cases h2:ve (Tk.word wd).val x6 with
  |true=>
   refine cE (fin _ ?_)
   show af=(!ve (.str (st wd)) x6&&decide (wd.length<=16))
   rw[show ve (.str (st wd)) x6=ae from h2]
   rfl
  |false=>
   have sl:(st wd).length=wd.length:=by
    show wd.toArray.size=wd.length;simp
   refine dM ⟨_,rfl,a,CT,dt,_,_,rfl,ht,R.tc.cl,R.tc.n2,w6,_,rfl,?_,_,_,rfl,rfl,fin _ ?_⟩
   ·rw[sl,bZ]
    have:=ra.sm i wd p e hi
    omega
   show decide ((((st wd).length:Nat):Int)<=16)=(!ve (.str (st wd)) x6&&decide (wd.length<=16))
   rw[show ve (.str (st wd)) x6=af from h2,sl,Lk,eI,decide_eq_decide]
   omega
 rw[show decide (V.str τ.kind=V.str "word")=af from gX fun z=>hk (V.str.inj z)]
 exact cE (fin _ (no hk).symm)
theorem HC{f CT CR CW:Addr}{fd:bC}(F:iG K "take_length" "Reader.take_length" lB f fd)(R:RdE P w K mg base CT CR CW)(hN:∃t,mg "LENGTH_LIMIT"=aa (.int 64 t)):
 dy P w K mg base (k7 P w) 5 f fd dS (F6 CT CR CW pK):=by
 refine DV F oZ fun fz A outer s H vs Q E hr h=>?_
 obtain⟨r,rfl,l,as,ts,i,τ,p,e,ra,hi,q1,q2⟩:=h
 obtain⟨dx,x9⟩:=id ra.rd
 obtain⟨a,ha,dt,ht⟩:=ra.tok hi
 refine⟨_,bh (jB 1 oZ.nd (dW cW (cw (pv 0) rfl) (cw (pv 0) rfl) (fun _ _=>rfl)))
  (bj (cf (kT k6 R.rc.cl R.tif hr (pv 0) (aQ (vN (jD iY (cw (pv 1) rfl) eO (dg _)) (vM (jD BG (cw (pv 1) rfl) (iE (by rfl) hN) (dg _)))) bq)))),?_⟩
 refine⟨_,rfl,r,CR,dx,_,_,rfl,x9,R.rc.cl,R.rc.n1,ON,_,rfl,r,CR,dx,_,_,rfl,x9,R.rc.cl,R.rc.n2,Kz,l,_,_,_,rfl,rfl,dw.of ra.ls,tH (iw ha),?_⟩
 refine⟨_,rfl,r,dx,_,rfl,x9,rfl,_,rfl,a,CT,dt,_,_,rfl,ht,R.tc.cl,R.tc.n1,uA,rfl,_,rfl,?_⟩
 have fin:=Take.Ub (g:=pK) (Q:=Q) (E:=E) ra (bH.refl H) hi q1 q2
 have no:τ.kind≠"number"->pK τ=af:=fun hk=>by
  cases τ with
  |num w=>exact absurd rfl hk
  |_=>rfl
 by_cases hk:τ.kind="number"
 ·obtain⟨n,hw⟩:∃n,τ=.num n:=by
   cases τ with
   |num n=>exact⟨n,rfl⟩
   |word w=>exact absurd (show("word":Str)="number" from hk) (by decide)
   |sign c=>exact absurd (show("sign":Str)="number" from hk) (by decide)
   |bad=>exact absurd hk (by decide)
   |fin=>exact absurd hk (by decide)
  subst hw
  rw[show decide (V.str (Tk.num n).kind=V.str "number")=ae from rfl]
  refine dM ⟨_,rfl,a,CT,dt,_,_,rfl,ht,R.tc.cl,R.tc.n2,w6,_,_,rfl,rfl,?_⟩
  have e1:decide ((n:Int)<=64)=pK (.num n):=by
   show decide ((n:Int)<=64)=decide (n<=64);rw[decide_eq_decide];omega
  show uB CT CR CW [.ref r,.bl (decide ((n:Int)<=64))] H Q E
  rw[e1]
  exact fin
 rw[show decide (V.str τ.kind=V.str "number")=af from gX fun z=>hk (V.str.inj z)]
 refine cE ?_
 show uB CT CR CW [.ref r,.bl af] H Q E
 rw[<-no hk]
 exact fin
theorem Hy{X:Cx}{Ek:XK}(B:Bd X):PassesOwn (bK X.prog X.w) X.A X.env (YX X Ek):=fun e s' ⟨a,H,q,F,z⟩=>by
 subst q;obtain⟨⟨σ,I⟩,_⟩:=id F;exact XA B I.ok.frames F fun s2 F2 n2=>ahf B F2 n2 z
def NT(r:Addr)(H H':Hp):Prop:=∀b o,b≠r->H b=aa o->H' b=aa o
theorem NT.trans{r:Addr}{H H1 H2:Hp}(a:NT r H H1)(b:NT r H1 H2):NT r H H2:=fun c o n e=>b c o n (a c o n e)
theorem NT.of{r:Addr}{H H1:Hp}(s:bH H H1):NT r H H1:=fun b o _ e=>s b o e
def tI(E:XK)(H:Hp)(r C:Addr)(fs:aq):Prop:=∀a dx H',NT r H H'->H' a=aa (Ea a C (aa dx))->H' dx=aa (Cu dx fs)->E (.ref a) ab H'
theorem tI.at{E:XK}{H H1:Hp}{r C:Addr}{fs:aq}(h:tI E H r C fs)(b:NT r H H1):jv E H1 C fs:=fun a dx H' s x y=>h a dx H' (b.trans (NT.of s)) x y
theorem tI.on{E:XK}{H H1:Hp}{r C:Addr}{fs:aq}(h:tI E H r C fs)(b:NT r H H1):tI E H1 r C fs:=fun a dx H' s x y=>h a dx H' (b.trans s) x y
abbrev z8(p:Nat):aq:=[("number",.int (-2)),("position",.int (p:Int))]
def cF(ts:List ia)(i:Nat):ia:=ts[i]?.getD (.fin,0,0)
theorem yE{ts:List ia}{i:Nat}(h:i<ts.length):ts[i]?=aa (cF ts i):=by
 unfold cF;rw[bF h];rfl
def Ends(ts:List ia):Prop:=∀i,i<ts.length->(i+1=ts.length↔((cF ts i).1.my=ae\/(cF ts i).1.isBad=ae))
theorem Ends.next{ts:List ia}(e:Ends ts){i:Nat}(h:i<ts.length)(n1:(cF ts i).1.my=af)(n2:(cF ts i).1.isBad=af):i+1<ts.length:=by
 have q:=e i h;rcases jh (i+1) ts.length with z|z
 ·exact z
 have:=q.mp (by omega);rw[n1,n2]at this;rcases this with z|z<;>cases z
def Tk.h8:Tk->Bool
 |.sign c=>c==59
 |_=>af
def Tk.txt:Tk->List Nat
 |.word w=>w
 |_=>[]
theorem L9{τ:Tk}(h:iD τ=ae):τ.my=af/\τ.isBad=af/\τ.val=.str (st τ.txt):=by
 cases τ with
 |word w=>exact⟨rfl,rfl,rfl⟩
 |num n=>cases h
 |sign c=>cases h
 |bad=>cases h
 |fin=>cases h
theorem Ga(τ:Tk):jI "sign" [.str ";"] τ=τ.h8:=by
 cases τ with
 |sign c=>
  show(decide (("sign":Str)="sign")&&((V.str ";"::[]).any fun y=>Yq y (.str (st [c]))))=(c==59);rw[qk rfl,eI];show((((";":Str)==st [c]))||af)=(c==59);rw[lg,eN,beq_iff_eq,beq_iff_eq];constructor
  ·intro h;have:(st [59]).cps=(st [c]).cps:=congrArg Str.cps h;have h2:=congrArg Array.toList this;simp[st]at h2;exact h2.symm
  intro h;rw[h];rfl
 |word w=>rfl
 |num n=>rfl
 |bad=>rfl
 |fin=>rfl
def DO(ts:List ia):Nat->Nat->Except Nat (List (List Nat)×Nat)
 |0,i=>.ok ([],i)
 |k+1,i=>if(cF ts i).1.h8=ae then .ok ([],i)else if iD (cF ts i).1=ae then(DO ts k (i+1)).map (fun x=>((cF ts i).1.txt::x.1,x.2))else .error (cF ts i).2.1
def OU(ts:List ia)(i:Nat):Except Nat (List (List Nat)×Nat):=if iD (cF ts i).1=ae then(DO ts 3 (i+1)).map (fun x=>((cF ts i).1.txt::x.1,x.2))else .error (cF ts i).2.1
def fQ(ns:List (List Nat)):ao:=ns.map fun n=>V.str (st n)
inductive abH(CT CR CW:Addr)(vs:ao)(H:Hp)(Q:VK)(E:XK):Prop
 |mk (r l:Addr) (as:ag) (ts:List ia) (i:Nat) (_:vs=[.ref r]) (_:wa CT CR H r l as ts i) (_:i<ts.length) (_:Ends ts) (_:match OU ts i with
 |.error p=>tI E H r CW (z8 p)
 |.ok (ns,j)=>∀ln H',H ln=ab->FJ CR H H' r l j->H' ln=aa (.lst (fQ ns))->j<ts.length->Q (.ref ln) H')
structure RdM(P:bY)(w:cX)(K:aY)(mg:aj)(base:Heap)(CT CR CW:Addr):Prop extends RdE P w K mg base CT CR CW where
 abA:Me P w K mg base (k7 P w) 5 CR "take_word" ["self","choices"] (GU K CT CR CW)
 abC:Me P w K mg base (k7 P w) 5 CR "take_sign" ["self","sign"] (Ap CT CR CW)
 Wr:Me P w K mg base (k7 P w) 5 CR "take_name" dS (F6 CT CR CW iD)
 aih:Me P w K mg base (k7 P w) 5 CR "take_length" dS (F6 CT CR CW pK)
theorem FJ.but{CR:Addr}{H H':Hp}{r l:Addr}{i:Nat}(a:FJ CR H H' r l i):NT r H H':=a.kp
theorem wM{f CT CR CW:Addr}{fd:bC}(F:iG K "read_operand_names" "read_operand_names" lq f fd)(R:RdM P w K mg base CT CR CW)(hN:∃t,mg "OPERAND_LIMIT"=aa (.int 4 t))(hl:mg "len"=ab):
 dy P w K mg base (k7 P w) 6 f fd ["reader"] (abH CT CR CW):=by
 refine DV F oX fun fz A outer s H vs Q E hr h=>?_
 obtain⟨r,l,as,ts,i,rfl,ra,hi,en,q⟩:=h
 obtain⟨dx,x9⟩:=id ra.rd
 have Ij:gG 1 _:=hr.mono (by decide)
 refine⟨_,bh (jB 1 oX.nd (eB (aQ (jk k6 R.rc.cl R.Wr hr (pv 0)) bq)))
  (bh (oj (Hy k6) (xF (cS tm (dD cJ (by rfl) hl cx (aQ (pv 1) bq)) (iE (by rfl) hN) (dg _)) (sZ (ue (jy (Xm R.rc.cl R.sees Ij (pv 0) (aQ eO (aQ (Hv (aQ eO bq)) bq))))))).pt
   (bj (dN (mq cj c9 c8 iO (pv 1) (aQ (jk k6 R.rc.cl R.Wr hr (pv 0)) bq)))))
  (bj (cf (pv 1)))),?_⟩
 refine⟨_,rfl,r,dx,_,rfl,x9,rfl,r,rfl,l,as,ts,i,(cF ts i).1,(cF ts i).2.1,(cF ts i).2.2,ra,yE hi,fun hn H1 a1=>?_,fun hn=>?_⟩
 ·unfold OU at q
  rw[da hn]at q
  obtain⟨nf,nb,ev⟩:=L9 hn
  have hi1:=en.next hi nf nb
  refine⟨by show 1<=bz;decide,fun ln hln=>?_⟩
  have lnr:ln≠r:=fun z=>by
   obtain⟨dx1,z1⟩:=a1.rd;rw[z,z1]at hln;cases hln
  have aaC:H ln=ab:=by
   cases z:H ln with
   |none=>rfl
   |some o=>rw[a1.kp ln o lnr z]at hln;cases hln
  refine⟨fun m σ H'=>Ex3 fun(ns:List (List Nat))(k j:Nat)=>m=k/\ns.length+k=4/\j<ts.length/\σ=[aa (.ref r),aa (.ref ln)]/\FJ CR H H' r l j/\H' ln=aa (.lst (fQ ns))/\
   (match(DO ts k j).map (fun x=>(ns++x.1,x.2))with
    |.error p=>tI E H r CW (z8 p)
    |.ok (ns,j)=>∀ln H',H ln=ab->FJ CR H H' r l j->H' ln=aa (.lst (fQ ns))->j<ts.length->Q (.ref ln) H'),
   ⟨3,[(cF ts i).1.txt],3,i+1,rfl,rfl,hi1,rfl,⟨?_,?_⟩,?_,q⟩,?_⟩
  ·obtain⟨dx1,z1⟩:=a1.rd
   exact⟨dx1,by rw[bB (dh lnr)];exact z1⟩
  ·intro b o nb' z
   rw[bB (fun q2=>by rw[q2,aaC]at z;cases z)]
   exact a1.kp b o nb' z
  ·rw[bf,ev]
   rfl
  rintro m σ H' ⟨ns,k,j,rfl,hk,hj,rfl,av,uw,qq⟩
  have ac0:(fQ ns).length=ns.length:=aV _
  refine⟨_,rfl,ln,_,rfl,.inl (dw.of uw),_,_,rfl,rfl,_,rfl,?_⟩
  cases m with
  |zero=>
   have e1:decide ((((fQ ns).length:Nat):Int)<4)=af:=gX (by rw[ac0];omega)
   rw[e1]
   refine cE (cE ⟨_,rfl,?_⟩)
   have q2:∀ln H',H ln=ab->FJ CR H H' r l j->H' ln=aa (.lst (fQ (ns++[])))->j<ts.length->Q (.ref ln) H':=qq
   rw[cp]at q2
   exact q2 ln H' aaC av uw hj
  |succ k=>
   have e1:decide ((((fQ ns).length:Nat):Int)<4)=ae:=qk (by rw[ac0];omega)
   rw[e1]
   obtain⟨dx2,RI⟩:=id av.rd
   have ra2:=ra.YS av
   refine dM ⟨_,rfl,r,dx2,_,rfl,RI,rfl,(by show 1<=bz;decide),fun c hc=>?_⟩
   have s1:bH H' (upd H' c (.tup [.str ";"])):=bH.new hc
   have av2:FJ CR H (upd H' c (.tup [.str ";"])) r l j:=⟨⟨dx2,s1 _ _ RI⟩,fun b o nb z=>s1 _ _ (av.kp b o nb z)⟩
   have ra3:=ra2.same s1
   refine⟨r,l,c,as,ts,j,(cF ts j).1,(cF ts j).2.1,(cF ts j).2.2,_,[.str ";"],rfl,ra3,yE hj,wF.of bf,rfl,_,rfl,?_⟩
   have sm:(decide ((cF ts j).1.kind="sign")&&ve (cF ts j).1.val [.str ";"])=(cF ts j).1.h8:=Ga _
   rw[sm]
   have un:DO ts (k+1) j=if(cF ts j).1.h8=ae then .ok ([],j)else if iD (cF ts j).1=ae then(DO ts k (j+1)).map (fun x=>((cF ts j).1.txt::x.1,x.2))else .error (cF ts j).2.1:=rfl
   rw[un]at qq
   cases h2:(cF ts j).1.h8 with
   |true=>
    rw[da h2]at qq
    refine cE ⟨_,rfl,?_⟩
    have q2:∀ln H',H ln=ab->FJ CR H H' r l j->H' ln=aa (.lst (fQ (ns++[])))->j<ts.length->Q (.ref ln) H':=qq
    rw[cp]at q2
    exact q2 ln _ aaC av2 (s1 _ _ uw) hj
   |false=>
    rw[cQ (by rw[h2];decide)]at qq
    refine dM ⟨fun σ' G=>Ue fun(ns:List (List Nat))(j:Nat)=>ns.length+k=4/\j<ts.length/\σ'=[aa (.ref r),aa (.ref ln)]/\FJ CR H G r l j/\G ln=aa (.lst (fQ ns))/\
     (match(DO ts k j).map (fun x=>(ns++x.1,x.2))with
      |.error p=>tI E H r CW (z8 p)
      |.ok (ns,j)=>∀ln H',H ln=ab->FJ CR H H' r l j->H' ln=aa (.lst (fQ ns))->j<ts.length->Q (.ref ln) H'),
     fun σ' G ⟨ns,j,z⟩=>⟨k,eQ _,ns,k,j,rfl,z⟩,?_⟩
    refine⟨_,rfl,.inl ⟨rfl,_,dw.of (s1 _ _ uw)⟩,_,rfl,r,dx2,_,rfl,s1 _ _ RI,rfl,r,rfl,l,as,ts,j,(cF ts j).1,(cF ts j).2.1,(cF ts j).2.2,ra3,yE hj,fun hn H3 a3=>?_,fun hn=>?_⟩
    ·obtain⟨nf,nb,ev⟩:=L9 hn
     rw[da hn]at qq
     have hl3:H3 ln=aa (.lst (fQ ns)):=a3.kp _ _ lnr (s1 _ _ uw)
     refine⟨ln,_,_,rfl,rfl,hl3,by rw[ac0,bZ];omega,ns++[(cF ts j).1.txt],j+1,by rw[bR];show ns.length+1+k=4;omega,en.next hj nf nb,rfl,⟨?_,?_⟩,?_,?_⟩
     ·obtain⟨dx3,z3⟩:=a3.rd
      exact⟨dx3,by rw[bB (dh lnr)];exact z3⟩
     ·intro b o nb' z
      rw[bB (fun q2=>by rw[q2,aaC]at z;cases z)]
      exact a3.kp b o nb' (av2.kp b o nb' z)
     ·rw[bf,ev]
      unfold fQ
      rw[cg]
      rfl
     have e5:((DO ts k (j+1)).map (fun x=>((cF ts j).1.txt::x.1,x.2))).map (fun x=>(ns++x.1,x.2))=(DO ts k (j+1)).map (fun x=>(ns++[(cF ts j).1.txt]++x.1,x.2)):=by
      cases DO ts k (j+1)with
      |error e=>rfl
      |ok x=>show lX (ns++((cF ts j).1.txt::x.1),x.2)=lX (ns++[(cF ts j).1.txt]++x.1,x.2);rw[de];rfl
     rw[e5]at qq
     exact qq
    rw[cQ (by rw[hn];decide)]at qq
    have q2:tI E H r CW (z8 (cF ts j).2.1):=qq
    exact q2.at av2.but
 unfold OU at q
 rw[cQ (by rw[hn];decide)]at q
 exact tI.at q (NT.of (bH.refl H))
theorem FJ.trans{CR:Addr}{H H1 H2:Hp}{r l:Addr}{i j:Nat}(a:FJ CR H H1 r l i)(b:FJ CR H1 H2 r l j):FJ CR H H2 r l j:=⟨b.rd,NT.trans a.kp b.kp⟩
theorem FJ.same{CR:Addr}{H H1 H2:Hp}{r l:Addr}{i:Nat}(a:FJ CR H H1 r l i)(s:bH H1 H2):FJ CR H H2 r l i:=by
 obtain⟨dx,z⟩:=a.rd;exact⟨⟨dx,s _ _ z⟩,NT.trans a.kp (NT.of s)⟩
structure TS where
 word:List Nat
 name:List Nat
 len:Nat
 way:List Nat
 ops:List (List Nat)
def UD(a b c d e:V):aq:=[("word",a),("name",b),("length",c),("way",d),("operand_names",e)]
structure FG(K:aY)(C:Addr):Prop where
 cl:Gq K C
 n1:eV K C "word"
 n2:eV K C "name"
 n3:eV K C "length"
 n4:eV K C "way"
 n5:eV K C "operand_names"
inductive Np(C:Addr)(H:Hp)(a:Addr)(x:TS):Prop
 |mk (dx:_) (lo:_) (_:H a=aa (.ins C dx (UD (.str (st x.word)) (.str (st x.name)) (.int (x.len:Int)) (.str (st x.way)) (.ref lo)))) (_:H lo=aa (.lst (fQ x.ops)))
inductive YU(C:Addr)(G H:Hp)(a:Addr)(x:TS):Prop
 |mk (dx:_) (lo:_) (_:H a=aa (.ins C dx (UD (.str (st x.word)) (.str (st x.name)) (.int (x.len:Int)) (.str (st x.way)) (.ref lo)))) (_:H lo=aa (.lst (fQ x.ops))) (_:G lo=ab)
inductive Bs(C:Addr)(vs:ao)(H:Hp)(Q:VK)(z':XK):Prop
 |mk (a dx:Addr) (v1 v2 v3 v4 v5:V) (_:vs=[.ref a,v1,v2,v3,v4,v5]) (_:H a=aa (.ins C dx [])) (_:Q .j7 (upd H a (.ins C dx (UD v1 v2 v3 v4 v5))))
def sU:List Nat:=[105,110]
def Bo:List Nat:=[109,97,112]
def oW:List Nat:=[116,117,114,110]
def Tk.num?:Tk->Nat
 |.num n=>n
 |_=>0
def stI(ts:List ia)(fw:List (List Nat))(i:Nat):Except Nat (TS×Nat):=
 if jI "word" (fQ fw) (cF ts i).1=ae then
  if iD (cF ts (i+1)).1=ae then
   if pK (cF ts (i+2)).1=ae then
    if(cF ts i).1.txt=sU then
     if(cF ts (i+3)).1.h8=ae then .ok (⟨(cF ts i).1.txt,(cF ts (i+1)).1.txt,(cF ts (i+2)).1.num?,[],[]⟩,i+4)else .error (cF ts (i+3)).2.1
    else if jI "sign" [.str "="] (cF ts (i+3)).1=ae then
     if jI "word" (fQ [Bo,oW]) (cF ts (i+4)).1=ae then
      match OU ts (i+5)with
      |.error p=>.error p
      |.ok (ns,j)=>if(cF ts j).1.h8=ae then .ok (⟨(cF ts i).1.txt,(cF ts (i+1)).1.txt,(cF ts (i+2)).1.num?,(cF ts (i+4)).1.txt,ns⟩,j+1)else .error (cF ts j).2.1
     else .error (cF ts (i+4)).2.1
    else .error (cF ts (i+3)).2.1
   else .error (cF ts (i+2)).2.1
  else .error (cF ts (i+1)).2.1
 else .error (cF ts i).2.1
theorem SJ{xs:ao}{τ:Tk}(h:jI "word" xs τ=ae):τ.my=af/\τ.isBad=af/\τ.val=.str (st τ.txt):=by
 unfold jI at h;rw[cM]at h;have h1:=of_decide_eq_true h.1;cases τ with
 |word w=>exact⟨rfl,rfl,rfl⟩
 |num n=>exact absurd (show("number":Str)="word" from h1) (by decide)
 |sign c=>exact absurd (show("sign":Str)="word" from h1) (by decide)
 |bad=>exact absurd h1 (by decide)
 |fin=>exact absurd h1 (by decide)
theorem LF{xs:ao}{τ:Tk}(h:jI "sign" xs τ=ae):τ.my=af/\τ.isBad=af:=by
 unfold jI at h;rw[cM]at h;have h1:=of_decide_eq_true h.1;cases τ with
 |word w=>exact absurd (show("word":Str)="sign" from h1) (by decide)
 |num n=>exact absurd (show("number":Str)="sign" from h1) (by decide)
 |sign c=>exact⟨rfl,rfl⟩
 |bad=>exact absurd h1 (by decide)
 |fin=>exact absurd h1 (by decide)
theorem adD{τ:Tk}(h:pK τ=ae):τ.my=af/\τ.isBad=af/\τ.val=.int (τ.num?:Int):=by
 cases τ with
 |num n=>exact⟨rfl,rfl,rfl⟩
 |word w=>cases h
 |sign c=>cases h
 |bad=>cases h
 |fin=>cases h
theorem Kn(ns:List (List Nat)):(fQ ns).all uX=ae:=by
 unfold fQ;rw[QA];exact cY.mpr fun _ _=>rfl
inductive WD(K:aY)(CT CR CW CS:Addr)(vs:ao)(H:Hp)(Q:VK)(E:XK):Prop
 |mk (r c l:Addr) (as:ag) (ts:List ia) (i:Nat) (fw:List (List Nat)) (_:vs=[.ref r,.ref c]) (_:wF K H c (fQ fw)) (_:c≠r) (_:wa CT CR H r l as ts i) (_:i<ts.length) (_:Ends ts) (_:match stI ts fw i with
 |.error p=>tI E H r CW (z8 p)
 |.ok (x,j)=>∀b H',FJ CR H H' r l j->YU CS H H' b x->j<ts.length->Q (.ref b) H')
theorem BN{f C:Addr}{fd:bC}(F:iG K "__init__" "Statement.__init__" pA f fd)(T:FG K C):dy P w K mg base eM 1 f fd Z7 (Bs C):=by
 refine F.ok Bx fun fz A outer s H vs Q E hr h=>?_;obtain⟨a,dx,v1,v2,v3,v4,v5,rfl,ha,q⟩:=h;refine⟨_,bh (lC (pv 0) (pv 1) rfl) (bh (lC (pv 0) (pv 2) rfl) (bh (lC (pv 0) (pv 3) rfl) (bh (lC (pv 0) (pv 4) rfl) (bj (lC (pv 0) (pv 5) rfl))))),?_⟩;refine⟨_,rfl,_,rfl,a,C,dx,_,rfl,ha,T.cl,T.n1,(by show 0<1000;decide),?_⟩;refine⟨_,rfl,_,rfl,a,C,dx,_,rfl,bf,T.cl,T.n2,(by show 1<1000;decide),?_⟩;refine⟨_,rfl,_,rfl,a,C,dx,_,rfl,bf,T.cl,T.n3,(by show 2<1000;decide),?_⟩;refine⟨_,rfl,_,rfl,a,C,dx,_,rfl,bf,T.cl,T.n4,(by show 3<1000;decide),?_⟩;refine⟨_,rfl,_,rfl,a,C,dx,_,rfl,bf,T.cl,T.n5,(by show 4<1000;decide),?_⟩;rw[jj,jj,jj,jj];exact q
theorem PZ{H H':Hp}{r a:Addr}(b:NT r H H')(n:a≠r)(h:H' a=ab):H a=ab:=by
 cases z:H a with
 |none=>rfl
 |some o=>rw[b a o n z]at h;cases h
theorem yF{CT CR CW:Addr}{g:Tk->Bool}{r l:Addr}{H:Hp}{Q:VK}{E:XK}{as:ag}{ts:List ia}{i:Nat}(ra:wa CT CR H r l as ts i)(hi:i<ts.length)(q1:g (cF ts i).1=ae->∀H',FJ CR H H' r l (i+1)->Q (cF ts i).1.val H')
 (q2:g (cF ts i).1=af->jv E H CW (z8 (cF ts i).2.1)):Take CT CR CW g r H Q E:=⟨l,as,ts,i,(cF ts i).1,(cF ts i).2.1,(cF ts i).2.2,ra,yE hi,q1,q2⟩
theorem age{C:Addr}{H:Hp}{v1 v2 v3 v4 v5:V}{Q:VK}(h:∀a dx H',bH H H'->H' a=aa (.ins C dx (UD v1 v2 v3 v4 v5))->Q (.ref a) H'):
 ∀x dx,H x=ab->H dx=ab->dx≠x->Bs C (.ref x::([v1,v2,v3,v4,v5]++[])) (upd (upd H dx (.own x)) x (.ins C dx [])) (fun v H2=>v=.j7/\Q (.ref x) H2) E0:=fun x dx hx hd ne=>
 ⟨x,dx,v1,v2,v3,v4,v5,rfl,bf,rfl,h x dx _ (fun b o z=>by rw[jj,bB (bP z hx),bB (bP z hd)];exact z) (by rw[bf])⟩
theorem X6(t:List Nat):(!decide (V.str (st t)=V.str "in"))= !decide (t=sU):=by
 congr 1;rw[decide_eq_decide];constructor
 ·intro h;have h1:st t=st sU:=V.str.inj h;have h2:=congrArg (fun x:Str=>x.cps.toList) h1;simpa[st]using h2
 intro h;rw[h];rfl
theorem BI{f CT CR CW CS:Addr}{fd:bC}(F:iG K "read_statement" "read_statement" ph f fd)(R:RdM P w K mg base CT CR CW)(hW:KT K mg "WAYS" (fQ [Bo,oW]))(Co:Fn P w K mg base (k7 P w) 6 "read_operand_names" ["reader"] (abH CT CR CW))
 (M:Mc P w K mg base 1 "Statement" CS Z7 (Bs CS)):dy P w K mg base (k7 P w) 7 f fd ["reader","first_words"] (WD K CT CR CW CS):=by
 obtain⟨aW,hW1,hW2⟩:=hW
 refine DV F fS fun fz A outer s H vs Q E hr h=>?_
 obtain⟨r,c,l,as,ts,i,fw,rfl,hc,ncr,ra,hi,en,q⟩:=h
 have hr5:gG 5 _:=hr.mono (by decide)
 have RI:gG 2 _:=hr.mono (by decide)
 refine⟨_,bh (jB 2 fS.nd (kT k6 R.rc.cl R.abA hr5 (pv 0) (aQ (pv 1) bq)))
  (bh (jB 3 fS.nd (jk k6 R.rc.cl R.Wr hr5 (pv 0)))
  (bh (jB 4 fS.nd (jk k6 R.rc.cl R.aih hr5 (pv 0)))
  (bh (jB 5 fS.nd eO)
  (bh (jB 6 fS.nd (eB bq))
  (bh (d9 (cS wz (pv 2) eO (dg _))
   (bh (dN (kT k6 R.rc.cl R.abC hr5 (pv 0) (aQ eO bq)))
   (bh (jB 5 fS.nd (kT k6 R.rc.cl R.abA hr5 (pv 0) (aQ (Hw (by rfl) hW1) bq)))
   (bj (jB 6 fS.nd (rN Co k6 hr (by rfl) (aQ (pv 0) bq)))))) cT)
  (bh (dN (kT k6 R.rc.cl R.abC hr5 (pv 0) (aQ eO bq)))
  (bj (cf (EN M RI (by rfl) (aQ (pv 2) (aQ (pv 3) (aQ (pv 4) (aQ (pv 5) (aQ (pv 6) bq)))))))))))))),?_⟩
 unfold stI at q
 obtain⟨dx,x9⟩:=id ra.rd
 refine⟨_,rfl,r,dx,_,rfl,x9,rfl,_,rfl,r,c,fQ fw,rfl,hc,Kn fw,yF ra hi (fun g0 H1 a1=>?_) (fun g0=>?_)⟩
 case refine_2=>
  rw[cQ (by rw[g0];decide)]at q
  exact q.at (NT.of (bH.refl H))
 rw[da g0]at q
 obtain⟨f0,b0,e0⟩:=SJ g0
 have i1:=en.next hi f0 b0
 have r1:=ra.YS a1
 obtain⟨dx1,z1⟩:=id r1.rd
 refine⟨_,rfl,r,dx1,_,rfl,z1,rfl,r,rfl,yF r1 i1 (fun g1 H2 a2=>?_) (fun g1=>?_)⟩
 case refine_2=>
  rw[cQ (by rw[g1];decide)]at q
  exact q.at a1.but
 rw[da g1]at q
 obtain⟨f1,b1,e1⟩:=L9 g1
 have i2:=en.next i1 f1 b1
 have r2:=r1.YS a2
 have a12:=a1.trans a2
 obtain⟨dx2,z2⟩:=id r2.rd
 refine⟨_,rfl,r,dx2,_,rfl,z2,rfl,r,rfl,yF r2 i2 (fun g2 H3 a3=>?_) (fun g2=>?_)⟩
 case refine_2=>
  rw[cQ (by rw[g2];decide)]at q
  exact q.at a12.but
 rw[da g2]at q
 obtain⟨f2,b2,e2⟩:=adD g2
 have i3:=en.next i2 f2 b2
 have a13:=a12.trans a3
 refine⟨by show 0<=bz;decide,fun lo D6=>?_⟩
 have s4:bH H3 (upd H3 lo (.lst [])):=bH.new D6
 have a14:=a13.same s4
 have r4:=ra.YS a14
 obtain⟨dx4,z4⟩:=id r4.rd
 have nlo:lo≠r:=fun z=>by
  obtain⟨dx3,z3⟩:=a3.rd;rw[z,z3]at D6;cases D6
 rw[e0,e1,e2]
 refine⟨_,rfl,rfl,_,rfl,?_⟩
 rw[X6]
 have last:∀(j:Nat)(wy:List Nat)(ns:List (List Nat))(lo:Addr)(H5:Hp),j<ts.length->FJ CR H H5 r l j->H5 lo=aa (.lst (fQ ns))->lo≠r->H lo=ab->
  (if(cF ts j).1.h8=ae then(∀b H',FJ CR H H' r l (j+1)->YU CS H H' b ⟨(cF ts i).1.txt,(cF ts (i+1)).1.txt,(cF ts (i+2)).1.num?,wy,ns⟩->j+1<ts.length->Q (.ref b) H')else tI E H r CW (z8 (cF ts j).2.1))->
  Ap CT CR CW [.ref r,.str ";"] H5 (fun _ H6=>Oh CS (Bs CS) [] E0 (EF (Am 2) (EF (Am 3) (EF (Am 4) (EF (Am 5) (EF (Am 6) Dr))))) [aa (.ref r),aa (.ref c),aa (.str (st (cF ts i).1.txt)),aa (.str (st (cF ts (i+1)).1.txt)),aa (.int ((cF ts (i+2)).1.num?:Int)),aa (.str (st wy)),aa (.ref lo)] H6 Q) E:=by
  intro j wy ns lo H5 hj a5 ajQ ai9 fr5 q5
  refine⟨r,";",rfl,yF (ra.YS a5) hj (fun g H6 a6=>?_) (fun g=>?_)⟩
  ·rw[Ga]at g
   rw[da g]at q5
   have g':(cF ts j).1.my=af/\(cF ts j).1.isBad=af:=LF (xs:=[.str ";"]) (by rw[Ga];exact g)
   refine⟨_,rfl,_,rfl,_,rfl,_,rfl,_,rfl,age fun b dx H' s6 z=>?_⟩
   exact q5 b H' ((a5.trans a6).same s6) ⟨dx,lo,z,s6 _ _ (a6.kp lo _ ai9 ajQ),fr5⟩ (en.next hj g'.1 g'.2)
  rw[Ga]at g
  rw[cQ (by rw[g];decide)]at q5
  exact q5.at a5.but
 by_cases hw:(cF ts i).1.txt=sU
 ·rw[da hw]at q
  rw[qk hw]
  refine cE ⟨_,rfl,r,dx4,_,rfl,z4,rfl,last (i+3) [] [] lo _ i3 a14 bf nlo (PZ a13.but nlo D6) ?_⟩
  by_cases h:(cF ts (i+3)).1.h8=ae
  ·rw[da h]at q⊢
   exact q
  rw[cQ h]at q⊢
  exact q
 rw[cQ hw]at q
 rw[gX hw]
 refine dM ⟨_,rfl,r,dx4,_,rfl,z4,rfl,r,"=",rfl,yF r4 i3 (fun g3 H5 a5=>?_) (fun g3=>?_)⟩
 case refine_2=>
  rw[cQ (by rw[g3];decide)]at q
  exact q.at a14.but
 rw[da g3]at q
 have i4:=en.next i3 (LF g3).1 (LF g3).2
 have a15:=a14.trans a5
 have r5:=ra.YS a15
 obtain⟨dx5,z5⟩:=id r5.rd
 refine⟨_,rfl,r,dx5,_,rfl,z5,rfl,r,aW,fQ [Bo,oW],rfl,hW2 _,Kn _,yF r5 i4 (fun g4 H6 a6=>?_) (fun g4=>?_)⟩
 case refine_2=>
  rw[cQ (by rw[g4];decide)]at q
  exact q.at a15.but
 rw[da g4]at q
 obtain⟨f4,b4,e4⟩:=SJ g4
 have i5:=en.next i4 f4 b4
 have a16:=a15.trans a6
 have r6:=ra.YS a16
 rw[e4]
 refine⟨_,rfl,r,l,as,ts,i+5,rfl,r6,i5,en,?_⟩
 cases ho:OU ts (i+5)with
 |error p=>
  rw[ho]at q
  exact tI.on q a16.but
 |ok x=>
  obtain⟨ns,j⟩:=x
  rw[ho]at q
  intro ln H7 hln a7 hl7 hj
  have nln:ln≠r:=fun z=>by
   obtain⟨dx6,z6⟩:=a16.rd;rw[z,z6]at hln;cases hln
  have a17:=a16.trans a7
  obtain⟨dx7,z7⟩:=id a17.rd
  refine⟨_,rfl,r,dx7,_,rfl,z7,rfl,last j (cF ts (i+4)).1.txt ns ln H7 hj a17 hl7 nln (PZ a16.but nln hln) ?_⟩
  have q':match(if(cF ts j).1.h8=ae then lX ((⟨(cF ts i).1.txt,(cF ts (i+1)).1.txt,(cF ts (i+2)).1.num?,(cF ts (i+4)).1.txt,ns⟩:TS),j+1)else Dk (cF ts j).2.1:Except Nat (TS×Nat))with
   |.error p=>tI E H r CW (z8 p)
   |.ok (x,j)=>∀b H',FJ CR H H' r l j->YU CS H H' b x->j<ts.length->Q (.ref b) H':=q
  by_cases h:(cF ts j).1.h8=ae
  ·rw[da h]at q'⊢
   exact q'
  rw[cQ h]at q'⊢
  exact q'
def wD(C:Addr)(H:Hp)(bs:ag)(xs:List TS):Prop:=fM (Np C H) bs xs
theorem Np.same{C:Addr}{H H':Hp}{a:Addr}{x:TS}(h:Np C H a x)(s:bH H H'):Np C H' a x:=let⟨dx,lo,e1,e2⟩:=h;⟨dx,lo,s _ _ e1,s _ _ e2⟩
theorem wD.same{C:Addr}{H H':Hp}{bs:ag}{xs:List TS}(h:wD C H bs xs)(s:bH H H'):wD C H' bs xs:=Paired.sI h fun _ _ z=>Np.same z s
def sE:List Nat:=[108,101,116]
def o9:List Nat:=[111,117,116]
def qU(xs:List TS):List (List Nat):=if xs.length=24 then[]else match xs.getLast? with
 |some x=>if x.word=sU then[sU,sE,o9]else[sE,o9]
 |none=>[sU,sE,o9]
inductive S8(CS:Addr)(vs:ao)(H:Hp)(Q:VK)(z':XK):Prop
 |mk (ls:Addr) (bs:ag) (xs:List TS) (_:vs=[.ref ls]) (_:H ls=aa (.lst (bs.map V.ref))) (_:wD CS H bs xs) (_:∀c,H c=ab->Q (.ref c) (upd H c (.tup (fQ (qU xs)))))
theorem EO{α β:Type}{F:α->β->Prop}:∀{l:List α}{m:List β},fM F l m->l=[]/\m=[]\/∃l' x m' y,l=l'++[x]/\m=m'++[y]/\F x y
 |_,_,.nil=>.inl ⟨rfl,rfl⟩
 |x::l,y::m,.cons r t=>by
  rcases EO t with⟨e1,e2⟩|⟨l',x',m',y',e1,e2,f⟩
  ·subst e1 e2;exact .inr ⟨[],x,[],y,rfl,rfl,r⟩
  subst e1 e2;exact .inr ⟨x::l',x',y::m',y',rfl,rfl,f⟩
theorem nY{a b c d e:V}:(UD a b c d e).lookup ("word":Str)=aa a:=rfl
theorem uM{f CS:Addr}{fd:bC}(F:iG K "possible_first_words" "possible_first_words" kr f fd)(S:FG K CS)(hN:∃t,mg "STATEMENT_LIMIT"=aa (.int 24 t))(hl:mg "len"=ab):
 dy P w K mg base eM 1 f fd ["statements"] (S8 CS):=by
 refine F.ok uE fun fz A outer s H vs Q E hr h=>?_
 obtain⟨ls,bs,xs,rfl,l5,sa,k⟩:=h
 have le:bs.length=xs.length:=dO sa
 have lm:((bs.map V.ref).length:Int)=(xs.length:Int):=by rw[aV,le]
 refine⟨_,bh (d9 (cS iY (dD cJ (by rfl) hl cx (aQ (pv 0) bq)) (iE (by rfl) hN) (dg _)) (bj (cf (Hv bq))) cT)
  (bh (d9 (xF (cS zX (dD cJ (by rfl) hl cx (aQ (pv 0) bq)) cG (dg _)) (sZ (cS wz (cw (dW cW (pv 0) (xJ rl cG) (fun _ _=>rfl)) rfl) eO (dg _)))).pt
   (bj (cf (Hv (aQ eO (aQ eO bq))))) cT)
  (bj (cf (Hv (aQ eO (aQ eO (aQ eO bq))))))),?_⟩
 refine⟨_,rfl,ls,_,rfl,.inl (dw.of l5),rfl,_,rfl,?_⟩
 rw[lm]
 by_cases h24:xs.length=24
 ·rw[qk (show V.int (xs.length:Int)=V.int 24 by rw[h24];rfl)]
  refine dM ⟨by show 0<=bz;decide,fun c hc=>?_⟩
  have:=k c hc
  unfold qU at this
  rw[da h24]at this
  exact this
 rw[gX (show¬V.int (xs.length:Int)=V.int 24 from fun z=>h24 (by have:=V.int.inj z;omega))]
 refine cE ⟨_,rfl,ls,_,rfl,.inl (dw.of l5),_,_,rfl,rfl,_,rfl,?_⟩
 have kk:∀c,H c=ab->Q (.ref c) (upd H c (.tup (fQ (match xs.getLast? with|some x=>if x.word=sU then[sU,sE,o9]else[sE,o9]|none=>[sU,sE,o9])))):=fun c hc=>by
  have:=k c hc;unfold qU at this;rw[cQ h24]at this;exact this
 rw[lm]
 rcases EO sa with⟨e1,e2⟩|⟨bs',b,xs',x,e1,e2,sx⟩
 ·subst e2
  rw[gX (show¬(0:Int)<(([]:List TS).length:Int)by decide)]
  exact cE (cE ⟨by show 3<=bz;decide,fun c hc=>kk c hc⟩)
 subst e1 e2
 have X9:(0:Int)<((xs'++[x]).length:Int):=by
  rw[bR];show(0:Int)<((xs'.length+1:Nat):Int);omega
 rw[qk X9]
 obtain⟨dx,lo,hb,D6⟩:=sx
 rw[Uo]at kk
 refine dM ⟨_,rfl,1,rfl,ls,_,_,_,rfl,rfl,dw.of l5,(by rw[cg];exact YJ _ _),b,CS,dx,_,_,rfl,hb,S.cl,S.n1,nY,rfl,_,rfl,?_⟩
 rw[X6]
 by_cases hw:x.word=sU
 ·rw[qk hw]
  refine cE ⟨by show 3<=bz;decide,fun c hc=>?_⟩
  have:=kk c hc
  rw[show([x].getLast?.or xs'.getLast?)=aa x from rfl]at this
  simp only[da hw]at this
  exact this
 rw[gX hw]
 refine dM ⟨by show 2<=bz;decide,fun c hc=>?_⟩
 have:=kk c hc
 rw[show([x].getLast?.or xs'.getLast?)=aa x from rfl]at this
 simp only[cQ hw]at this
 exact this
def Sj:List ia->Prop
 |[]=>False
 |x::r=>(r=[]/\(x.1.my=ae\/x.1.isBad=ae))\/(x.1.my=af/\x.1.isBad=af/\Sj r)
theorem Sj.pos{ts:List ia}(h:Sj ts):0<ts.length:=by
 cases ts with
 |nil=>exact h.elim
 |cons x r=>exact Nat.succ_pos _
theorem Sj.ends:∀{ts:List ia},Sj ts->Ends ts
 |[],h=>h.elim
 |x::r,h=>by
  intro i hi;rcases h with⟨rfl,h⟩|⟨h1,h2,h3⟩
  ·have:i=0:=by
    have:i<1:=hi;omega
   subst this;exact⟨fun _=>h,fun _=>rfl⟩
  cases i with
  |zero=>
   have:=h3.pos;refine⟨fun z=>?_,fun z=>?_⟩
   ·have:0+1=r.length+1:=z;omega
   have z2:x.1.my=ae\/x.1.isBad=ae:=z;rw[h1,h2]at z2;rcases z2 with q|q<;>cases q
  |succ i=>
   have hi2:i<r.length:=by
    have:i+1<r.length+1:=hi;omega
   have q:=h3.ends i hi2
   have e:cF (x::r) (i+1)=cF r i:=by
    unfold cF;rw[oJ]
   rw[e,<-q];show i+1+1=r.length+1↔i+1=r.length;omega
theorem Kj{t:List Nat}{p c:Nat}:(fD t p c).1.my=af:=by
 unfold fD;split
 ·rfl
 split
 ·rfl
 split
 ·split<;>rfl
 rfl
theorem QM{t:List Nat}:∀(k p:Nat),Sj (me t k p):=by
 intro k;induction k with
 |zero=>exact fun p=>.inl ⟨rfl,.inl rfl⟩
 |succ k ih=>
  intro p;cases hc:t[p]? with
  |none=>
   simp only[me,hc];exact .inl ⟨rfl,.inl rfl⟩
  |some c=>
   simp only[me,hc];cases nb:(fD t p c).1.isBad with
   |true=>
    rw[da rfl];exact .inl ⟨rfl,.inr nb⟩
   |false=>
    rw[cQ (by decide)];exact .inr ⟨Kj,nb,ih _⟩
theorem yD{t:List Nat}{p:Nat}:Sj (toks t p):=QM _ _
theorem Wq{t:List Nat}{p c:Nat}{w:List Nat}(h:(fD t p c).1=.word w):w.length<=t.length:=by
 unfold fD at h;split at h
 ·cases h
 split at h
 ·cases h;exact Ua
 split at h
 ·split at h<;>cases h
 cases h
theorem Wm{t:List Nat}:∀(k p:Nat)(x:ia)(w:List Nat),x∈me t k p->x.1=.word w->w.length<=t.length:=by
 intro k;induction k with
 |zero=>
  intro p x w hx h;have e:x=(.fin,t.length,t.length):=bU.mp hx;rw[e]at h;cases h
 |succ k ih=>
  intro p x w hx h;cases hc:t[p]? with
  |none=>
   simp only[me,hc]at hx;have e:x=(.fin,t.length,t.length):=bU.mp hx;rw[e]at h;cases h
  |some c=>
   simp only[me,hc]at hx;rcases bQ.mp hx with e|e
   ·rw[e]at h;exact Wq h
   split at e
   ·cases e
   exact ih _ x w e h
theorem ZK{t:List Nat}{p:Nat}(hz:t.length<=100000):∀(i:Nat)(w:List Nat)(q e:Nat),(toks t p)[i]?=aa (.word w,q,e)->w.length<=100000:=fun i w q e h=>
 cR (Wm _ _ _ w (br h) rfl) hz
def Em(ts:List ia):Nat->Nat->List TS->Except Nat (List TS)
 |0,_,acc=>.ok acc
 |k+1,i,acc=>if(cF ts i).1.my=ae then .ok acc else match stI ts (qU acc) i with
  |.error p=>.error p
  |.ok (x,j)=>Em ts k j (acc++[x])
def allI(ts:List ia):Except Nat (List TS):=Em ts ts.length 0 []
theorem adp{ts:List ia}:∀(k i:Nat)(ns:List (List Nat))(j:Nat),DO ts k i=.ok (ns,j)->i<=j:=by
 intro k;induction k with
 |zero=>
  intro i ns j h;cases h;exact bu _
 |succ k ih=>
  intro i ns j h;unfold DO at h;split at h
  ·cases h;exact bu _
  split at h
  ·cases ho:DO ts k (i+1)with
   |error p=>rw[ho]at h;cases h
   |ok x=>
    obtain⟨ns',j'⟩:=x;rw[ho]at h;cases h;have:=ih (i+1) ns' j' ho;omega
  cases h
theorem Wy{ts:List ia}{fw:List (List Nat)}{i j:Nat}{x:TS}(h:stI ts fw i=.ok (x,j)):i<j:=by
 unfold stI at h;split at h
 ·split at h
  ·split at h
   ·split at h
    ·split at h
     ·cases h;omega
     cases h
    split at h
    ·split at h
     ·unfold OU at h;split at h
      ·cases h
      rename_i ns j' ho;split at ho
      ·cases h1:DO ts 3 (i+5+1)with
       |error p=>rw[h1]at ho;cases ho
       |ok y=>
        obtain⟨ns',j''⟩:=y;rw[h1]at ho;cases ho;have:=adp _ _ _ _ h1;split at h
        ·cases h;omega
        cases h
      cases ho
     cases h
    cases h
   cases h
  cases h
 cases h
inductive S3(K:aY)(CW CS:Addr)(vs:ao)(H:Hp)(Q:VK)(E:XK):Prop
 |mk (a:Addr) (t:List Nat) (_:vs=[.ref a]) (_:dw K H a (tx t)) (_:t.length<=100000) (_:match allI (toks t (skip t 0))with
 |.error p=>jv E H CW (z8 p)
 |.ok xs=>∀ls bs H',bH H H'->H' ls=aa (.lst (bs.map V.ref))->wD CS H' bs xs->Q (.ref ls) H')
inductive Qm(C ls:Addr)(H:Hp)(a:Addr)(x:TS):Prop
 |mk (dx:_) (lo:_) (_:H a=aa (.ins C dx (UD (.str (st x.word)) (.str (st x.name)) (.int (x.len:Int)) (.str (st x.way)) (.ref lo)))) (_:H lo=aa (.lst (fQ x.ops))) (_:lo≠ls)
theorem Qm.st{C ls:Addr}{H:Hp}{a:Addr}{x:TS}(h:Qm C ls H a x):Np C H a x:=let⟨dx,lo,e1,e2,_⟩:=h;⟨dx,lo,e1,e2⟩
theorem Qm.but{C CR ls:Addr}{H H':Hp}{a r l:Addr}{i:Nat}{x:TS}(h:Qm C ls H a x)(rd:∃dx,H r=aa (.ins CR dx (VV l i)))(b:NT r H H'):Qm C ls H' a x:=by
 obtain⟨dx,lo,e1,e2,n⟩:=h;obtain⟨dr,e3⟩:=rd;refine⟨dx,lo,b a _ (fun z=>?_) e1,b lo _ (lE e2 e3 (by intro z;cases z)) e2,n⟩;rw[z,e3]at e1;have:=(HO.ins.inj (bT e1)).2.2;cases this
theorem Qm.put{C ls:Addr}{H:Hp}{xs ys:ao}{a:Addr}{x:TS}(h:Qm C ls H a x)(hl:H ls=aa (.lst xs)):Qm C ls (upd H ls (.lst ys)) a x:=by
 obtain⟨dx,lo,e1,e2,n⟩:=h;exact⟨dx,lo,by rw[bB (lE e1 hl (by intro z;cases z))];exact e1,by rw[bB n];exact e2,n⟩
theorem Az{f CT CR CW CS:Addr}{fd:bC}(F:iG K "read_statements" "read_statements" n0 f fd)(R:RdC K CR)(MR:Mc P w K mg base 1 "Reader" CR ["self","tokens"] (Ov CR))(Ct:Fn P w K mg base eM 4 "read_tokens" ["text"] (WC K CT))
 (Me':Me P w K mg base eM 1 CR "at_end" dS (S9 CT CR))(Cs:Fn P w K mg base (k7 P w) 7 "read_statement" ["reader","first_words"] (WD K CT CR CW CS))(Cf:Fn P w K mg base eM 1 "possible_first_words" ["statements"] (S8 CS)):
 dy P w K mg base (k7 P w) 8 f fd ["text"] (S3 K CW CS):=by
 refine DV F mP fun fz A outer s H vs Q E hr h=>?_
 obtain⟨a,t,rfl,hT,hz,q⟩:=h
 have NO:gG 4 _:=hr.mono (by decide)
 have RI:gG 2 _:=hr.mono (by decide)
 have Ij:gG 1 _:=hr.mono (by decide)
 refine⟨_,bh (jB 1 mP.nd (EN MR RI (by rfl) (aQ (dJ Ct NO (by rfl) (aQ (pv 0) bq)) bq)))
  (bh (jB 2 mP.nd (eB bq))
  (bh (oj (Hy k6) (ue (jy (adj R.cl Me' Ij (pv 1))))
   (bj (dN (mq cj c9 c8 iO (pv 2) (aQ (rN Cs k6 hr (by rfl) (aQ (pv 1) (aQ (dJ Cf Ij (by rfl) (aQ (pv 2) bq)) bq))) bq)))))
  (bj (cf (pv 2))))),?_⟩
 refine⟨_,rfl,a,t,rfl,hT,hz,fun l as H1 s1 hl tk r dr hrn hdn ndr=>?_⟩
 generalize hts:toks t (skip t 0)=ts at q tk
 have en:Ends ts:=by rw[<-hts];exact yD.ends
 have ps:0<ts.length:=by rw[<-hts];exact yD.pos
 have sm:∀(i:Nat)(w:List Nat)(q e:Nat),ts[i]?=aa (.word w,q,e)->w.length<=100000:=by rw[<-hts];exact ZK hz
 refine⟨r,dr,l,rfl,bf,rfl,?_⟩
 generalize Yg:upd (upd (upd H1 dr (.own r)) r (.ins CR dr [])) r (.ins CR dr (VV l 0))=H2
 have s2:bH H1 H2:=fun y o z=>by
  rw[<-Yg,jj,bB (bP z hrn),bB (bP z hdn)];exact z
 have agC:H2 r=aa (.ins CR dr (VV l 0)):=by rw[<-Yg,bf]
 have ra0:wa CT CR H2 r l as ts 0:=⟨⟨dr,agC⟩,s2 _ _ hl,tk.same s2,sm⟩
 have rH:H r=ab:=s1.free hrn
 refine⟨by show 0<=bz;decide,fun ls l5=>?_⟩
 have s3:bH H2 (upd H2 ls (.lst [])):=bH.new l5
 have lsH:H ls=ab:=(s1.trans s2).free l5
 have lsr:ls≠r:=fun z=>by rw[z,agC]at l5;cases l5
 refine⟨fun m σ H'=>Ex3 fun(i:Nat)(bs:ag)(xs:List TS)=>ts.length-i<=m/\i<ts.length/\σ=[aa (.ref a),aa (.ref r),aa (.ref ls)]/\bH H H'/\wa CT CR H' r l as ts i/\H' ls=aa (.lst (bs.map V.ref))/\fM (Qm CS ls H') bs xs/\xs.length+m<=ts.length/\Em ts m i xs=allI ts,
  ⟨ts.length,0,[],[],Nat.sub_le _ _,ps,rfl,(s1.trans s2).trans s3,ra0.same s3,bf,.nil,by show 0+ts.length<=ts.length;omega,rfl⟩,?_⟩
 rintro m σ H' ⟨i,bs,xs,hm,hi,rfl,s4,ra,hl4,sn,lx,al⟩
 obtain⟨dx4,z4⟩:=id ra.rd
 refine⟨_,rfl,r,dx4,_,rfl,z4,rfl,r,l,as,ts,i,(cF ts i).1,(cF ts i).2.1,(cF ts i).2.2,rfl,ra,yE hi,_,rfl,?_⟩
 obtain⟨k,rfl⟩:∃k,m=k+1:=⟨m-1,by omega⟩
 have un:Em ts (k+1) i xs=if(cF ts i).1.my=ae then .ok xs else match stI ts (qU xs) i with|.error p=>.error p|.ok (x,j)=>Em ts k j (xs++[x]):=rfl
 rw[un]at al
 cases hf:(cF ts i).1.my with
 |true=>
  rw[da hf]at al
  rw[<-al]at q
  exact cE ⟨_,rfl,q ls bs H' s4 hl4 (Paired.sI sn fun _ _ z=>Qm.st z)⟩
 |false=>
  rw[cQ (by rw[hf];decide)]at al
  refine dM ⟨fun σ' G=>Ex3 fun(i:Nat)(bs:ag)(xs:List TS)=>ts.length-i<=k/\i<ts.length/\σ'=[aa (.ref a),aa (.ref r),aa (.ref ls)]/\bH H G/\wa CT CR G r l as ts i/\G ls=aa (.lst (bs.map V.ref))/\fM (Qm CS ls G) bs xs/\xs.length+k<=ts.length/\Em ts k i xs=allI ts,
   fun σ' G z=>⟨k,eQ _,z⟩,?_⟩
  refine⟨_,rfl,.inl ⟨rfl,_,dw.of hl4⟩,_,rfl,_,rfl,ls,bs,xs,rfl,hl4,Paired.sI sn (fun _ _ z=>Qm.st z),fun c hc=>?_⟩
  have s5:bH H' (upd H' c (.tup (fQ (qU xs)))):=bH.new hc
  have ncr:c≠r:=fun z=>by rw[z,z4]at hc;cases hc
  refine⟨r,c,l,as,ts,i,qU xs,rfl,wF.of bf,ncr,ra.same s5,hi,en,?_⟩
  cases hs:stI ts (qU xs) i with
  |error p=>
   rw[hs]at al
   rw[<-al]at q
   exact fun a' dx' H'' b x y=>q a' dx' H'' (fun u o z=>b u o (fun e=>by rw[e,rH]at z;cases z) (s5 _ _ (s4 _ _ z))) x y
  |ok y=>
   obtain⟨x,j⟩:=y
   rw[hs]at al
   intro b H6 av sf hj
   obtain⟨dx6,lo6,e6,e7,e8⟩:=sf
   have hl6:H6 ls=aa (.lst (bs.map V.ref)):=av.kp _ _ lsr (s5 _ _ hl4)
   have rd5:∃dx,(upd H' c (.tup (fQ (qU xs)))) r=aa (.ins CR dx (VV l i)):=⟨dx4,s5 _ _ z4⟩
   have sn6:fM (Qm CS ls H6) bs xs:=Paired.sI sn fun _ _ z=>by
    obtain⟨d1,l1,y1,y2,y3⟩:=z;exact Qm.but ⟨d1,l1,s5 _ _ y1,s5 _ _ y2,y3⟩ rd5 av.but
   have agi:lo6≠ls:=fun z=>by
    rw[z,s5 _ _ hl4]at e8;cases e8
   have gt:=Wy hs
   have lb:bs.length=xs.length:=dO sn
   refine⟨ls,_,_,rfl,rfl,hl6,?_,j,bs++[b],xs++[x],by omega,hj,rfl,?_,?_,?_,?_,?_,al⟩
   ·rw[aV,lb,bZ]
    have:ts.length<=t.length+1:=by
     rw[<-hts];have:=Oe (t:=t) (p:=skip t 0);omega
    omega
   ·refine bH.put lsH fun u o z=>av.kp u o (fun e=>by rw[e,rH]at z;cases z) (s5 _ _ (s4 _ _ z))
   ·have ra6:=(ra.same s5).YS av
    obtain⟨d6,y6⟩:=id ra6.rd
    refine⟨⟨d6,by rw[bB (dh lsr)];exact y6⟩,?_,ra6.tk.put hl6,sm⟩
    have nl:l≠ls:=fun z=>by
     have y1:=s2 _ _ hl;rw[z,l5]at y1;cases y1
    rw[bB nl]
    exact ra6.ls
   ·rw[bf,cg]
    rfl
   ·refine m6 (Paired.sI sn6 fun _ _ z=>Qm.put z hl6) (.cons (Qm.put ⟨dx6,lo6,e6,e7,agi⟩ hl6) .nil)
   rw[bR]
   show xs.length+1+k<=ts.length
   omega
def Tk.tok:Tk->Vaarrl.Token
 |.word w=>.word w
 |.num n=>.num n
 |.sign c=>.sign c
 |.bad=>.none
 |.fin=>.none
def ia.told(x:ia):Nat×Vaarrl.Token:=(x.2.1,x.1.tok)
theorem Ed{f:Nat->Bool}{t:List Nat}{p:Nat}:(t.drop p).dropWhile f=t.drop (scan f t p):=by
 unfold scan;rw[<-lW];generalize t.drop p=l;induction l with
 |nil=>rfl
 |cons x l ih=>
  rw[List.dropWhile_cons,si];split
  ·rw[ih];rfl
  rfl
theorem near{a b c k:Nat}(h:a-b<k+1)(g:b+1<=c)(l:b<a):a-c<k:=by omega
theorem Of{t:List Nat}:∀(k p:Nat),t.length-p<k->p<=t.length->Y9 t.length k (t.drop p)=(toks t (skip t p)).map ia.told:=by
 intro k;induction k with
 |zero=>intro p h;omega
 |succ k ih=>
  intro p h hp;cases hc:t[p]? with
  |none=>
   have hge:=ir.mp hc;rw[kP hge,uC hge,GH hge];rfl
  |some c=>
   obtain⟨hl,e⟩:=aZ.mp hc;rw[d5 hl,e];have pe:t.length-((t.drop (p+1)).length+1)=p:=by rw[qr];clear h hp ih e hc;omega
   simp only[Y9,pe];rw[F8 hc];by_cases h1:oN c=ae
   ·rw[da h1,da h1];exact ih (p+1) (near h (bu _) hl) hl
   rw[cQ h1,cQ h1];by_cases h2:c=35
   ·rw[da h2,da h2];have e1:scan (fun c=>c != 10) t p=scan (fun c=>c != 10) t (p+1):=lO hc (by rw[h2];rfl);rw[Ed,e1];have g1:=pL (f:=fun c=>c != 10) (t:=t) (p:=p+1);have g2:=qQ (f:=fun c=>c != 10) (t:=t) (p:=p+1) hl;exact ih _ (near h g1 hl) g2
   rw[cQ h2,cQ h2,Lq hc]
   have ahc:∀f:Nat->Bool,f c=ae->cut t p (scan f t p)=c::(t.drop (p+1)).takeWhile f:=fun f hf=>by
    rw[PQ,d5 hl,e,si,da hf]
   unfold fD;by_cases h3:jR c=ae
   ·have n3:¬(c=59\/c=61):=fun z=>by
     rcases z with z|z
     ·exact absurd h3 (by rw[z];decide)
     exact absurd h3 (by rw[z];decide)
    have zY:cU c=ae:=by unfold cU;rw[h3];rfl
    have e1:scan cU t p=scan cU t (p+1):=lO hc zY;have g1:=pL (f:=cU) (t:=t) (p:=p+1);have g2:=qQ (f:=cU) (t:=t) (p:=p+1) hl;rw[da h3,cQ n3,da h3,ahc _ zY,Ed,ih _ (near h g1 hl) g2,e1];rfl
   rw[cQ h3,cQ h3];by_cases h4:cb c=ae
   ·have n3:¬(c=59\/c=61):=fun z=>by
     rcases z with z|z
     ·exact absurd h4 (by rw[z];decide)
     exact absurd h4 (by rw[z];decide)
    have e1:scan cb t p=scan cb t (p+1):=lO hc h4;have g1:=pL (f:=cb) (t:=t) (p:=p+1);have g2:=qQ (f:=cb) (t:=t) (p:=p+1) hl;rw[da h4,cQ n3,da h4]
    have em:(((t.drop (p+1)).takeWhile cb).isEmpty=af)↔scan cb t p≠p+1:=by
     rw[e1];unfold scan;cases(t.drop (p+1)).takeWhile cb with
     |nil=>simp
     |cons x l=>simp
    by_cases h5:c=48/\((t.drop (p+1)).takeWhile cb).isEmpty=af
    ·rw[da h5,cQ (fun z=>by rcases z with z|z;exact z h5.1;exact em.mp h5.2 z)];rfl
    have h6:c≠48\/scan cb t p=p+1:=by
     by_cases z:c=48
     ·right;exact eS fun q=>h5 ⟨z,em.mpr q⟩
     exact .inl z
    rw[cQ h5,da h6,ahc _ h4,Ed,ih _ (near h g1 hl) g2,e1];rfl
   rw[cQ h4,cQ h4];by_cases h5:c=59\/c=61
   ·rw[da h5,da h5,ih (p+1) (near h (bu _) hl) hl];rfl
   rw[cQ h5,cQ h5];rfl
theorem Uz(t:List Nat):Vaarrl.tokens t=(toks t (skip t 0)).map ia.told:=Of (t.length+1) 0 (by omega) (cC _)
abbrev pY(ts:List ia):Vaarrl.Toks:=ts.map ia.told
theorem BS(ts:List ia)(i:Nat):Vaarrl.next ((pY ts).drop i)=(cF ts i).1.tok:=by
 unfold Vaarrl.next pY cF;rw[List.head?_drop,bL];cases ts[i]?<;>rfl
theorem B0(ts:List ia)(i:Nat):Vaarrl.here ((pY ts).drop i)=(cF ts i).2.1:=by
 unfold Vaarrl.here pY cF;rw[List.head?_drop,bL];cases ts[i]?<;>rfl
theorem GP{a b:List Nat}(h:st a=st b):a=b:=by
 have h2:=congrArg (fun x:Str=>x.cps.toList) h;simpa[st]using h2
theorem TX(w:List Nat)(fw:List (List Nat)):ve (.str (st w)) (fQ fw)=fw.contains w:=by
 unfold ve fQ;rw[Qz,eN,fj,dP];constructor
 ·rintro⟨x,hx,h⟩;have h1:(st x==st w)=ae:=h;rw[beq_iff_eq]at h1;rw[<-GP h1];exact hx
 intro h;exact⟨w,h,(by show(st w==st w)=ae;exact beq_self_eq_true _)⟩
theorem uy(fw:List (List Nat))(w:List Nat):jI "word" (fQ fw) (.word w)=fw.contains w:=by
 unfold jI;show(decide (("word":Str)="word")&&ve (.str (st w)) (fQ fw))=_;rw[qk rfl,eI,TX]
theorem uD(τ:Tk):τ.h8=ae↔τ.tok=.sign 59:=by
 cases τ with
 |sign c=>
  show(c==59)=ae↔NF c=.sign 59;rw[beq_iff_eq];exact⟨fun h=>by rw[h],fun h=>Dg h⟩
 |word w=>exact⟨fun h=>(by cases h),fun h=>(by cases h)⟩
 |num w=>exact⟨fun h=>(by cases h),fun h=>(by cases h)⟩
 |bad=>exact⟨fun h=>(by cases h),fun h=>(by cases h)⟩
 |fin=>exact⟨fun h=>(by cases h),fun h=>(by cases h)⟩
theorem Yp(τ:Tk):jI "sign" [.str "="] τ=ae↔τ.tok=.sign 61:=by
 cases τ with
 |sign c=>
  show(decide (("sign":Str)="sign")&&((V.str "="::[]).any fun y=>Yq y (.str (st [c]))))=ae↔NF c=.sign 61;rw[qk rfl,eI];show((((st [61]:Str)==st [c]))||af)=ae↔_;rw[lg,beq_iff_eq];constructor
  ·intro h;have:=GP h;rw[List.cons.inj this|>.1]
  intro h;rw[Dg h]
 |word w=>exact⟨fun h=>(by cases h),fun h=>(by cases h)⟩
 |num w=>exact⟨fun h=>(by cases h),fun h=>(by cases h)⟩
 |bad=>exact⟨fun h=>(by cases h),fun h=>(by cases h)⟩
 |fin=>exact⟨fun h=>(by cases h),fun h=>(by cases h)⟩
theorem aay:V4=[sU,sE,o9,Bo,oW]:=by decide
theorem HS(τ:Tk):Vaarrl.isName τ.tok=iD τ:=by
 cases τ with
 |word w=>
  show(decide (w.length<=16)&& !V4.contains w)=(!ve (.str (st w)) x6&&decide (w.length<=16));rw[Bool.and_comm,aay,<-TX];rfl
 |num n=>rfl
 |sign c=>rfl
 |bad=>rfl
 |fin=>rfl
theorem aav(τ:Tk):Vaarrl.isLength τ.tok=pK τ:=by cases τ<;>rfl
theorem N7(τ:Tk):Vaarrl.wordOf τ.tok=τ.txt:=by cases τ<;>rfl
theorem aak(τ:Tk):Vaarrl.numOf τ.tok=τ.num?:=by cases τ<;>rfl
def opS(ts:List ia)(k i:Nat):Except Nat (List (List Nat)×Nat):=match DO ts k i with
 |.error p=>.error p
 |.ok (ns,j)=>if(cF ts j).1.h8=ae then .ok (ns,j+1)else .error (cF ts j).2.1
theorem ab3(ts:List ia)(i:Nat):((pY ts).drop i).drop 1=(pY ts).drop (i+1):=lW
theorem OT(ts:List ia):∀(k i:Nat),Gu k ((pY ts).drop i)=(opS ts k i).map fun x=>(x.1,(pY ts).drop x.2):=by
 intro k;induction k with
 |zero=>
  intro i;rw[Gu,BS,B0,ab3];unfold opS;show _=ju _ (if(cF ts i).1.h8=ae then _ else _);by_cases h:(cF ts i).1.h8=ae
  ·rw[da h,da ((uD _).mp h)];rfl
  rw[cQ h,cQ (fun z=>h ((uD _).mpr z))];rfl
 |succ k ih=>
  intro i;rw[Gu,BS,B0,ab3,HS,N7];unfold opS;have un:DO ts (k+1) i=if(cF ts i).1.h8=ae then .ok ([],i)else if iD (cF ts i).1=ae then(DO ts k (i+1)).map (fun x=>((cF ts i).1.txt::x.1,x.2))else .error (cF ts i).2.1:=rfl
  rw[un];by_cases h:(cF ts i).1.h8=ae
  ·rw[da h,da ((uD _).mp h)];show _=ju _ (if(cF ts i).1.h8=ae then _ else _);rw[da h];rfl
  rw[cQ h,cQ (fun z=>h ((uD _).mpr z))];by_cases h2:iD (cF ts i).1=ae
  ·rw[da h2,da h2,ih];unfold opS;cases DO ts k (i+1)with
   |error p=>rfl
   |ok x=>
    obtain⟨ns,j⟩:=x;show ju _ (ju _ (if(cF ts j).1.h8=ae then _ else _))=ju _ (if(cF ts j).1.h8=ae then _ else _);by_cases h3:(cF ts j).1.h8=ae
    ·rw[da h3,da h3];rfl
    rw[cQ h3,cQ h3];rfl
  rw[cQ h2,cQ h2];rfl
def TS.told(x:TS):Vaarrl.Told:={name:=x.name,length:=x.len,input:=x.word==sU,out:=x.word==o9,turn:=x.way==oW,uses:=x.ops}
def fwB(b:Bool):List (List Nat):=if b=ae then[sU,sE,o9]else[sE,o9]
theorem GI{τ:Tk}{w:List Nat}(h:τ.tok=.word w):τ=.word w:=by
 cases τ with
 |word v=>rw[jX h]
 |num n=>cases h
 |sign c=>cases h
 |bad=>cases h
 |fin=>cases h
theorem Pu(b:Bool)(τ:Tk):jI "word" (fQ (fwB b)) τ=ae↔(τ.tok=.word sU/\b=ae)\/τ.tok=.word sE\/τ.tok=.word o9:=by
 constructor
 ·intro h;cases τ with
  |word w=>
   rw[uy]at h;have h1:=dP.mp h;cases b with
   |true=>
    simp only[fwB,if_true,bQ,kh,or_false]at h1;rcases h1 with rfl|rfl|rfl
    ·exact .inl ⟨rfl,rfl⟩
    ·exact .inr (.inl rfl)
    exact .inr (.inr rfl)
   |false=>
    have h2:w=sE\/w=o9:=by
     have:w∈[sE,o9]:=h1;simpa using this
    rcases h2 with rfl|rfl
    ·exact .inr (.inl rfl)
    exact .inr (.inr rfl)
  |num n=>cases h
  |sign c=>cases h
  |bad=>cases h
  |fin=>cases h
 rintro(⟨h,rfl⟩|h|h)<;>rw[GI h,uy]
 ·rfl
 ·cases b<;>rfl
 cases b<;>rfl
theorem QF(τ:Tk):jI "word" (fQ [Bo,oW]) τ=ae↔τ.tok=.word Bo\/τ.tok=.word oW:=by
 constructor
 ·intro h;cases τ with
  |word w=>
   rw[uy]at h;have h1:=dP.mp h;have h2:w=Bo\/w=oW:=by simpa using h1
   rcases h2 with rfl|rfl
   ·exact .inl rfl
   exact .inr rfl
  |num n=>cases h
  |sign c=>cases h
  |bad=>cases h
  |fin=>cases h
 rintro(h|h)<;>rw[GI h,uy]<;>rfl
theorem acV:lJ "in"=sU:=by decide
theorem ZT:lJ "let"=sE:=by decide
theorem ZS:lJ "out"=o9:=by decide
theorem SX:lJ "map"=Bo:=by decide
theorem Oo:lJ "turn"=oW:=by decide
theorem Dn{τ:Tk}{w:List Nat}(h:τ.tok=.word w):τ.txt=w:=by rw[GI h];rfl
def Ii(acc:List TS):Bool:=match acc.getLast? with
 |some x=>x.word==sU
 |none=>ae
theorem Lw(ts:List ia)(b:Bool)(i:Nat):E4 b ((pY ts).drop i)=(stI ts (fwB b) i).map fun x=>(x.1.told,(pY ts).drop x.2):=by
 unfold E4 stI;simp only[lW,BS,B0,acV,ZT,ZS,HS,aav,N7,aak];by_cases h0:jI "word" (fQ (fwB b)) (cF ts i).1=ae
 ·rw[da h0];have h1:=(Pu b _).mp h0
  have c1:¬((cF ts i).1.tok≠ .word sU/\(cF ts i).1.tok≠ .word sE/\(cF ts i).1.tok≠ .word o9):=by
   rintro⟨a,b,c⟩;rcases h1 with h|h|h
   ·exact a h.1
   ·exact b h
   exact c h
  have c2:¬((cF ts i).1.tok=.word sU/\b=af):=by
   rintro⟨a,c⟩;rcases h1 with h|h|h
   ·rw[h.2]at c;cases c
   ·rw[h]at a;exact absurd (jX a) (by decide)
   rw[h]at a;exact absurd (jX a) (by decide)
  rw[cQ c1,cQ c2];by_cases g1:iD (cF ts (i+1)).1=ae
  ·rw[da g1,cQ (by rw[g1];decide)];by_cases g2:pK (cF ts (i+2)).1=ae
   ·rw[da g2,cQ (by rw[show i+1+1=i+2 from rfl,g2];decide)];simp only[show i+1+1=i+2 from rfl,show i+1+2=i+3 from rfl,show i+3+1=i+4 from rfl]
    have tw:(cF ts i).1.tok=.word (cF ts i).1.txt:=by
     rcases h1 with h|h|h
     ·rw[h.1,Dn h.1]
     ·rw[h,Dn h]
     rw[h,Dn h]
    by_cases hw:(cF ts i).1.txt=sU
    ·rw[da hw,da (by rw[tw,hw])];by_cases g3:(cF ts (i+3)).1.h8=ae
     ·rw[da g3,da ((uD _).mp g3)];show lX _=lX _;congr 2;show _=TS.told _;unfold TS.told;simp only[hw];rfl
     rw[cQ g3,cQ (fun z=>g3 ((uD _).mpr z))];rfl
    rw[cQ hw,cQ (fun z=>hw (Dn z))];by_cases g3:jI "sign" [.str "="] (cF ts (i+3)).1=ae
    ·rw[da g3,da ((Yp _).mp g3)];unfold Vaarrl.working;simp only[lW,BS,B0,SX,Oo,HS];by_cases g4:jI "word" (fQ [Bo,oW]) (cF ts (i+4)).1=ae
     ·have w4:=(QF _).mp g4;rw[da g4,cQ (by rintro⟨a,b⟩;rcases w4 with h|h;exact a h;exact b h)];simp only[show i+4+1=i+5 from rfl]
      have tw4:(cF ts (i+4)).1.tok=.word (cF ts (i+4)).1.txt:=by
       rcases w4 with h|h
       ·rw[h,Dn h]
       rw[h,Dn h]
      have wn:((cF ts i).1.txt==sU)=af:=by
       rw[beq_eq_false_iff_ne];exact hw
      have bo:((cF ts i).1.tok==ND o9)=((cF ts i).1.txt==o9):=by
       rw[tw,eN,beq_iff_eq,beq_iff_eq];exact⟨fun h=>jX h,fun h=>by rw[h]⟩
      have bt:((cF ts (i+4)).1.tok==ND oW)=((cF ts (i+4)).1.txt==oW):=by
       rw[tw4,eN,beq_iff_eq,beq_iff_eq];exact⟨fun h=>jX h,fun h=>by rw[h]⟩
      unfold OU;by_cases g5:iD (cF ts (i+5)).1=ae
      ·rw[da g5,cQ (by rw[g5];decide),OT]
       have ns:¬(cF ts (i+5)).1.h8=ae:=fun z=>by
        cases hx:(cF ts (i+5)).1 with
        |word w=>rw[hx]at z;cases z
        |num w=>rw[hx]at g5;cases g5
        |sign w=>rw[hx]at g5;cases g5
        |bad=>rw[hx]at g5;cases g5
        |fin=>rw[hx]at g5;cases g5
       unfold opS;have un:DO ts 4 (i+5)=if(cF ts (i+5)).1.h8=ae then .ok ([],i+5)else if iD (cF ts (i+5)).1=ae then(DO ts 3 (i+5+1)).map (fun x=>((cF ts (i+5)).1.txt::x.1,x.2))else .error (cF ts (i+5)).2.1:=rfl
       rw[un,cQ ns,da g5];cases DO ts 3 (i+5+1)with
       |error p=>rfl
       |ok x=>
        obtain⟨ns',j⟩:=x;show ju _ (ju _ (if(cF ts j).1.h8=ae then _ else _))=ju _ (if(cF ts j).1.h8=ae then _ else _);by_cases g6:(cF ts j).1.h8=ae
        ·rw[da g6,da g6];refine congrArg lX ?_;simp only[TS.told,wn,bo,bt]
        rw[cQ g6,cQ g6];rfl
      rw[cQ g5,da (by simpa using g5)];rfl
     rw[cQ g4,da ⟨fun z=>g4 ((QF _).mpr (.inl z)),fun z=>g4 ((QF _).mpr (.inr z))⟩];rfl
    rw[cQ g3,cQ (fun z=>g3 ((Yp _).mpr z))];rfl
   rw[cQ g2,da (by simpa using g2)];rfl
  rw[cQ g1,da (by simpa using g1)];rfl
 rw[cQ h0];have h1:=fun z=>h0 ((Pu b _).mpr z);by_cases c1:(cF ts i).1.tok≠ .word sU/\(cF ts i).1.tok≠ .word sE/\(cF ts i).1.tok≠ .word o9
 ·rw[da c1];rfl
 rw[cQ c1]
 have c2:(cF ts i).1.tok=.word sU/\b=af:=by
  have n1:(cF ts i).1.tok≠ .word sE:=fun z=>h1 (.inr (.inl z));have n2:(cF ts i).1.tok≠ .word o9:=fun z=>h1 (.inr (.inr z));have n3:(cF ts i).1.tok=.word sU:=eS fun z=>c1 ⟨z,n1,n2⟩;refine⟨n3,?_⟩;cases b with
  |false=>rfl
  |true=>exact absurd (.inl ⟨n3,rfl⟩) h1
 rw[da c2];rfl
theorem acY{ts:List ia}(en:Ends ts){fw:List (List Nat)}{i j:Nat}{x:TS}(h:stI ts fw i=.ok (x,j)):j<ts.length:=by
 have key:∀k,(cF ts k).1.h8=ae->k+1<ts.length:=fun k hk=>by
  have hl:k<ts.length:=by
   refine eS fun z=>?_
   have e:cF ts k=(.fin,0,0):=by
    unfold cF;rw[dZ (by omega)];rfl
   rw[e]at hk;cases hk
  refine en.next hl ?_ ?_
  ·cases hx:(cF ts k).1 with
   |fin=>rw[hx]at hk;cases hk
   |_=>rfl
  cases hx:(cF ts k).1 with
  |bad=>rw[hx]at hk;cases hk
  |_=>rfl
 unfold stI at h;split at h
 ·split at h
  ·split at h
   ·split at h
    ·split at h
     ·rename_i hs;cases h;exact key _ hs
     cases h
    split at h
    ·split at h
     ·split at h
      ·cases h
      split at h
      ·rename_i hs;cases h;exact key _ hs
      cases h
     cases h
    cases h
   cases h
  cases h
 cases h
theorem aaI{acc:List TS}(h:acc.length≠24):qU acc=fwB (Ii acc):=by
 unfold qU Ii fwB;rw[cQ h];cases acc.getLast? with
 |none=>rfl
 |some x=>
  show(if x.word=sU then _ else _)=(if(x.word==sU)=ae then _ else _);by_cases q:x.word=sU
  ·rw[da q,da (by rw[beq_iff_eq];exact q)]
  rw[cQ q,cQ (by rw[beq_iff_eq];exact q)]
theorem X4(acc:List TS)(x:TS):Ii (acc++[x])=x.told.input:=by
 unfold Ii;rw[Uo];rfl
def acd(n:Nat)(ts:List ia):Prop:=∀i,i<ts.length->((cF ts i).1.my=ae↔((cF ts i).2.1=n/\(cF ts i).1.tok=.none))
theorem Jn{n:Nat}{ts:List ia}(en:Ends ts)(fa:acd n ts):∀(f i:Nat)(acc:List TS),i<ts.length->ts.length-i<=f->acc.length<=24->
 (gS n (24-acc.length) (Ii acc) ((pY ts).drop i)).map (fun l=>acc.map TS.told++l)=(Em ts f i acc).map (fun l=>l.map TS.told):=by
 intro f
 induction f with
 |zero=>intro i acc h1 h2;omega
 |succ f ih=>
  intro i acc h1 h2 h3
  unfold gS
  have un:Em ts (f+1) i acc=if(cF ts i).1.my=ae then .ok acc else match stI ts (qU acc) i with|.error p=>.error p|.ok (x,j)=>Em ts f j (acc++[x]):=rfl
  rw[un,B0,BS]
  by_cases hf:(cF ts i).1.my=ae
  ·rw[da hf,da ((fa i h1).mp hf)]
   exact congrArg lX (cp _)
  rw[cQ hf,cQ (fun z=>hf ((fa i h1).mpr z))]
  by_cases h24:acc.length=24
  ·have e:24-acc.length=0:=by omega
   rw[e]
   have e2:stI ts (qU acc) i=.error (cF ts i).2.1:=by
    unfold stI;have:qU acc=[]:=by unfold qU;rw[da h24]
    rw[this,cQ];intro z;cases hx:(cF ts i).1<;>rw[hx]at z<;>cases z
   rw[e2]
   rfl
  obtain⟨k,hk⟩:∃k,24-acc.length=k+1:=⟨23-acc.length,by omega⟩
  rw[hk,aaI h24]
  show ju _ (match E4 (Ii acc) ((pY ts).drop i)with|.error e=>.error e|.ok x=>(gS n k x.1.input x.2).map fun l=>x.1::l)=_
  rw[Lw]
  cases hs:stI ts (fwB (Ii acc)) i with
  |error p=>rfl
  |ok y=>
   obtain⟨x,j⟩:=y
   have hj:=acY en hs
   have gt:=Wy hs
   have:=ih j (acc++[x]) hj (by omega) (by rw[bR];show acc.length+1<=24;omega)
   rw[X4,bR,show 24-(acc.length+[x].length)=k by show 24-(acc.length+1)=k;omega]at this
   show ju _ (ju (fun l=>x.told::l) (gS n k x.told.input ((pY ts).drop j)))=ju _ (Em ts f j (acc++[x]))
   rw[<-this]
   cases gS n k x.told.input ((pY ts).drop j)with
   |error e=>rfl
   |ok l=>
    refine congrArg lX ?_
    show acc.map TS.told++(x.told::l)=(acc++[x]).map TS.told++l
    rw[cg,de]
    rfl
theorem Uy{t:List Nat}:∀(k p:Nat)(x:ia),x∈me t k p->(x.1.my=ae->x.2.1=t.length)/\(x.1.isBad=ae->x.2.1<t.length):=by
 intro k;induction k with
 |zero=>
  intro p x hx;have e:x=(.fin,t.length,t.length):=bU.mp hx;rw[e];exact⟨fun _=>rfl,fun z=>by cases z⟩
 |succ k ih=>
  intro p x hx;cases hc:t[p]? with
  |none=>
   simp only[me,hc]at hx;have e:x=(.fin,t.length,t.length):=bU.mp hx;rw[e];exact⟨fun _=>rfl,fun z=>by cases z⟩
  |some c=>
   have hp:=(aZ.mp hc).1;simp only[me,hc]at hx;rcases bQ.mp hx with e|e
   ·rw[e];exact⟨fun z=>(by rw[Kj]at z;cases z),fun _=>hp⟩
   split at e
   ·cases e
   exact ih _ x e
theorem QK(t:List Nat)(p:Nat):acd t.length (toks t p):=fun i hi=>by
 have hm:cF (toks t p) i∈toks t p:=br (yE hi);obtain⟨f1,f2⟩:=Uy _ _ _ hm;constructor
 ·intro z;refine⟨f1 z,?_⟩;cases hx:(cF (toks t p) i).1 with
  |fin=>rfl
  |bad=>rfl
  |_=>rw[hx]at z;cases z
 rintro⟨z1,z2⟩;cases hx:(cF (toks t p) i).1 with
 |fin=>rfl
 |bad=>
  have:=f2 (by rw[hx];rfl);omega
 |_=>rw[hx]at z2;cases z2
theorem aeI(t:List Nat):gS t.length Vaarrl.MOST ae (Vaarrl.tokens t)=(allI (toks t (skip t 0))).map (fun l=>l.map TS.told):=by
 have en:=(yD (t:=t) (p:=skip t 0)).ends;have:=Jn en (QK t _) (toks t (skip t 0)).length 0 [] yD.pos (Nat.sub_le _ _) (cC _);rw[List.drop_zero]at this;rw[Uz];unfold allI;rw[<-this];show gS t.length 24 ae (pY _)=ju _ (gS t.length 24 ae (pY _));cases gS t.length 24 ae (pY (toks t (skip t 0)))<;>rfl
theorem ot{K:aY}{a:Addr}{xs:ao}{g:TG}{tb:L2.TS}{D:L2.Ends}{σ:L2.St}{H:Hp}(Pv:Nat->L2.St->Hp->Prop)(h0:Pv 0 σ H)(hl:∀i σ H,i<=xs.length->Pv i σ H->dw K H a xs)
 (hs:∀i x σ H T,xs[i]?=aa x->Pv i σ H->H T=ab->g (.ref T) σ (upd H T (.tup [.int (i:Nat),x])) fun σ2 H2=>tb {D with nx:=Pv (i+1),ct:=Pv (i+1),bk:=D.nx} σ2 H2)(hd:∀σ H,Pv xs.length σ H->D.nx σ H):
 ∃W:Nat->Nat->L2.St->Hp->Prop,(∃m,W 0 m σ H)/\∀i m σ H,W i m σ H->
  ((Ite K a).stop i H/\D.nx σ H)\/((Ite K a).go i H/\∃N:L2.St->Hp->Prop,(∀σ' H',N σ' H'->∃m',m'<m/\W (i+1) m' σ' H')/\∀x H',(Ite K a).Wh i H x H'->g x σ H' fun σ2 H2=>tb {D with nx:=N,ct:=N,bk:=D.nx} σ2 H2):=by
 refine⟨fun i m σ H=>m=xs.length-i/\i<=xs.length/\Pv i σ H,⟨xs.length,by simp,cC _,h0⟩,?_⟩
 rintro i m σ H ⟨rfl,hi,p⟩
 have q:=hl i σ H hi p
 by_cases zy:i<xs.length
 ·refine .inr ⟨⟨xs,xs[i],q,by simp[zy]⟩,Pv (i+1),fun σ' H' p'=>⟨xs.length-(i+1),by omega,rfl,zy,p'⟩,fun x H' y=>?_⟩
  obtain⟨T,x,e,hT,e2,y⟩:=y
  subst e e2
  exact hs i x σ _ T (y xs q) p hT
 have e:i=xs.length:=by omega
 subst e
 exact .inl ⟨⟨xs,q,bu _⟩,hd σ H p⟩
def oq(ns:List (List Nat)):List (Key×V):=ns.zipIdx.map fun x=>(iM (st x.1),V.int (x.2:Int))
theorem O8(ns:List (List Nat))(u:List Nat):oq (ns++[u])=oq ns++[(iM (st u),V.int (ns.length:Int))]:=by
 unfold oq;rw[List.zipIdx_append,cg];simp
theorem Rt(ns:List (List Nat)):(oq ns).length=ns.length:=by
 unfold oq;simp
theorem ZJ(u:List Nat):∀(ns:List (List Nat))(k:Nat),l9 ((ns.zipIdx k).map fun x=>((iM (st x.1):Key),V.int (x.2:Int))) (iM (st u))=if ns.contains u=ae then aa (V.int ((k+ns.findIdx (fun n=>n==u):Nat):Int))else ab:=by
 intro ns;induction ns with
 |nil=>intro k;rfl
 |cons n ns ih=>
  intro k;rw[ZD,dE];by_cases h:n=u
  ·subst h;rw[kH rfl,da (by simp),Zh];simp
  rw[kJ (fun z=>h (GP (Qh z))),ih (k+1),Zh];have e1:(n==u)=af:=by rw[beq_eq_false_iff_ne];exact h
  have e2:(n::ns).contains u=ns.contains u:=by
   rw[List.contains_cons];have:(u==n)=af:=by rw[beq_eq_false_iff_ne];exact dh h
   rw[this,N2]
  rw[e1,e2];simp only[cond_false];by_cases h2:ns.contains u=ae
  ·rw[da h2,da h2];congr 3;omega
  rw[cQ h2,cQ h2]
theorem HU(ns:List (List Nat))(u:List Nat):l9 (oq ns) (iM (st u))=if ns.contains u=ae then aa (V.int ((ns.findIdx (fun n=>n==u):Nat):Int))else ab:=by
 have:=ZJ u ns 0;rw[SA]at this;exact this
theorem KL(ns:List (List Nat))(u:List Nat):(l9 (oq ns) (iM (st u))).isSome=ns.contains u:=by
 rw[HU];cases h:ns.contains u
 ·rw[cQ (by decide)];rfl
 rw[da rfl];rfl
theorem Rr(ns:List (List Nat))(u:List Nat)(h:ns.contains u=af):putK (oq ns) (iM (st u)) (V.int (ns.length:Int))=oq (ns++[u]):=by
 unfold putK;rw[cQ,O8];intro z;rw[fj]at z;obtain⟨kv,hm,hk⟩:=z;have hk:=of_decide_eq_true hk;unfold oq at hm;obtain⟨x,hx,e⟩:=di.mp hm;subst e;have e2:=GP (Qh hk);have e3:x.1∈ns:=(List.mem_zipIdx' hx).2▸Gy _;rw[e2]at e3;rw[dP.mpr e3]at h;cases h
abbrev TB(n:Nat):aq:=[("number",.int (-3)),("statement_number",.int (n:Int))]
def EZ(H:Hp)(os:ag)(uss:List (List Nat)):Prop:=fM (fun a us=>H a=aa (.lst (tx us))) os uss
inductive WQ(CS CN:Addr)(vs:ao)(H:Hp)(Q:VK)(E:XK):Prop
 |mk (ls:Addr) (bs:ag) (xs:List TS) (_:vs=[.ref ls]) (_:H ls=aa (.lst (bs.map V.ref))) (_:wD CS H bs xs) (_:xs.length<=1000) (_:(∀x∈xs,x.ops.length<=1000)) (_:match gy (xs.map TS.told) [] []with
 |.error n=>jv E H CN (TB n)
 |.ok p=>∀lo os H',bH H H'->H' lo=aa (.lst (os.map V.ref))->EZ H' os (p.map fun s=>s.uses)->Q (.ref lo) H')
theorem lD{α β:Type}{F:α->β->Prop}:∀{l:List α}{m:List β}{i:Nat}{a:α},fM F l m->l[i]?=aa a->∃b,m[i]?=aa b/\F a b
 |_,_,_,_,.nil,h=>by simp at h
 |_,_,0,_,.cons r t,h=>by
  simp at h;subst h;exact⟨_,rfl,r⟩
 |_,_,i+1,_,.cons r t,h=>by
  have:=lD t (i:=i) (by simpa using h);simpa using this
theorem DU{f CS CN:Addr}{fd:bC}(F:iG K "find_operands" "find_operands" qy f fd)(S:FG K CS)(M:Ec P w K mg base "WrongName" CN Hs (Dx K (-3) "statement_number"))(ny:eV K CN "statement_number")
 (hl:mg "len"=ab)(KW:mg "enumerate"=ab):dy P w K mg base (k7 P w) 4 f fd ["statements"] (WQ CS CN):=by
 refine DV F uI fun fz A outer s H vs Q E hr h=>?_
 obtain⟨ls,bs,xs,rfl,l5,sa,sz,oz,q⟩:=h
 have hu:=Ph hr
 have nd:=uI.nd
 refine⟨_,bh (Q5 (i:=1) nd rfl (ZC rfl) BF)
  (bh (jB 2 nd (eB bq))
  (bh (fg (Hy k6) rfl (pN (by rfl) KW (aQ (pv 0) bq)) (qA rfl (fq (o3 3 nd) (fq (o3 4 nd) mE)))
   (bh (Xc (i:=5) (own:=[("name",6)]) rfl nd rfl rfl (ZR rfl rfl rfl rfl) (fT (cw (pv 4) rfl)) (rZ (by rfl)) (fun s H C cl fp=>o3 6 nd) (fun s H C cl fp=>LP (DI (DL hu (pv 6) (pv 1)))) (fun s H C cl fp=>pv 6))
   (bh (d9 (KC (DI (adn hu (cw (pv 4) rfl) (pv 1))) (DH (cS zX (dD cJ (by rfl) hl cx (aQ (pv 5) bq)) cG (dg _)))).pt
    (bj (kK k6 rfl (abO M (hr.mono (by decide)) (by rfl) (aQ (pv 3) bq)))) cT)
   (bh (dN (mq cj c9 c8 iO (pv 2) (aQ (KH (own:=[("name",6)]) rfl nd (fT (cw (pv 4) rfl)) (rZ (by rfl)) (fun s H C cl fp=>o3 6 nd) (fun s H C cl fp=>Gb) (fun s H C cl fp=>Tq hu (pv 1) (pv 6) (fun _ _=>rfl))) bq)))
   (bj (LQ hu (pv 1) (cw (pv 4) rfl) (pv 3) rfl))))))
  (bj (cf (pv 2))))),?_⟩
 intro nm hnm
 have s1:bH H (upd H nm (.dK [])):=bH.new hnm
 refine⟨by show 0<=bz;decide,fun op hop=>?_⟩
 have nop:nm≠op:=fun z=>by rw[z,bf]at hop;cases hop
 have opH:H op=ab:=s1.free hop
 have s2:bH H (upd (upd H nm (.dK [])) op (.lst [])):=s1.trans (bH.new hop)
 refine⟨_,rfl,ls,_,rfl,dw.of (s2 _ _ l5),ot (xs:=bs.map V.ref) (fun i σ H'=>Ex5 fun(v3 v4 v5:Option V)(os:ag)(p:aO)=>σ=[aa (.ref ls),aa (.ref nm),aa (.ref op),v3,v4,v5,ab]/\bH H H'/\H' nm=aa (.dK (oq ((xs.take i).map TS.name)))/\
  H' op=aa (.lst (os.map V.ref))/\fM (fun a us=>H' a=aa (.lst (tx us))/\a≠op) os (p.map fun s=>s.uses)/\p.length=i/\gy ((xs.drop i).map TS.told) ((xs.take i).map TS.name) p=gy (xs.map TS.told) [] []) ?_ ?_ ?_ ?_⟩
 ·refine⟨ab,ab,ab,[],[],rfl,s2,?_,bf,.nil,rfl,rfl⟩
  rw[bB nop,bf]
  rfl
 ·rintro i σ H' _ ⟨v3,v4,v5,os,p,rfl,sm,_⟩
  exact dw.of (sm _ _ l5)
 ·rintro i x σ H' T hx ⟨v3,v4,v5,os,p,rfl,sm,hd,ho,pr,pl,rs⟩ hT
  obtain⟨b,hb,rfl⟩:∃b,bs[i]?=aa b/\x=.ref b:=by
   rw[bL]at hx;cases hb:bs[i]? with
   |none=>rw[hb]at hx;cases hx
   |some b=>rw[hb]at hx;exact⟨b,rfl,(bT hx).symm⟩
  obtain⟨x,hxi,dx,lo,hbH,ajP⟩:=lD sa hb
  have sT:bH H' (upd H' T (.tup [.int (i:Nat),.ref b])):=bH.new hT
  have s3:=sm.trans sT
  refine⟨T,_,rfl,wF.of bf,rfl,_,_,rfl,_,_,rfl,rfl,?_⟩
  generalize hH1:upd H' T (.tup [.int (i:Nat),.ref b])=H1 at s3 sT
  have hb1:=s3 _ _ hbH
  have aaB:=s3 _ _ ajP
  have hd1:=sT _ _ hd
  have ho1:=sT _ _ ho
  generalize hns:(xs.take i).map TS.name=ns at hd hd1 rs
  have nsl:ns.length=i:=by
   rw[<-hns,aV,dX];have:=(aZ.mp hxi).1;omega
  have xm:x∈xs:=br hxi
  have ox:=oz x xm
  refine⟨_,rfl,b,CS,dx,_,_,rfl,hb1,S.cl,S.n5,rfl,lo,rfl,⟨_,dw.of aaB⟩,fun D hD=>?_⟩
  have nlD:lo≠D:=bP aaB hD
  have nnD:nm≠D:=bP hd1 hD
  have strAt:∀{j:Nat}{v:V},(fQ x.ops)[j]?=aa v->∃u,x.ops[j]?=aa u/\v=.str (st u):=fun{j v} hj=>by
   unfold fQ at hj;rw[bL]at hj;cases hb:x.ops[j]? with
   |none=>rw[hb]at hj;cases hj
   |some u=>rw[hb]at hj;exact⟨u,rfl,(bT hj).symm⟩
  have Tv:(fQ x.ops).length=x.ops.length:=aV _
  have un:gy ((xs.drop i).map TS.told) ns p=match nE ns x.told with|none=>.error p.length|some s=>gy ((xs.drop (i+1)).map TS.told) (ns++[x.name]) (p++[s]):=by
   obtain⟨zy,e⟩:=aZ.mp hxi;rw[d5 zy,e,dE];rfl
  rw[un]at rs
  refine BX (xs:=fQ x.ops) (fun j G=>G=upd H1 D (.lst (fQ ((x.ops.take j).filter fun u=>!ns.contains u)))) rfl ?_ ?_ ?_
  ·rintro j G _ rfl
   refine dw.of ?_
   rw[bB nlD]
   exact aaB
  ·rintro j v G hj rfl
   obtain⟨u,hju,rfl⟩:=strAt hj
   have tk:x.ops.take (j+1)=x.ops.take j++[u]:=take_snoc hju
   refine⟨rfl,_,rfl,_,rfl,nm,_,rfl,zC.k (k:=iM (st u)) (by rw[bB nnD];exact hd1),_,rfl,?_⟩
   rw[KL,tk,kO]
   cases hc:ns.contains u
   ·refine dM ⟨_,rfl,_,bf,?_,?_⟩
    ·unfold fQ
     rw[aV,bZ]
     have h1:=qj (fun u=>!ns.contains u) (x.ops.take j)
     rw[dX]at h1
     omega
    rw[jj]
    congr 2
    unfold fQ
    rw[cg]
    congr 1
    rw[fE (by rw[hc];rfl)]
    rfl
   refine cE ?_
   rw[gM (by rw[hc];decide),k8,cp]
  rintro G rfl
  rw[Tv,dA]
  generalize hun:(x.ops.filter fun u=>!ns.contains u)=unk
  have sD:bH H1 (upd H1 D (.lst (fQ unk))):=bH.new hD
  have s4:=s3.trans sD
  generalize Yg:upd H1 D (.lst (fQ unk))=H2 at sD s4
  have hD2:H2 D=aa (.lst (fQ unk)):=by rw[<-Yg,bf]
  have Ip:=sD _ _ hb1
  have hd2:=sD _ _ hd1
  have ho2:=sD _ _ ho1
  have ad6:=sD _ _ aaB
  have bad:(ns.contains x.name=ae\/x.ops.all (fun u=>ns.contains u)=af)->jv E H2 CN (TB i):=fun hh=>by
   have e:nE ns x.told=ab:=da hh;rw[e]at rs;rw[<-rs,pl]at q;exact fun a dx H' sx=>q a dx H' (s4.trans sx)
  refine⟨_,rfl,b,CS,dx,_,_,rfl,Ip,S.cl,S.n2,rfl,_,rfl,nm,_,rfl,zC.k (k:=iM (st x.name)) hd2,_,rfl,?_⟩
  rw[KL]
  cases hn:ns.contains x.name
  ·refine cE ⟨_,rfl,D,_,rfl,.inl (dw.of hD2),_,_,rfl,rfl,_,rfl,?_⟩
   have lu:((fQ unk).length:Int)=(unk.length:Int):=by unfold fQ;rw[aV]
   rw[lu]
   by_cases hz:unk=[]
   ·have Mr:x.ops.all (fun u=>ns.contains u)=ae:=by
     rw[cY];intro u hu';refine eS fun z=>?_;have:u∈(x.ops.filter fun u=>!ns.contains u):=cI.mpr ⟨hu',by simpa using z⟩;rw[hun,hz]at this;cases this
    rw[gX (show¬(0:Int)<(unk.length:Int)by rw[hz];decide)]
    obtain⟨s0,e,us0⟩:∃s0:dz,nE ns x.told=aa s0/\s0.uses=x.ops.map fun u=>ns.findIdx fun n=>n==u:=by
     refine⟨_,cQ (?_:¬(ns.contains x.name=ae\/x.ops.all (fun u=>ns.contains u)=af)),rfl⟩;rw[hn,Mr];decide
    rw[e]at rs
    refine cE ⟨_,rfl,.inl ⟨rfl,_,dw.of ho2⟩,_,rfl,b,CS,dx,_,_,rfl,Ip,S.cl,S.n5,rfl,lo,rfl,⟨_,dw.of ad6⟩,fun D2 aaF=>?_⟩
    have nl2:lo≠D2:=bP ad6 aaF
    have nn2:nm≠D2:=bP hd2 aaF
    have U1:op≠D2:=bP ho2 aaF
    refine BX (xs:=fQ x.ops) (fun j G=>G=upd H2 D2 (.lst (tx ((x.ops.take j).map fun u=>ns.findIdx fun n=>n==u)))) rfl ?_ ?_ ?_
    ·rintro j G _ rfl
     refine dw.of ?_
     rw[bB nl2]
     exact ad6
    ·rintro j v G hj rfl
     obtain⟨u,hju,rfl⟩:=strAt hj
     have tk:x.ops.take (j+1)=x.ops.take j++[u]:=take_snoc hju
     have hcu:ns.contains u=ae:=cY.mp Mr u (br hju)
     have g1:zC (upd H2 D2 (.lst (tx ((x.ops.take j).map fun u=>ns.findIdx fun n=>n==u)))) nm (kV (iM (st u))) (aa (.int ((ns.findIdx (fun n=>n==u):Nat):Int))):=by
      have g0:=zC.k (k:=iM (st u)) (show(upd H2 D2 (.lst (tx ((x.ops.take j).map fun u=>ns.findIdx fun n=>n==u)))) nm=aa (.dK (oq ns))by rw[bB nn2];exact hd2);rw[HU,da hcu]at g0;exact g0
     refine⟨rfl,?_⟩
     unfold UB
     refine dM ⟨_,rfl,_,rfl,nm,_,rfl,g1,_,bf,?_,?_⟩
     ·unfold tx
      rw[aV,aV,dX,bZ]
      omega
     rw[jj,tk]
     congr 2
     unfold tx
     rw[cg,cg]
     rfl
    rintro G rfl
    rw[Tv,dA]
    have s5:bH H2 (upd H2 D2 (.lst (tx (x.ops.map fun u=>ns.findIdx fun n=>n==u)))):=bH.new aaF
    generalize Zo:upd H2 D2 (.lst (tx (x.ops.map fun u=>ns.findIdx fun n=>n==u)))=H3 at s5
    have hD3:H3 D2=aa (.lst (tx (x.ops.map fun u=>ns.findIdx fun n=>n==u))):=by rw[<-Zo,bf]
    have lo':os.length=i:=by
     have:=dO pr;rw[aV,pl]at this;exact this
    have hi1:i<xs.length:=(aZ.mp hxi).1
    refine⟨op,_,_,rfl,rfl,s5 _ _ ho2,by rw[aV,bZ];omega,?_⟩
    have hb4:(upd H3 op (.lst (os.map V.ref++[.ref D2]))) b=aa (.ins CS dx (UD (.str (st x.word)) (.str (st x.name)) (.int (x.len:Int)) (.str (st x.way)) (.ref lo))):=by
     rw[bB (lE (s5 _ _ Ip) (s5 _ _ ho2) (by intro z;cases z))];exact s5 _ _ Ip
    have hd4:(upd H3 op (.lst (os.map V.ref++[.ref D2]))) nm=aa (.dK (oq ns)):=by
     rw[bB nop];exact s5 _ _ hd2
    refine⟨_,rfl,_,rfl,_,rfl,b,CS,dx,_,_,rfl,hb4,S.cl,S.n2,rfl,nm,_,rfl,Sk.k (k:=iM (st x.name)) hd4 (by rw[Rt,nsl,bZ];omega),?_⟩
    have e2:(xs.take (i+1)).map TS.name=ns++[x.name]:=by
     rw[take_snoc hxi,cg,hns];rfl
    refine⟨_,_,_,os++[D2],p++[s0],rfl,?_,?_,?_,?_,?_,?_⟩
    ·exact bH.put hnm (bH.put opH (s4.trans s5))
    ·rw[bf]
     have e3:=Rr ns x.name hn
     rw[nsl]at e3
     rw[e2,<-e3]
    ·rw[bB (dh nop),bf,cg]
     rfl
    ·rw[cg]
     have keep:∀{a:Addr}{us:ao},H3 a=aa (.lst us)->a≠op->(upd (upd H3 op (.lst (os.map V.ref++[.ref D2]))) nm (.dK (putK (oq ns) (iM (st x.name)) (V.int (i:Int))))) a=aa (.lst us):=fun{a us} h1 h2=>by
      rw[bB (lE h1 (s5 _ _ hd2) (by intro z;cases z)),bB h2];exact h1
     refine m6 (Paired.sI pr fun a us z=>⟨keep (s5 _ _ (sD _ _ (sT _ _ z.1))) z.2,z.2⟩) (.cons ⟨?_,dh U1⟩ .nil)
     show _=aa (HO.lst (tx s0.uses))
     rw[us0]
     exact keep hD3 (dh U1)
    ·rw[bR,pl]
     rfl
    rw[e2]
    exact rs
   rw[qk (show(0:Int)<(unk.length:Int)by
    have:=List.length_pos_iff.mpr hz;omega)]
   refine dM ⟨_,rfl,DG M ny (bad (.inr ?_))⟩
   obtain⟨u,hu'⟩:=List.exists_mem_of_ne_nil _ hz
   rw[<-hun]at hu'
   obtain⟨h1,h2⟩:=cI.mp hu'
   refine Bool.eq_false_iff.mpr fun z=>?_
   have:=cY.mp z u h1
   rw[this]at h2
   cases h2
  exact dM (dM ⟨_,rfl,DG M ny (bad (.inl hn))⟩)
 rintro σ H' ⟨v3,v4,v5,os,p,rfl,sm,hd,ho,pr,pl,rs⟩
 refine⟨_,rfl,?_⟩
 have le:bs.length=xs.length:=dO sa
 rw[aV,le,GB]at rs
 have rs2:lX p=gy (xs.map TS.told) [] []:=rs
 rw[<-rs2]at q
 exact q op os H' sm ho (Paired.sI pr fun _ _ z=>z.1)
structure WfT(x:TS):Prop where
 len:x.len<=64
 nm:x.name.length<=16
 fm:(x.word=sU/\x.way=[]/\x.ops=[])\/((x.word=sE\/x.word=o9)/\(x.way=Bo\/x.way=oW)/\1<=x.ops.length/\x.ops.length<=4)
theorem WfT.j8{x:TS}(h:WfT x):x.ops.length<=4:=by
 rcases h.fm with⟨_,_,e⟩|⟨_,_,_,e⟩
 ·rw[e];decide
 exact e
inductive u9(xs:List TS):Prop
 |mk (m:_) (_:m<=xs.length) (_:∀i x,xs[i]?=aa x->(x.word=sU↔i<m))
theorem aag{ts:List ia}:∀(k i:Nat)(ns:List (List Nat))(j:Nat),DO ts k i=.ok (ns,j)->ns.length<=k:=by
 intro k;induction k with
 |zero=>
  intro i ns j h;cases h;exact bu _
 |succ k ih=>
  intro i ns j h;unfold DO at h;split at h
  ·cases h;exact cC _
  split at h
  ·cases ho:DO ts k (i+1)with
   |error p=>rw[ho]at h;cases h
   |ok x=>
    obtain⟨ns',j'⟩:=x;rw[ho]at h;cases h;have:=ih (i+1) ns' j' ho;show ns'.length+1<=k+1;omega
  cases h
theorem N9{fw:List (List Nat)}{τ:Tk}(h:jI "word" (fQ fw) τ=ae):τ.txt∈fw:=by
 cases τ with
 |word w=>
  rw[uy]at h;exact dP.mp h
 |num n=>cases h
 |sign c=>cases h
 |bad=>cases h
 |fin=>cases h
theorem aen{acc:List TS}{w:List Nat}(h:w∈qU acc):w=sU\/w=sE\/w=o9:=by
 unfold qU at h;split at h
 ·cases h
 split at h
 ·split at h
  ·simpa using h
  right;simpa using h
 simpa using h
theorem adE{τ:Tk}(h:pK τ=ae):τ.num?<=64:=by
 cases τ with
 |num n=>exact of_decide_eq_true h
 |word w=>cases h
 |sign c=>cases h
 |bad=>cases h
 |fin=>cases h
theorem aaq{τ:Tk}(h:iD τ=ae):τ.txt.length<=16:=by
 cases τ with
 |word w=>
  have h:(!ve (.str (st w)) x6&&decide (w.length<=16))=ae:=h;rw[cM]at h;exact of_decide_eq_true h.2
 |num n=>cases h
 |sign c=>cases h
 |bad=>cases h
 |fin=>cases h
theorem acX{ts:List ia}{acc:List TS}{i j:Nat}{x:TS}(h:stI ts (qU acc) i=.ok (x,j)):WfT x/\x.word∈qU acc:=by
 unfold stI at h;split at h
 ·rename_i g0;have m0:=N9 g0;split at h
  ·rename_i g1;have n1:=aaq g1;split at h
   ·rename_i g2;have l2:=adE g2;split at h
    ·rename_i hw;split at h
     ·cases h;exact⟨⟨l2,n1,.inl ⟨hw,rfl,rfl⟩⟩,m0⟩
     cases h
    rename_i hw;split at h
    ·split at h
     ·rename_i g4;have m4:=N9 g4;split at h
      ·cases h
      rename_i ns j' ho;split at h
      ·cases h;refine⟨⟨l2,n1,.inr ⟨?_,?_,?_⟩⟩,m0⟩
       ·rcases aen m0 with e|e|e
        ·exact absurd e hw
        ·exact .inl e
        exact .inr e
       ·simpa using m4
       show 1<=ns.length/\ns.length<=4;unfold OU at ho;split at ho
       ·cases h1:DO ts 3 (i+5+1)with
        |error p=>rw[h1]at ho;cases ho
        |ok y=>
         obtain⟨ns',j''⟩:=y;rw[h1]at ho;cases ho;have:=aag _ _ _ _ h1;show 1<=ns'.length+1/\ns'.length+1<=4;omega
       cases ho
      cases h
     cases h
    cases h
   cases h
  cases h
 cases h
theorem JK{acc:List TS}{x:TS}(h:u9 acc)(hx:x.word∈qU acc):u9 (acc++[x]):=by
 obtain⟨m,hm,f⟩:=h
 have at_:∀i y,(acc++[x])[i]?=aa y->(i<acc.length/\acc[i]?=aa y)\/(i=acc.length/\y=x):=fun i y hy=>by
  rcases lL i acc.length with q|q|q
  ·rw[eX q]at hy;exact .inl ⟨q,hy⟩
  ·subst q;rw[hJ (bu _),FU]at hy;exact .inr ⟨rfl,(bT hy).symm⟩
  rw[hJ (by omega),dZ (by show 1<=_;omega)]at hy;cases hy
 by_cases hw:x.word=sU
 ·have hm2:m=acc.length:=by
   rcases jh m acc.length with q|q
   ·exfalso;have X9:acc≠[]:=fun z=>by rw[z]at q;cases q
    have hl:acc[acc.length-1]?=aa (acc.getLast X9):=by
     rw[List.getLast_eq_getElem,bF]
    have n1:¬(acc.getLast X9).word=sU:=fun z=>by
     have:=(f _ _ hl).mp z;omega
    unfold qU at hx;split at hx
    ·cases hx
    rw[List.getLast?_eq_getLast X9]at hx;simp only[cQ n1]at hx;rw[hw]at hx;revert hx;decide
   omega
  subst hm2;refine⟨acc.length+1,by rw[bR];exact bu _,fun i y hy=>?_⟩;rcases at_ i y hy with⟨q,z⟩|⟨q,z⟩
  ·have:=f i y z;rw[this];omega
  subst z;exact⟨fun _=>by omega,fun _=>hw⟩
 refine⟨m,by rw[bR];omega,fun i y hy=>?_⟩;rcases at_ i y hy with⟨q,z⟩|⟨q,z⟩
 ·exact f i y z
 subst z;exact⟨fun z=>absurd z hw,fun z=>by omega⟩
theorem aa2{ts:List ia}:∀(n i:Nat)(acc xs:List TS),(∀x∈acc,WfT x)->u9 acc->acc.length<=24->Em ts n i acc=.ok xs->(∀x∈xs,WfT x)/\u9 xs/\xs.length<=24:=by
 intro n;induction n with
 |zero=>
  intro i acc xs h1 h2 h3 h;cases h;exact⟨h1,h2,h3⟩
 |succ n ih=>
  intro i acc xs h1 h2 h3 h;have un:Em ts (n+1) i acc=if(cF ts i).1.my=ae then .ok acc else match stI ts (qU acc) i with|.error p=>.error p|.ok (x,j)=>Em ts n j (acc++[x]):=rfl
  rw[un]at h;split at h
  ·cases h;exact⟨h1,h2,h3⟩
  cases hs:stI ts (qU acc) i with
  |error p=>rw[hs]at h;cases h
  |ok y=>
   obtain⟨x,j⟩:=y;rw[hs]at h;obtain⟨wf,hx⟩:=acX hs;refine ih j (acc++[x]) xs (fun y hy=>?_) (JK h2 hx) ?_ h
   ·rcases d7.mp hy with q|q
    ·exact h1 y q
    rw[bU.mp q];exact wf
   rw[bR];show acc.length+1<=24
   have:acc.length≠24:=fun z=>by
    unfold qU at hx;rw[da z]at hx;cases hx
   omega
theorem aa1{ts:List ia}{xs:List TS}(h:allI ts=.ok xs):(∀x∈xs,WfT x)/\u9 xs/\xs.length<=24:=
 aa2 _ _ [] xs (fun x hx=>by cases hx) ⟨0,bu _,fun i x h=>by simp at h⟩ (cC _) h
theorem OJ:∀(l:List Vaarrl.Told)(names:List Vaarrl.Text)(q p:aO),gy l names q=.ok p->∃r,p=q++r/\r.length=l.length/\∀i t,l[i]?=aa t->∃s,r[i]?=aa s/\nE (names++(l.take i).map fun t=>t.name) t=aa s:=by
 intro l;induction l with
 |nil=>
  intro names q p h;cases h;exact⟨[],(cp _).symm,rfl,fun i t h=>by simp at h⟩
 |cons t l ih=>
  intro names q p h;unfold gy at h;cases hn:nE names t with
  |none=>rw[hn]at h;cases h
  |some s=>
   rw[hn]at h;obtain⟨r,e,el,f⟩:=ih _ _ _ h;refine⟨s::r,by rw[e,de];rfl,by show r.length+1=l.length+1;rw[el],fun i t' ht=>?_⟩;cases i with
   |zero=>
    simp at ht;subst ht;exact⟨s,rfl,by rw[List.take_zero,E6,cp];exact hn⟩
   |succ i=>
    obtain⟨s',e1,e2⟩:=f i t' (by simpa using ht);refine⟨s',by simpa using e1,?_⟩;rw[List.take_succ_cons,dE];rw[de]at e2;exact e2
def md(p:aO)(s:dz):TS:=⟨if s.input=ae then sU else if s.out=ae then o9 else sE,s.name,s.length,if s.input=ae then[]else if s.turn=ae then oW else Bo,s.uses.map (kY p)⟩
structure um(p:aO):Prop where
 j8:p.length<=24
 ins:∃m,m<=p.length/\∀(i:Nat)(s:dz),p[i]?=aa s->(s.input=ae↔i<m)
 len:∀s∈p,s.length<=64
 nam:∀s∈p,s.name.length<=16
 uses:∀(i:Nat)(s:dz),p[i]?=aa s->∀u∈s.uses,u<i
 inp:∀s∈p,s.input=ae->s.out=af/\s.turn=af/\s.uses=[]
 ops:∀s∈p,s.uses.length<=4
 op1:∀s∈p,s.input=af->1<=s.uses.length
theorem OI{xs:List TS}{p:aO}(wf:∀x∈xs,WfT x)(fi:u9 xs)(j8:xs.length<=24)(h:gy (xs.map TS.told) [] []=.ok p):p.map (md p)=xs/\um p:=by
 obtain⟨r,e,el,f⟩:=OJ _ _ _ _ h;rw[nP]at e;subst e;rw[aV]at el
 have g:∀i x,xs[i]?=aa x->∃s,p[i]?=aa s/\(∀u∈x.ops,u∈(xs.take i).map TS.name)/\s={name:=x.name,length:=x.len,input:=x.word==sU,out:=x.word==o9,turn:=x.way==oW,uses:=x.ops.map fun u=>((xs.take i).map TS.name).findIdx fun n=>n==u}:=fun i x hx=>by
  obtain⟨s,e1,e2⟩:=f i x.told (by rw[bL,hx];rfl);refine⟨s,e1,?_⟩
  have e3:(([]:List Vaarrl.Text)++((xs.map TS.told).take i).map fun t=>t.name)=(xs.take i).map TS.name:=by
   rw[nP,<-NZ,dC];rfl
  rw[e3]at e2;unfold nE at e2;split at e2
  ·cases e2
  rename_i hh;refine⟨fun u hu=>?_,(bT e2).symm⟩
  have Mr:x.told.uses.all (fun u=>((xs.take i).map TS.name).contains u)=ae:=by
   cases z:x.told.uses.all (fun u=>((xs.take i).map TS.name).contains u)with
   |true=>rfl
   |false=>exact absurd (.inr z) hh
  exact dP.mp (cY.mp Mr u hu)
 have back:∀i s,p[i]?=aa s->∃x,xs[i]?=aa x:=fun i s hs=>by
  have hi:=(aZ.mp hs).1;exact⟨xs[i]'(by omega),bF _⟩
 have agd:∀k x,xs[k]?=aa x->kY p k=x.name:=fun k x hx=>by
  obtain⟨s,e1,_,e2⟩:=g k x hx;unfold kY;rw[e1,e2];rfl
 have idx:∀i u,u∈(xs.take i).map TS.name->(((xs.take i).map TS.name).findIdx fun n=>n==u)<i/\kY p (((xs.take i).map TS.name).findIdx fun n=>n==u)=u:=fun i u hu=>by
  have h1:(((xs.take i).map TS.name).findIdx fun n=>n==u)<((xs.take i).map TS.name).length:=List.findIdx_lt_length_of_exists ⟨u,hu,by simp⟩;have h0:=List.findIdx_getElem (w:=h1);have h2:(((xs.take i).map TS.name)[((xs.take i).map TS.name).findIdx fun n=>n==u]'h1)=u:=by simpa using h0
  clear h0;generalize((xs.take i).map TS.name).findIdx (fun n=>n==u)=k at h1 h2⊢;rw[aV,dX]at h1;refine⟨by omega,?_⟩;have hk:xs[k]?=aa (xs[k]'(by omega)):=bF _;rw[agd k _ hk];rw[<-h2];simp
 constructor
 ·refine vc fun i=>?_;rw[bL];cases hx:xs[i]? with
  |none=>
   have:=ir.mp hx;rw[dZ (by omega)];rfl
  |some x=>
   obtain⟨s,e1,e2,e3⟩:=g i x hx;rw[e1];show aa (md p s)=aa x;congr 1
   have us:(x.ops.map (fun u=>((xs.take i).map TS.name).findIdx fun n=>n==u)).map (kY p)=x.ops:=by
    rw[dC]
    have:x.ops.map (kY p∘fun u=>((xs.take i).map TS.name).findIdx fun n=>n==u)=x.ops.map id:=by
     refine dk fun u hu=>?_;exact(idx i u (e2 u hu)).2
    rw[this,qN]
   have wx:=wf x (br hx);unfold md;rw[e3];obtain⟨xw,xn,xl,xy,xo⟩:=x;simp only at us;simp only[us];rcases wx.fm with⟨a1,a2,a3⟩|⟨a1,a2,a3⟩
   ·simp only at a1 a2 a3;subst a1 a2 a3;rfl
   simp only at a1 a2 a3;rcases a1 with rfl|rfl<;>rcases a2 with rfl|rfl<;>rfl
 refine⟨by omega,?_,?_,?_,?_,?_,?_,?_⟩
 ·obtain⟨m,hm,fm⟩:=fi;refine⟨m,by omega,fun i s hs=>?_⟩;obtain⟨x,hx⟩:=back i s hs;obtain⟨s',e1,_,e3⟩:=g i x hx;rw[hs]at e1;cases e1;rw[e3,<-fm i x hx];exact beq_iff_eq
 ·intro s hs;obtain⟨i,hi⟩:=cz hs;obtain⟨x,hx⟩:=back i s hi;obtain⟨s',e1,_,e3⟩:=g i x hx;rw[hi]at e1;cases e1;rw[e3];exact(wf x (br hx)).len
 ·intro s hs;obtain⟨i,hi⟩:=cz hs;obtain⟨x,hx⟩:=back i s hi;obtain⟨s',e1,_,e3⟩:=g i x hx;rw[hi]at e1;cases e1;rw[e3];exact(wf x (br hx)).nm
 ·intro i s hs u hu;obtain⟨x,hx⟩:=back i s hs;obtain⟨s',e1,e2,e3⟩:=g i x hx;rw[hs]at e1;cases e1;rw[e3]at hu;obtain⟨v,hv,rfl⟩:=di.mp hu;exact(idx i v (e2 v hv)).1
 ·intro s hs zY;obtain⟨i,hi⟩:=cz hs;obtain⟨x,hx⟩:=back i s hi;obtain⟨s',e1,_,e3⟩:=g i x hx;rw[hi]at e1;cases e1;rw[e3]at zY⊢;have hw:x.word=sU:=beq_iff_eq.mp zY;rcases(wf x (br hx)).fm with⟨a1,a2,a3⟩|⟨a1,a2,a3⟩
  ·simp only[a1,a2,a3];exact⟨rfl,rfl,rfl⟩
  rw[hw]at a1;rcases a1 with a1|a1<;>exact absurd a1 (by decide)
 ·intro s hs;obtain⟨i,hi⟩:=cz hs;obtain⟨x,hx⟩:=back i s hi;obtain⟨s',e1,_,e3⟩:=g i x hx;rw[hi]at e1;cases e1;rw[e3];show(x.ops.map _).length<=4;rw[aV];exact(wf x (br hx)).j8
 intro s hs zY;obtain⟨i,hi⟩:=cz hs;obtain⟨x,hx⟩:=back i s hi;obtain⟨s',e1,_,e3⟩:=g i x hx;rw[hi]at e1;cases e1;rw[e3]at zY⊢;show 1<=(x.ops.map _).length;rw[aV];rcases(wf x (br hx)).fm with⟨a1,a2,a3⟩|⟨a1,a2,a3,_⟩
 ·have zY:(x.word==sU)=af:=zY;rw[a1]at zY;cases zY
 exact a3
def pgF(a b:V):aq:=[("statements",a),("operands",b)]
structure FH(K:aY)(C:Addr):Prop where
 cl:Gq K C
 n1:eV K C "statements"
 n2:eV K C "operands"
inductive jz(CS CP:Addr)(H:Hp)(a:Addr)(p:aO):Prop
 |mk (dx:_) (ls:_) (lo:_) (bs:_) (os:_) (_:H a=aa (.ins CP dx (pgF (.ref ls) (.ref lo)))) (_:H ls=aa (.lst (bs.map V.ref))) (_:wD CS H bs (p.map (md p))) (_:H lo=aa (.lst (os.map V.ref))) (_:EZ H os (p.map fun s=>s.uses))
theorem EZ.same{H H':Hp}{os:ag}{uss:List (List Nat)}(h:EZ H os uss)(s:bH H H'):EZ H' os uss:=Paired.sI h fun _ _ z=>s _ _ z
theorem jz.same{CS CP:Addr}{H H':Hp}{a:Addr}{p:aO}(h:jz CS CP H a p)(s:bH H H'):jz CS CP H' a p:=
 let⟨dx,ls,lo,bs,os,h1,h2,h3,h4,h5⟩:=h
 ⟨dx,ls,lo,bs,os,s _ _ h1,s _ _ h2,wD.same h3 s,s _ _ h4,EZ.same h5 s⟩
inductive G4(C:Addr)(vs:ao)(H:Hp)(Q:VK)(z':XK):Prop
 |mk (a dx:Addr) (v1 v2:V) (_:vs=[.ref a,v1,v2]) (_:H a=aa (.ins C dx [])) (_:Q .j7 (upd H a (.ins C dx (pgF v1 v2))))
theorem agf{C:Addr}{H:Hp}{v1 v2:V}{Q:VK}(h:∀a dx H',bH H H'->H' a=aa (.ins C dx (pgF v1 v2))->Q (.ref a) H'):
 ∀x dx,H x=ab->H dx=ab->dx≠x->G4 C (.ref x::([v1,v2]++[])) (upd (upd H dx (.own x)) x (.ins C dx [])) (fun v H2=>v=.j7/\Q (.ref x) H2) E0:=fun x dx hx hd ne=>
 ⟨x,dx,v1,v2,rfl,bf,rfl,h x dx _ (fun b o z=>by rw[jj,bB (bP z hx),bB (bP z hd)];exact z) (by rw[bf])⟩
def yp(E:XK)(H:Hp)(CL CW CN:Addr)(e:Nat×Nat):Prop:=if e.1=1 then jv E H CL [("number",.int (-1))]else if e.1=2 then jv E H CW (z8 e.2)else jv E H CN (TB e.2)
inductive QX(K:aY)(CS CP CL CW CN:Addr)(vs:ao)(H:Hp)(Q:VK)(E:XK):Prop
 |mk (a:Addr) (t:List Nat) (_:vs=[.ref a]) (_:dw K H a (tx t)) (_:t.length<=100000) (_:match eF t with
 |.error e=>yp E H CL CW CN e
 |.ok p=>um p->∀b H',bH H H'->jz CS CP H' b p->Q (.ref b) H')
theorem jv.on{E:XK}{H H1:Hp}{C:Addr}{fs:aq}(h:jv E H C fs)(s:bH H H1):jv E H1 C fs:=fun a dx H' sx=>h a dx H' (s.trans sx)
theorem Fp{f C:Addr}{fd:bC}(F:iG K "__init__" "Program.__init__" rJ f fd)(T:FH K C):dy P w K mg base eM 1 f fd Th (G4 C):=by
 refine F.ok Fe fun fz A outer s H vs Q E hr h=>?_;obtain⟨a,dx,v1,v2,rfl,ha,q⟩:=h;refine⟨_,bh (lC (pv 0) (pv 1) rfl) (bj (lC (pv 0) (pv 2) rfl)),?_⟩;refine⟨_,rfl,_,rfl,a,C,dx,_,rfl,ha,T.cl,T.n1,(by show 0<1000;decide),?_⟩;refine⟨_,rfl,_,rfl,a,C,dx,_,rfl,bf,T.cl,T.n2,(by show 1<1000;decide),?_⟩;rw[jj];exact q
theorem Fg{f CS CP CL CW CN:Addr}{fd:bC}(F:iG K "read_program" "read_program" rC f fd)(hl:mg "len"=ab)(hL:∃t,mg "TEXT_LIMIT"=aa (.int 4096 t))(ML:Ec P w K mg base "TooLong" CL dS (iL K (-1)))
 (Cs:Fn P w K mg base (k7 P w) 8 "read_statements" ["text"] (S3 K CW CS))(Cf:Fn P w K mg base (k7 P w) 4 "find_operands" ["statements"] (WQ CS CN))(MP:Mc P w K mg base 1 "Program" CP Th (G4 CP)):
 dy P w K mg base (k7 P w) 9 f fd ["text"] (QX K CS CP CL CW CN):=by
 refine DV F wo fun fz A outer s H vs Q E hr h=>?_
 obtain⟨a,t,rfl,hT,hz,q⟩:=h
 refine⟨_,bh (d9 (cS zX (dD cJ (by rfl) hl cx (aQ (pv 0) bq)) (iE (by rfl) hL) (dg _)) (bj (kK k6 rfl (ug ML (hr.mono (by decide)) (by rfl)))) cT)
  (bh (jB 1 wo.nd (rN Cs k6 hr (by rfl) (aQ (pv 0) bq)))
  (bj (cf (EN MP (hr.mono (by decide)) (by rfl) (aQ (pv 1) (aQ (rN Cf k6 (hr.mono (by decide)) (by rfl) (aQ (pv 1) bq)) bq)))))),?_⟩
 refine⟨_,rfl,a,_,rfl,.inl hT,_,_,rfl,rfl,_,rfl,?_⟩
 have lt:((tx t).length:Int)=(t.length:Int):=by unfold tx;rw[aV]
 rw[lt]
 unfold eF at q
 by_cases h4:4096<t.length
 ·rw[qk (show(4096:Int)<(t.length:Int)by omega)]
  rw[da h4]at q
  exact dM (j4 ML q)
 rw[gX (show¬(4096:Int)<(t.length:Int)by omega)]
 rw[cQ h4,aeI]at q
 refine cE ⟨_,rfl,a,t,rfl,hT,hz,?_⟩
 cases ha:allI (toks t (skip t 0))with
 |error e=>
  rw[ha]at q
  exact q
 |ok xs=>
  rw[ha]at q
  obtain⟨wf,fi,j8⟩:=aa1 ha
  intro ls bs H1 s1 l5 sa
  refine⟨_,rfl,_,rfl,ls,bs,xs,rfl,l5,sa,by omega,fun x hx=>cR (wf x hx).j8 (by decide),?_⟩
  have q:match(match gy (xs.map TS.told) [] []with|.error n=>Dk (3,n)|.ok p=>lX p:Except (Nat×Nat) aO)with
   |.error e=>yp E H CL CW CN e
   |.ok p=>um p->∀b H',bH H H'->jz CS CP H' b p->Q (.ref b) H':=q
  cases hr:gy (xs.map TS.told) [] []with
  |error n=>
   rw[hr]at q
   have q:jv E H CN (TB n):=q
   exact q.on s1
  |ok p=>
   rw[hr]at q
   obtain⟨ex,pw⟩:=OI wf fi j8 hr
   intro lo os H2 s2 D6 oa
   refine agf fun b dx H3 s3 hb=>q pw b H3 ((s1.trans s2).trans s3) ⟨dx,ls,lo,bs,os,hb,s3 _ _ (s2 _ _ l5),?_,s3 _ _ D6,oa.same s3⟩
   rw[ex]
   exact wD.same sa (s2.trans s3)
theorem aaw{K:aY}{a:Addr}{xs:ao}{g:TG}{tt:TT}{te:TE}{vs:List Nat}{σ:L2.St}{H1:Hp}{D:Addr}{Qd:Hp->Prop}(Pv:Nat->Hp->Prop)(h0:Pv 0 (upd H1 D (.lst [])))(hl:∀i H,i<=xs.length->Pv i H->dw K H a xs)
 (hs:∀i x H T,xs[i]?=aa x->Pv i H->H T=ab->g (.ref T) (wipe σ vs) (upd H T (.tup [.int (i:Nat),x])) fun σ2 H2=>wipe σ2 vs=wipe σ vs/\tt σ2 H2 fun b H3=>
  if b=ae then te σ2 H3 fun y H4=>∃acc,H4 D=aa (.lst acc)/\acc.length<bz/\Pv (i+1) (upd H4 D (.lst (acc++[y])))else Pv (i+1) H3)(hd:∀H,Pv xs.length H->Qd H):
 ∃W:Nat->Nat->Hp->Prop,(∃m,W 0 m (upd H1 D (.lst [])))/\∀i m H,W i m H->
  ((Ite K a).stop i H/\Qd H)\/((Ite K a).go i H/\∃Nx:Hp->Prop,(∀H',Nx H'->∃m',m'<m/\W (i+1) m' H')/\∀x H',(Ite K a).Wh i H x H'->g x (wipe σ vs) H' fun σ2 H2=>wipe σ2 vs=wipe σ vs/\tt σ2 H2 fun b H3=>
   if b=ae then te σ2 H3 fun y H4=>∃acc,H4 D=aa (.lst acc)/\acc.length<bz/\Nx (upd H4 D (.lst (acc++[y])))else Nx H3):=by
 refine⟨fun i m H=>m=xs.length-i/\i<=xs.length/\Pv i H,⟨xs.length,by simp,cC _,h0⟩,?_⟩
 rintro i m H ⟨rfl,hi,p⟩
 have q:=hl i H hi p
 by_cases zy:i<xs.length
 ·refine .inr ⟨⟨xs,xs[i],q,by simp[zy]⟩,Pv (i+1),fun H' p'=>⟨xs.length-(i+1),by omega,rfl,zy,p'⟩,fun x H' y=>?_⟩
  obtain⟨T,x,e,hT,e2,y⟩:=y
  subst e e2
  exact hs i x _ T (y xs q) p hT
 have e:i=xs.length:=by omega
 subst e
 exact .inl ⟨⟨xs,q,bu _⟩,hd H p⟩
theorem uL{α β:Type}{F:α->β->Prop}:∀{l:List α}{m:List β}{i:Nat}{b:β},fM F l m->m[i]?=aa b->∃a,l[i]?=aa a/\F a b
 |_,_,_,_,.nil,h=>by simp at h
 |_,_,0,_,.cons r t,h=>by
  simp at h;subst h;exact⟨_,rfl,r⟩
 |_,_,i+1,_,.cons r t,h=>by
  have:=uL t (i:=i) (by simpa using h);simpa using this
theorem jO{a b:V}:(pgF a b).lookup ("statements":Str)=aa a:=rfl
theorem Tn{a b:V}:(pgF a b).lookup ("operands":Str)=aa b:=rfl
theorem Wz{a b c d e:V}:(UD a b c d e).lookup ("name":Str)=aa b:=rfl
theorem iN{a b c d e:V}:(UD a b c d e).lookup ("length":Str)=aa c:=rfl
theorem Lx{a b c d e:V}:(UD a b c d e).lookup ("way":Str)=aa d:=rfl
theorem ZX{a b c d e:V}:(UD a b c d e).lookup ("operand_names":Str)=aa e:=rfl
theorem F5{CS:Addr}{H:Hp}{bs:ag}{p:aO}{i:Nat}{s:dz}(h:wD CS H bs (p.map (md p)))(hs:p[i]?=aa s):∃b,bs[i]?=aa b/\Np CS H b (md p s):=
 uL h (by rw[bL,hs];rfl)
theorem yG(t w:List Nat):decide (V.str (st t)=V.str (st w))=decide (t=w):=by
 rw[decide_eq_decide];exact⟨fun h=>GP (V.str.inj h),fun h=>by rw[h]⟩
theorem FZ(p:aO)(s:dz):decide (V.str (st (md p s).word)=V.str "in")=s.input:=by
 have e:(V.str "in")=V.str (st sU):=rfl;rw[e,yG];unfold md;cases s.input with
 |true=>rfl
 |false=>cases s.out<;>rfl
theorem N8(p:aO)(s:dz)(h:s.input=ae->s.out=af):decide (V.str (st (md p s).word)=V.str "out")=s.out:=by
 have e:(V.str "out")=V.str (st o9):=rfl;rw[e,yG];unfold md;cases hi:s.input with
 |true=>rw[h hi];rfl
 |false=>cases s.out<;>rfl
theorem ZI(p:aO)(s:dz):decide (V.str (st (md p s).way)=V.str "map")=(!s.input&& !s.turn):=by
 have e:(V.str "map")=V.str (st Bo):=rfl;rw[e,yG];unfold md;cases s.input with
 |true=>rfl
 |false=>cases s.turn<;>rfl
theorem Wi(p:aO)(s:dz):decide (V.str (st (md p s).way)=V.str "turn")=(!s.input&&s.turn):=by
 have e:(V.str "turn")=V.str (st oW):=rfl;rw[e,yG];unfold md;cases s.input with
 |true=>rfl
 |false=>cases s.turn<;>rfl
theorem vK{α:Type}(n:Nat)(f:Nat->Bool):(bw (n+1)).filter f=(bw n).filter f++(if f n=ae then[n]else[]):=by
 rw[fe,kO];congr 1;by_cases h:f n=ae
 ·rw[da h,fE h,k8]
 rw[cQ h,gM h,k8]
inductive w9(CS CP:Addr)(vs:ao)(H:Hp)(Q:VK)(z':XK):Prop
 |mk (a:Addr) (p:aO) (_:vs=[.ref a]) (_:jz CS CP H a p) (_:p.length<=24) (_:∀l H',H l=ab->bH H H'->H' l=aa (.lst (tx (dv p)))->Q (.ref l) H')
theorem DT{f CS CP:Addr}{fd:bC}(F:iG K "input_numbers" "input_numbers" qx f fd)(S:FG K CS)(G:FH K CP)(KW:mg "enumerate"=ab):dy P w K mg base eM 1 f fd jV (w9 CS CP):=by
 refine F.ok uH fun fz A outer s H vs Q E hr h=>?_;obtain⟨a,p,rfl,pa,j8,k⟩:=h;obtain⟨dp,ls,lo,bs,os,ha,l5,sa,D6,oa⟩:=id pa;have nd:=uH.nd
 refine⟨_,bj (cf (KH (own:=[("number",1),("statement",2)]) (g:=ag1 K 2 (Ym (zZ 1) (Ym (zZ 2) ag2))) (tt:=SS (tOp rEq (ZN K (Am 2) "word") (tC (.str "in")))) rfl nd (pN (by rfl) KW (aQ (cw (pv 0) rfl) bq)) (rZ (by rfl))
  (fun s H C cl fp=>qA rfl (fq (o3 1 nd) (fq (o3 2 nd) mE)))
  (fun s H C cl fp=>LP (cS iY (cw (pv 2) rfl) eO (dg _))) (fun s H C cl fp=>pv 1))),?_⟩
 refine⟨_,rfl,a,CP,dp,_,_,rfl,ha,G.cl,G.n1,jO,ls,_,rfl,dw.of l5,fun D hD=>?_⟩
 have le:bs.length=p.length:=by
  have:=dO sa;rw[aV]at this;exact this
 refine aaw (xs:=bs.map V.ref) (fun i G=>bH H G/\G D=aa (.lst (tx ((bw i).filter fun a=>((p[a]?).map fun s=>s.input).getD af)))) ⟨bH.new hD,bf⟩ ?_ ?_ ?_
 ·rintro i G _ ⟨sg,_⟩;exact dw.of (sg _ _ l5)
 ·rintro i x G T hx ⟨sg,hG⟩ hT
  have hi:i<p.length:=by
   have:=(aZ.mp hx).1;rw[aV,le]at this;exact this
  obtain⟨s,hs⟩:∃s,p[i]?=aa s:=⟨_,bF hi⟩;obtain⟨b,hb,db,lb,e1,e2⟩:=F5 sa hs
  have ex:x=.ref b:=by
   rw[iw hb]at hx;exact(bT hx).symm
  subst ex;have sT:bH G (upd G T (.tup [.int (i:Nat),.ref b])):=bH.new hT;have s3:=sg.trans sT;refine⟨T,_,rfl,wF.of bf,rfl,_,_,rfl,_,_,rfl,rfl,rfl,?_⟩;refine⟨_,rfl,b,CS,db,_,_,rfl,s3 _ _ e1,S.cl,S.n1,nY,rfl,_,rfl,?_⟩;rw[FZ,vK (α:=Nat)];have gi:(((p[i]?).map fun s=>s.input).getD af)=s.input:=by rw[hs];rfl
  rw[gi];cases zY:s.input with
  |true=>
   refine dM ⟨_,rfl,_,sT _ _ hG,?_,bH.put hD s3,?_⟩
   ·unfold tx;rw[aV,bZ];have:=qj (fun a=>((p[a]?).map fun s=>s.input).getD af) (bw i);rw[b8]at this;omega
   rw[bf];unfold tx;rw[da rfl,cg];rfl
  |false=>
   refine cE ⟨s3,?_⟩;rw[cQ (by decide),cp];exact sT _ _ hG
 rintro G ⟨sg,hG⟩;rw[aV,le]at hG;exact k D G hD sg hG
end SR
end
section
namespace SR
open PySem PySem.Spec PyProof.Rows L2 XL
open TL (tl mw F0 join_eq)
variable{P:bY}{w:cX}{K:aY}{mg:aj}{base:Heap}
theorem int_text:∀n:Nat,n<65->(jf (toString ((n:Nat):Int)):Str)=st (fI n):=by decide+kernel
def wordsOf(x:TS):List (List Nat):=[x.word,x.name,fI x.len]++(if x.word=sU then[]else[[61],x.way]++x.ops)
def oo(x:TS):List Nat:=mw [32] (wordsOf x)++[59,10]
theorem SO(a:List Nat):tl (st a)=a:=by
 unfold tl st;rfl
theorem abE(x:Str):st (tl x)=x:=by
 unfold tl st;rfl
theorem Mm(ws:List (List Nat)):qY (st [32]) (ws.map st)=st (mw [32] ws):=by
 rw[join_eq,<-abE (pG (st [32]) (ws.map st)),F0,SO,dC];congr 2;have:(tl∘st)=id:=funext fun a=>SO a;rw[this,qN]
theorem Lu(ws:List (List Nat)):fQ ws=(ws.map st).map V.str:=by
 unfold fQ;rw[dC];rfl
theorem QQ{k:Nat}:∀{l:List Nat},(∀x∈l,x<=k)->l.sum<=k*l.length
 |[],_=>cC _
 |x::l,h=>by
  have h1:=QQ (l:=l) fun y hy=>h y (bD _ hy);have h2:=h x (bO ..);rw[List.sum_cons,cK,Nat.mul_add];omega
theorem Ie:∀(l:List (List Nat)),(∀z∈l,z.length<=16)->(mw [32] l).length<=17*l.length
 |[],_=>cC _
 |[p],h=>by
  have:=h p (bU.mpr rfl);show p.length<=17*1;omega
 |p::q::r,h=>by
  have h1:=Ie (q::r) fun z hz=>h z (bD _ hz);have h2:=h p (bO ..);show(p++([32]++mw [32] (q::r))).length<=17*(r.length+1+1);rw[bR,bR];have h1:(mw [32] (q::r)).length<=17*(r.length+1):=h1;show p.length+(1+_)<=_;omega
structure Nq(x:TS):Prop where
 len:x.len<=64
 w:x.word.length<=16
 n:x.name.length<=16
 y:x.way.length<=16
 o:x.ops.length<=4
 u:∀z∈x.ops,z.length<=16
theorem Vw:∀n,n<65->(fI n).length<=16:=by decide+kernel
theorem EE{x:TS}(h:Nq x):(∀z∈wordsOf x,z.length<=16)/\(wordsOf x).length<=9:=by
 have d:=Vw x.len (by have:=h.len;omega)
 have b:∀z∈[x.word,x.name,fI x.len],z.length<=16:=fun z hz=>by
  simp only[bQ,kh,or_false]at hz;rcases hz with rfl|rfl|rfl
  ·exact h.w
  ·exact h.n
  exact d
 unfold wordsOf;by_cases hw:x.word=sU
 ·rw[da hw,cp];exact⟨b,(by show 3<=9;decide)⟩
 rw[cQ hw];constructor
 ·intro z hz;rcases d7.mp hz with q|q
  ·exact b z q
  rcases d7.mp q with q|q
  ·simp only[bQ,kh,or_false]at q;rcases q with rfl|rfl
   ·decide
   exact h.y
  exact h.u z q
 rw[bR,bR];have:=h.o;show 3+(2+x.ops.length)<=9;omega
inductive Ow(CS:Addr)(vs:ao)(H:Hp)(Q:VK)(z':XK):Prop
 |mk (b:Addr) (x:TS) (_:vs=[.ref b]) (_:Np CS H b x) (_:Nq x) (_:∀H',bH H H'->Q (.str (st (oo x))) H')
theorem AA{f CS:Addr}{fd:bC}(F:iG K "plain_statement" "plain_statement" n6 f fd)(S:FG K CS)(KS:mg "str"=ab):dy P w K mg base eM 1 f fd ["statement"] (Ow CS):=by
 refine F.ok rq fun fz A outer s H vs Q E hr h=>?_;obtain⟨b,x,rfl,sa,sm,k⟩:=h;obtain⟨db,lo,hb,D6⟩:=id sa;have nd:=rq.nd
 refine⟨_,bh (jB 1 nd (eB (aQ (cw (pv 0) rfl) (aQ (cw (pv 0) rfl) (aQ (pE Na (by rfl) KS (by decide+kernel) (aQ (cw (pv 0) rfl) bq)) bq)))))
  (bh (d9 (cS wz (cw (pv 0) rfl) eO (dg _))
   (bh (dN (mq cj gu gd pF (pv 1) (aQ (eB (aQ eO (aQ (cw (pv 0) rfl) bq))) bq)))
   (bj (dN (mq cj gu gd pF (pv 1) (aQ (cw (pv 0) rfl) bq))))) cT)
  (bj (cf (fZ Rf (LR eO (pv 1)) eO)))),?_⟩
 refine⟨_,rfl,b,CS,db,_,_,rfl,hb,S.cl,S.n1,nY,_,rfl,b,CS,db,_,_,rfl,hb,S.cl,S.n2,Wz,_,rfl,b,CS,db,_,_,rfl,hb,S.cl,S.n3,iN,_,rfl,?_,by show 3<=bz;decide,fun l hl=>?_⟩
 ·show x.len.log2<1920;have:=Nat.log2_le_self x.len;have:=sm.len;omega
 have lt:=int_text x.len (by have:=sm.len;omega);have s1:bH H (upd H l (.lst (fQ [x.word,x.name,fI x.len]))):=bH.new hl;have eL:(HO.lst [V.str (st x.word),V.str (st x.name),V.str (jf (toString ((x.len:Nat):Int)))])=HO.lst (fQ [x.word,x.name,fI x.len]):=by rw[lt];rfl
 obtain⟨ws1,ws2⟩:=EE sm
 have z1:(((wordsOf x).map st).map (·.length)).sum+((wordsOf x).map st).length*(" ":Str).length<=16777216:=by
  have h1:(((wordsOf x).map st).map (·.length)).sum<=16*(((wordsOf x).map st).map (·.length)).length:=QQ fun n hn=>by
   obtain⟨y,hy,rfl⟩:=di.mp hn;obtain⟨z,hz,rfl⟩:=di.mp hy;exact ws1 z hz
  rw[aV,aV]at h1;rw[aV,show(" ":Str).length=1 from rfl];omega
 have z2:(st (mw [32] (wordsOf x))).length+(";\n":Str).length<=bz:=by
  rw[show(st (mw [32] (wordsOf x))).length=(mw [32] (wordsOf x)).length from rfl,show(";\n":Str).length=2 from rfl,bZ];have:=Ie (wordsOf x) ws1;omega
 have q1:∀H',bH H H'->Q (.str (qY " " ((wordsOf x).map st)++";\n")) H':=fun H' sx=>by
  have e:qY (" ":Str) ((wordsOf x).map st)=st (mw [32] (wordsOf x)):=Mm _;have e2:st (mw [32] (wordsOf x))++(";\n":Str)=st (oo x):=Wx _ [59,10];rw[e,e2];exact k H' sx
 rw[eL];refine⟨_,rfl,b,CS,db,_,_,rfl,s1 _ _ hb,S.cl,S.n1,nY,rfl,_,rfl,?_⟩;rw[X6];by_cases hw:x.word=sU
 ·rw[qk hw]
  have ew:wordsOf x=[x.word,x.name,fI x.len]:=by
   unfold wordsOf;rw[da hw,cp]
  refine cE ⟨⟨_,rfl⟩,_,rfl," ",l,(wordsOf x).map st,rfl,rfl,.inl (dw.of ?_),z1,_,_,rfl,rfl,?_,q1 _ s1⟩
  ·rw[bf,<-Lu,ew]
  have e:qY (" ":Str) ((wordsOf x).map st)=st (mw [32] (wordsOf x)):=Mm _;rw[e];exact z2
 rw[gX hw]
 have ew:wordsOf x=[x.word,x.name,fI x.len]++[[61],x.way]++x.ops:=by
  unfold wordsOf;rw[cQ hw,de]
 refine dM ⟨_,rfl,.inl ⟨rfl,_,dw.of bf⟩,_,rfl,b,CS,db,_,_,rfl,s1 _ _ hb,S.cl,S.n4,Lx,by show 2<=bz;decide,fun l2 uw=>?_⟩;have nl:l2≠l:=fun z=>by rw[z,bf]at uw;cases uw
 have nlo:lo≠l:=fun z=>by rw[z,hl]at D6;cases D6
 have ajl:(fQ [x.word,x.name,fI x.len]).length+([V.str "=",V.str (st x.way)]:ao).length<=bz:=by
  show 3+2<=bz;decide
 refine⟨l,l2,_,_,rfl,rfl,by rw[bB (dh nl),bf],bf,ajl,?_⟩;generalize Yg:upd (upd (upd H l (.lst (fQ [x.word,x.name,fI x.len]))) l2 (.lst [V.str "=",V.str (st x.way)])) l (.lst (fQ [x.word,x.name,fI x.len]++[V.str "=",V.str (st x.way)]))=H2
 have s2:bH H H2:=by
  rw[<-Yg];exact bH.put hl (s1.trans (bH.new uw))
 have hl3:H2 l=aa (.lst (fQ [x.word,x.name,fI x.len]++[V.str "=",V.str (st x.way)])):=by rw[<-Yg,bf]
 have so:=sm.o;refine⟨_,rfl,.inl ⟨rfl,_,dw.of hl3⟩,_,rfl,b,CS,db,_,_,rfl,s2 _ _ hb,S.cl,S.n5,ZX,l,lo,_,_,rfl,rfl,hl3,s2 _ _ D6,?_,?_⟩
 ·show 5+(fQ x.ops).length<=bz;rw[show(fQ x.ops).length=x.ops.length from aV _,bZ];omega
 have s3:bH H (upd H2 l (.lst (fQ [x.word,x.name,fI x.len]++[V.str "=",V.str (st x.way)]++fQ x.ops))):=bH.put hl s2;refine⟨⟨_,rfl⟩,_,rfl," ",l,(wordsOf x).map st,rfl,rfl,.inl (dw.of ?_),z1,_,_,rfl,rfl,?_,q1 _ s3⟩
 ·rw[bf,<-Lu,ew];unfold fQ;rw[cg,cg];rfl
 have e:qY (" ":Str) ((wordsOf x).map st)=st (mw [32] (wordsOf x)):=Mm _;rw[e];exact z2
theorem vO:∀(a:List Nat)(l:List (List Nat)),mw [32] (a::l)=a++l.flatMap fun u=>32::u
 |a,[]=>(cp a).symm
 |a,b::l=>by
  show a++([32]++mw [32] (b::l))=_;rw[vO b l,iW];rfl
theorem OQ(p:aO)(s:dz):oo (md p s)=Gs p s:=by
 unfold oo Gs wordsOf;have n1:¬o9=sU:=by decide
 have n2:¬sE=sU:=by decide
 have e1:lJ "in "=sU++[32]:=by decide
 have e2:lJ "out "=o9++[32]:=by decide
 have e3:lJ "let "=sE++[32]:=by decide
 have e4:lJ " = "=[32,61,32]:=by decide
 have e5:lJ ";\n"=[59,10]:=by decide
 unfold md;rw[e1,e2,e3,e4,e5,SX,Oo];cases s.input with
 |true=>
  simp only[if_true,cp,vO,iW,qt,de,wJ,nP]
 |false=>
  cases s.out with
  |true=>
   simp only[if_true,if_false,cD,n1,vO,iW,qt,de,wJ,nP,GA]
  |false=>
   simp only[if_true,if_false,cD,n2,vO,iW,qt,de,wJ,nP,GA]
theorem G6{p:aO}(w:um p){s:dz}(hs:s∈p):Nq (md p s):=by
 refine⟨w.len s hs,?_,w.nam s hs,?_,?_,?_⟩
 ·show(if s.input=ae then sU else if s.out=ae then o9 else sE).length<=16;cases s.input<;>cases s.out<;>decide
 ·show(if s.input=ae then[]else if s.turn=ae then oW else Bo).length<=16;cases s.input<;>cases s.turn<;>decide
 ·show(s.uses.map (kY p)).length<=4;rw[aV];exact w.ops s hs
 intro z hz;obtain⟨u,hu,rfl⟩:=di.mp hz;unfold kY;cases hq:p[u]? with
 |none=>exact cC _
 |some t=>exact w.nam t (br hq)
theorem KP:∀l:List (List Nat),mw [] l=l.flatten
 |[]=>rfl
 |[a]=>by simp[mw]
 |a::b::l=>by
  show a++([]++mw [] (b::l))=_;rw[KP (b::l)];rfl
theorem X1(ws:List (List Nat)):qY ("":Str) (ws.map st)=st ws.flatten:=by
 have e:("":Str)=st []:=rfl;rw[e,join_eq,<-abE (pG (st []) (ws.map st)),F0,SO,dC];have:(tl∘st)=id:=funext fun a=>SO a;rw[this,qN,KP]
theorem plain_len{x:TS}(h:Nq x):(oo x).length<=200:=by
 obtain⟨a,b⟩:=EE h;unfold oo;rw[bR];have:=Ie _ a;show _+2<=200;omega
inductive S4(CS CP:Addr)(vs:ao)(H:Hp)(Q:VK)(z':XK):Prop
 |mk (a:Addr) (p:aO) (_:vs=[.ref a]) (_:jz CS CP H a p) (_:um p) (_:∀H',bH H H'->Q (.str (st (eZ p))) H')
theorem JC{f CS CP:Addr}{fd:bC}(F:iG K "plain_text" "plain_text" vy f fd)(S:FG K CS)(G:FH K CP)(C1:Fn P w K mg base eM 1 "plain_statement" ["statement"] (Ow CS)):dy P w K mg base eM 2 f fd jV (S4 CS CP):=by
 refine F.ok zN fun fz A outer s H vs Q E hr h=>?_;obtain⟨a,p,rfl,pa,pw,k⟩:=h;obtain⟨dp,ls,lo,bs,os,ha,l5,sa,D6,oa⟩:=id pa;have nd:=zN.nd
 refine⟨_,bj (cf (LR eO (KH (own:=[("statement",1)]) rfl nd (fT (cw (pv 0) rfl)) (rZ (by rfl)) (fun s H C cl fp=>o3 1 nd) (fun s H C cl fp=>Gb)
  (fun s H C cl fp=>dJ C1 hr (by rfl) (aQ (pv 1) bq))))),?_⟩
 refine⟨⟨_,rfl⟩,_,rfl,a,CP,dp,_,_,rfl,ha,G.cl,G.n1,jO,ls,rfl,⟨_,dw.of l5⟩,fun D hD=>?_⟩
 have le:bs.length=p.length:=by
  have:=dO sa;rw[aV]at this;exact this
 refine BX (xs:=bs.map V.ref) (fun i G=>bH H G/\G D=aa (.lst (fQ ((p.take i).map fun s=>oo (md p s))))) ⟨bH.new hD,bf⟩ ?_ ?_ ?_
 ·rintro i G _ ⟨sg,_⟩;exact dw.of (sg _ _ l5)
 ·rintro i x G hx ⟨sg,hG⟩
  have hi:i<p.length:=by
   have:=(aZ.mp hx).1;rw[aV,le]at this;exact this
  obtain⟨s,hs⟩:∃s,p[i]?=aa s:=⟨_,bF hi⟩;obtain⟨b,hb,z⟩:=F5 sa hs
  have ex:x=.ref b:=by
   rw[iw hb]at hx;exact(bT hx).symm
  subst ex;refine⟨rfl,?_⟩;unfold UB;refine dM ⟨_,rfl,b,md p s,rfl,z.same sg,G6 pw (br hs),fun G2 s2=>?_⟩;refine⟨_,s2 _ _ hG,?_,bH.put hD (sg.trans s2),?_⟩
  ·unfold fQ;rw[aV,aV,dX,bZ];have:=pw.j8;omega
  rw[bf,take_snoc hs];unfold fQ;rw[cg,cg];rfl
 rintro G ⟨sg,hG⟩;rw[aV,le,dA]at hG
 have e1:qY ("":Str) ((p.map fun s=>oo (md p s)).map st)=st (eZ p):=by
  rw[X1];unfold eZ;rw[List.flatMap_def];congr 2;exact dk fun s _=>OQ p s
 refine⟨"",D,(p.map fun s=>oo (md p s)).map st,rfl,rfl,.inl (dw.of ?_),?_,?_⟩
 ·rw[hG,<-Lu]
 ·have h1:(((p.map fun s=>oo (md p s)).map st).map (·.length)).sum<=200*(((p.map fun s=>oo (md p s)).map st).map (·.length)).length:=QQ fun n hn=>by
   obtain⟨y,hy,rfl⟩:=di.mp hn;obtain⟨z,hz,rfl⟩:=di.mp hy;obtain⟨s,hs,rfl⟩:=di.mp hz;exact plain_len (G6 pw hs)
  rw[aV,aV,aV]at h1;rw[aV,aV,show("":Str).length=0 from rfl];have:=pw.j8;omega
 rw[e1];exact k G sg
end SR
end
section
namespace sP
open PySem
def Qo(l:List Nat):Prop:=l.Pairwise (· <·)
theorem YI(xs:Array Nat)(j:Nat):∀(fuel lo hi:Nat),Qo xs.toList->lo<=hi->hi<=xs.size->hi-lo<=fuel->
 (∀k x,k<lo->xs[k]?=aa x->x<j)->(∀k x,hi<=k->xs[k]?=aa x->j<=x)->
 ∃r,Ka xs j fuel lo hi=r/\r<=xs.size/\(∀k x,k<r->xs[k]?=aa x->x<j)/\(∀k x,r<=k->xs[k]?=aa x->j<=x):=by
 intro fuel
 induction fuel with
 |zero=>
  intro lo hi _ h1 h2 h3 a b
  have e:lo=hi:=by omega
  subst e
  exact⟨lo,rfl,h2,a,b⟩
 |succ f ih=>
  intro lo hi ri h1 h2 h3 a b
  unfold Ka
  by_cases hl:lo<hi
  ·rw[da hl]
   have hm:(lo+hi)/2<xs.size:=by omega
   have gm:xs.getD ((lo+hi)/2) j=xs[(lo+hi)/2]:=by simp[C0,hm]
   have gq:xs[(lo+hi)/2]?=aa xs[(lo+hi)/2]:=by simp[hm]
   dsimp only
   rw[gm]
   have mono:∀{p q x y:Nat},p<q->xs[p]?=aa x->xs[q]?=aa y->x<y:=fun{p q x y} hpq hx hy=>by
    rw[<-eK]at hx hy;obtain⟨l1,e1⟩:=aZ.mp hx;obtain⟨l2,e2⟩:=aZ.mp hy;have:=fU.mp ri p q l1 l2 hpq;rw[e1,e2]at this;exact this
   by_cases hc:xs[(lo+hi)/2]<j
   ·rw[da hc]
    refine ih _ _ ri (by omega) h2 (by omega) (fun k x hk hx=>?_) b
    rcases jh k ((lo+hi)/2)with q|q
    ·exact mz (mono q hx gq) hc
    have e:k=(lo+hi)/2:=by omega
    subst e
    rw[gq]at hx
    cases hx
    exact hc
   rw[cQ hc]
   refine ih _ _ ri (by omega) (by omega) (by omega) a fun k x hk hx=>?_
   rcases jh ((lo+hi)/2) k with q|q
   ·exact du (oF (Ze.mp hc) (mono q gq hx))
   have e:k=(lo+hi)/2:=by omega
   subst e
   rw[gq]at hx
   cases hx
   exact Ze.mp hc
  rw[cQ hl]
  have e:lo=hi:=by omega
  subst e
  exact⟨lo,rfl,h2,a,b⟩
theorem below_at{xs:Array Nat}(ri:Qo xs.toList)(j:Nat):d4 xs j<=xs.size/\(∀k x,k<d4 xs j->xs[k]?=aa x->x<j)/\(∀k x,d4 xs j<=k->xs[k]?=aa x->j<=x):=by
 obtain⟨r,e,h⟩:=YI xs j xs.size 0 xs.size ri (cC _) (bu _) (by omega) (fun k x hk=>absurd hk (Nat.not_lt_zero _)) fun k x hk hx=>by
  have:=(fJ.mp hx).1;omega
 unfold d4;rw[e];exact h
theorem Se{xs:Array Nat}(ri:Qo xs.toList):d4 xs 0=0:=by
 obtain⟨h1,h2,_⟩:=below_at ri 0;rcases oG (d4 xs 0)with e|e
 ·exact e
 have hs:0<xs.size:=by omega
 exact absurd (h2 0 xs[0] e (by simp[hs])) (Nat.not_lt_zero _)
theorem Sf{xs:Array Nat}(ri:Qo xs.toList){i x:Nat}(hx:xs[i]?=aa x):d4 xs (x+1)=i+1:=by
 obtain⟨h1,h2,h3⟩:=below_at ri (x+1);have hi:=(fJ.mp hx).1;rcases lL (d4 xs (x+1)) (i+1)with q|q|q
 ·have:=h3 i x (by omega) hx;omega
 ·exact q
 have hl:i+1<xs.size:=by omega
 have:=h2 (i+1) xs[i+1] q (by simp[hl])
 have mono:x<xs[i+1]:=by
  obtain⟨l1,e1⟩:=fJ.mp hx;have z:=fU.mp ri i (i+1) (by simpa using l1) (by simpa using hl) (by omega);simp only[zI]at z;rw[e1]at z;exact z
 omega
theorem Q4{xs:Array Nat}(ri:Qo xs.toList){j:Nat}(hj:j∉xs.toList):Qo (SetTable.insertAt xs (d4 xs j) j).toList:=by
 obtain⟨h1,h2,h3⟩:=below_at ri j;rw[SetTable.toList_insertAt];unfold Qo;rw[Um];refine⟨ri.sublist (Zf _ _),?_,fun a ha b hb=>?_⟩
 ·rw[dG];refine⟨fun b hb=>?_,ri.sublist (List.drop_sublist _ _)⟩;obtain⟨k,hk⟩:=cz hb;rw[Di,eK]at hk;have:=h3 _ b (iH _ k) hk;have ne:b≠j:=fun e=>hj (e▸List.mem_of_mem_drop hb);omega
 have la:a<j:=by
  obtain⟨k,hk⟩:=cz ha;have hkl:=(aZ.mp hk).1;rw[dX]at hkl;rw[nI (by omega),eK]at hk;exact h2 k a (by omega) hk
 rcases bQ.mp hb with e|hb
 ·rw[e];exact la
 obtain⟨k,hk⟩:=cz hb;rw[Di,eK]at hk;exact bJ la (h3 _ b (iH _ k) hk)
theorem Kv{t:oU}(ri:Qo t.place.toList){j:Nat}(h:∀i,t.slot j≠ .live i):j∉t.place.toList:=fun hm=>by
 obtain⟨k,hk⟩:=cz hm;rw[eK]at hk;obtain⟨h1,h2,h3⟩:=below_at ri j
 have e:d4 t.place j=k:=by
  rcases lL (d4 t.place j) k with q|q|q
  ·exfalso;have hb:d4 t.place j<t.place.size:=mz q (fJ.mp hk).1;have z:=h3 _ t.place[d4 t.place j] (bu _) (by simp[hb]);obtain⟨l1,e1⟩:=fJ.mp hk;have y:=fU.mp ri (d4 t.place j) k (by simpa using hb) (by simpa using l1) q;simp only[zI]at y;rw[e1]at y;exact absurd y (Ze.mpr z)
  ·exact q
  exact absurd (h2 k j q hk) (gC _)
 apply h (d4 t.place j);unfold SetTable.slot;simp only;rw[e,hk,da (by simp)]
theorem Xe(t:oU)(f:Nat->Int)(h:Int):∀(fuel:Nat)(p:V5)(j:Nat)(d:Option Nat),(∀x,p.dummy=aa x->∀i,t.slot x≠ .live i)->J9 t f h fuel p=aa (.empty j d)->
 (∀i,t.slot j≠ .live i)/\∀x,d=aa x->∀i,t.slot x≠ .live i:=by
 intro fuel
 induction fuel with
 |zero=>intro p j d _ h;cases h
 |succ n ih=>
  intro p j d hd hp
  unfold J9 at hp
  have YS:∀q:V5,(t.advance q).dummy=q.dummy:=fun q=>by
   unfold SetTable.advance;split<;>rfl
  cases hs:t.slot p.j with
  |empty=>
   rw[hs]at hp
   cases hp
   exact⟨fun i z=>(by rw[hs]at z;cases z),hd⟩
  |dummy=>
   rw[hs]at hp
   refine ih _ j d (fun x hx=>?_) hp
   rw[YS]at hx
   cases hx
   intro i z
   rw[hs]at z
   cases z
  |live i=>
   rw[hs]at hp
   dsimp only at hp
   split at hp
   ·cases hp
   refine ih _ j d (fun x hx=>?_) hp
   rw[YS]at hx
   exact hd x hx
theorem Vn{t:oU}(ri:Qo t.place.toList){h:Int}{j:Nat}{b:Bool}(e:t.freeSlot h=aa (j,b)):j∉t.place.toList:=by
 unfold SetTable.freeSlot at e;cases hp:t.probe (fun _=>h+1) h (t.probeStart h)with
 |none=>rw[hp]at e;cases e
 |some m=>
  rw[hp]at e;cases m with
  |candidate _ _ _=>cases e
  |empty k d=>
   dsimp only at e;obtain⟨h1,h2⟩:=Xe t _ h _ _ k d (fun x hx=>by cases hx) hp;cases d with
   |none=>
    cases e;exact Kv ri h1
   |some x=>
    cases e;exact Kv ri (h2 _ rfl)
def TJ(led:Bool)(t:oU):Prop:=t.led=led/\(t.plain=ae->Qo t.place.toList)
theorem TJ.fresh(led:Bool):TJ led (.fresh 0 0 led):=⟨rfl,fun _=>kq⟩
theorem TJ.standIn{led:Bool}{t:oU}(h:TJ led t)(n:Nat):TJ led (t.standIn n):=⟨h.1,fun z=>by cases z⟩
theorem TJ.layNew{led:Bool}{t:oU}(h:TJ led t)(es:Array (Int×aX))(k:Int)(x:aX):TJ led (layNew t es k x).2.1:=by
 unfold PySem.layNew;cases hf:t.freeSlot k with
 |none=>exact h.standIn _
 |some y=>
  obtain⟨j,b⟩:=y;dsimp only;have hp:TJ led (t.put j).1:=⟨h.1,fun z=>Q4 (h.2 z) (Vn (h.2 z) hf)⟩;unfold SetTable.orStandIn;split
  ·exact hp
  exact hp.standIn _
theorem Jx(n:Nat)(f:Nat->Option Nat):Qo (((bw n).filterMap fun j=>(f j).map (j,·)).map (·.1)):=by
 unfold Qo;rw[jT];refine List.Pairwise.filterMap _ (R:=(· <·)) (fun a b Yf x hx y hy=>?_) Qx;cases ha:f a with
 |none=>rw[ha]at hx;cases hx
 |some u=>
  cases hb:f b with
  |none=>rw[hb]at hy;cases hy
  |some v=>
   rw[ha]at hx;rw[hb]at hy;cases hx;cases hy;exact Yf
theorem TJ.afO{led:Bool}{t:oU}(h:TJ led t)(es:Array (Int×aX))(n:Nat):TJ led (wj t es n).2.1:=by
 unfold wj;cases hr:t.relaid (es.map (·.1)) n with
 |none=>exact h.standIn _
 |some y=>
  obtain⟨t',order⟩:=y;dsimp only;split
  ·unfold SetTable.relaid SetTable.laid at hr;cases ho:SetTable.layClean (Qs n-1) (es.map (·.1))with
   |none=>rw[ho]at hr;cases hr
   |some owner=>
    rw[ho]at hr;cases hr;refine⟨h.1,fun _=>?_⟩;have:=Jx (Qs n-1+1) fun j=>owner.getD j ab;simpa using this
  exact h.standIn _
end sP
end
section
namespace sP
open PySem PySem.Spec PyProof.Rows
section
variable{P:bY}{w:cX}
def qV(P:bY)(w:cX)(h:Heap)(a:Addr)(led:Bool)(S:Int->Bool)(n:Nat):Prop:=
 ∃o es ep t,h.get? a=aa o/\o.ExactSet/\o.data=.set es ep t/\ElemsOf (jQ P w) es.toList/\(∀k,S k=ae↔∃e∈es.toList,(jQ P w).is k e.2=ae)/\es.size<nM/\t.fits es.size=ae/\es.size=n/\TJ led t
theorem qV.keep{h h':Heap}{a:Addr}{led:Bool}{S:Int->Bool}{n:Nat}(x:qV P w h a led S n)(k:∀o,h.get? a=aa o->h'.get? a=aa o):qV P w h' a led S n:=
 let⟨o,es,ep,t,e,r⟩:=x
 ⟨o,es,ep,t,k o e,r⟩
theorem qV.same{h:Heap}{a:Addr}{led:Bool}{S S':Int->Bool}{n n':Nat}(x:qV P w h a led S n)(e:∀k,S k=S' k)(en:n=n'):qV P w h a led S' n':=by
 have z:S=S':=funext e;subst z;subst en;exact x
theorem qV.store{h:Heap}{a:Addr}{o:Obj}{es Vs:Array (Int×aX)}{ep:Nat}{t t':oU}{led:Bool}{S:Int->Bool}(e:h.get? a=aa o)(x:o.ExactSet)(d:o.data=.set es ep t)(el:ElemsOf (jQ P w) Vs.toList)
 (mb:∀k,S k=ae↔∃y∈Vs.toList,(jQ P w).is k y.2=ae)(b:Vs.size<nM)(f:t'.fits Vs.size=ae)(j:TJ led t'):
 (h.update a (Zc Vs t')).get? a=aa {o with data:=.set Vs (ep+1) t'}/\qV P w (h.update a (Zc Vs t')) a led S Vs.size:=by
 obtain⟨g,_⟩:=SetOf_store (knd:=jQ P w) (S':=S) e x d el mb b f
 exact⟨g,_,Vs,ep+1,t',g,x,rfl,el,mb,b,f,rfl,j⟩
variable{A:cZ}{E:ar}{s:a9}
theorem aa3{g:Bool->Sem Unit}(hg:∀(b:Bool)(s₁:a9)(Q':Unit->a9->Prop),Q' () s₁->bM (bK P w) A (g b) Q' E s₁){a:Addr}{o:Obj}{es Af:Array (Int×aX)}{ep:Nat}{t t1:oU}{led b0:Bool}{S:Int->Bool}
 (e:s.heap.get? a=aa o)(x:o.ExactSet)(d:o.data=.set es ep t)(el:ElemsOf (jQ P w) Af.toList)(mb:∀k,S k=ae↔∃y∈Af.toList,(jQ P w).is k y.2=ae)(b:Af.size<nM)(f:t1.fits Af.size=ae)(j:TJ led t1)
 {R:Option Bool->a9->Prop}(h:∀h',kQ a s.heap h'->qV P w h' a led S Af.size->R (aa ae) {s with heap:=h'}):
 bM (bK P w) A (storeSet a Af t1>>=fun _=>if(!b0&&t1.tooFull)=ae then(g (wj t1 Af (iC Af.size)).2.2>>=fun _=>storeSet a (wj t1 Af (iC Af.size)).1 (wj t1 Af (iC Af.size)).2.1>>=fun _=>pure (aa ae))else pure (aa ae)) R E s:=by
 refine aP (wpAny_storeSet_of e d ?_ (fits_of_scanBound b))
 obtain⟨e1,x1⟩:=qV.store e x d el mb b f j
 have sb:=Kb s.heap a (Zc Af t1)
 by_cases hc:(!b0&&t1.tooFull)=ae
 ·rw[da hc]
  have pm:=relayAll_perm t1 Af (iC Af.size)
  have ft:=relayAll_fits t1 Af (iC Af.size)
  have jr:=j.afO Af (iC Af.size)
  generalize wj t1 Af (iC Af.size)=Z at pm ft jr⊢
  obtain⟨es2,t2,gv⟩:=Z
  simp only at pm ft jr⊢
  have sz:es2.size=Af.size:=by rw[<-c7,pm.length_eq,c7]
  have b2:es2.size<nM:=sz▸b
  refine aP (hg _ _ _ (aP (wpAny_storeSet_of e1 rfl ?_ (fits_of_scanBound b2))))
  obtain⟨_,x2⟩:=qV.store (S:=S) e1 x rfl (el.perm pm) (fun k=>(mb k).trans ⟨fun⟨y,hy,q⟩=>⟨y,pm.mem_iff.mpr hy,q⟩,fun⟨y,hy,q⟩=>⟨y,pm.mem_iff.mp hy,q⟩⟩) b2 ft jr
  exact bg (h _ (sb.trans (Kb _ a _)) (x2.same (fun _=>rfl) sz))
 rw[cQ hc]
 exact bg (h _ sb x1)
theorem add_int{a:Addr}{led:Bool}{S:Int->Bool}{n:Nat}{k:Int}{tk:Tok}{Q:Bool->a9->Prop}(hS:qV P w s.heap a led S n)(hr:n+1<nM)
 (h:∀h',kQ a s.heap h'->qV P w h' a led (fun i=>S i||decide (i=k)) (if S k then n else n+1)->Q (!S k) {s with heap:=h'}):
 bM (bK P w) A (setAddHashed a (.int k tk) ((jQ P w).hash k)) Q E s:=by
 obtain⟨o,es,ep,t,e,x,d,el,mb,b,f,en,j⟩:=hS
 have ik:(jQ P w).is k (.int k tk)=ae:=intKind_is _ _ _ _
 unfold setAddHashed setAddHashedIn
 refine d8 (aP (ja e d f ?_))
 simp only
 rw[byScan_of (x:=.int k tk) rfl b el]
 simp only[↓reduceIte]
 unfold setAddByScan
 refine aP (aP (IS (aP (wpAny_setScan_of ik e d f el ?_))))
 cases hr:List.findIdx? (fun y=>(jQ P w).is k y.2) es.toList with
 |some i=>
  simp only
  obtain⟨hi,hp,_⟩:=List.findIdx?_eq_some_iff_getElem.mp hr
  have sk:S k=ae:=(mb k).mpr ⟨_,Gy hi,hp⟩
  refine bg (bg ?_)
  have z:=h s.heap (NK a s.heap) ⟨o,es,ep,t,e,x,d,el,fun i=>by
   rw[yC,decide_eq_true_eq,<-mb i];exact⟨fun q=>q.elim id fun y=>y▸sk,.inl⟩,b,f,by rw[sk];exact en,j⟩
  rw[sk]at z
  exact z
 |none=>
  simp only
  have sk:S k=af:=by
   cases hk:S k with
   |false=>rfl
   |true=>
    obtain⟨y,hy,hp⟩:=(mb k).mp hk;rw[List.findIdx?_eq_none_iff.mp hr y hy]at hp;cases hp
  have pm:=layNew_perm t es ((jQ P w).hash k) (.int k tk)
  have ft:=layNew_fits t es ((jQ P w).hash k) (.int k tk)
  have jn:=j.layNew es ((jQ P w).hash k) (.int k tk)
  generalize layNew t es ((jQ P w).hash k) (.int k tk)=Z at pm ft jn⊢
  obtain⟨Af,t1,b0,gv⟩:=Z
  simp only at pm ft jn⊢
  rw[ED]at pm
  have sz:Af.size=n+1:=by rw[<-c7,pm.length_eq,bR,c7,en];rfl
  have hq:∀h',kQ a s.heap h'->qV P w h' a led (fun i=>S i||decide (i=k)) Af.size->Q ae {s with heap:=h'}:=fun h' sb y=>by
   have z:=h h' sb;rw[sk]at z;exact z (y.same (fun _=>rfl) sz)
  have gg:∀(b:Bool)(s₁:a9)(Q':Unit->a9->Prop),Q' () s₁->bM (bK P w) A (match b with|true=>rule "set.scan.the-table-gave-way"|false=>pure ()) Q' E s₁:=fun b s₁ Q' q=>by
   cases b
   ·exact bg q
   exact IS q
  have fin:bM (bK P w) A (storeSet a Af t1>>=fun _=>if(!b0&&t1.tooFull)=ae then((match(wj t1 Af (iC Af.size)).2.2 with|true=>rule "set.scan.the-table-gave-way"|false=>pure ())>>=fun _=>storeSet a (wj t1 Af (iC Af.size)).1 (wj t1 Af (iC Af.size)).2.1>>=fun _=>pure (aa ae))else pure (aa ae))
   (fun r s'=>bM (bK P w) A (match r with|some added=>pure added|none=>setAddHashedIn a (.int k tk) ((jQ P w).hash k) 99999) Q E s') E s:=
   aa3 gg e x d ((el.push ik rfl).perm pm) (mem_push_iff ik mb pm) (by omega) ft jn fun h' sb y=>bg (hq h' sb y)
  refine aP (gg _ _ _ ?_)
  cases hp:t1.plain with
  |true=>
   simp only[↓reduceIte]
   refine aP ?_
   rw[hashByValue_scannable 8 (x:=.int k tk) rfl]
   refine bg ?_
   exact fin
  |false=>
   simp only[cD,↓reduceIte]
   refine aP (bg ?_)
   simp only[↓reduceIte]
   exact fin
end
def lF(w:cX):Bool:=!w.params.followText "set-order"
section
variable{P:bY}{w:cX}{A:cZ}
theorem WX{R:Ey->a9->Prop}{I:Addr}{fp wr:ag}{G:Array Kc->Array Kc->Prop}{n:Nat}{V:Nat->aX->Prop}{St:Nat->a9->Prop}{led:Bool}(W:WalksS P w A.in1 I fp wr G n V St)(S:Addr)(nS:S∉fp)(val:Nat->Int)
 (hv:∀i v,V i v->∃t,v=.int (val i) t)(j8:n+1<nM):∀(k i:Nat)(s:a9),n-i=k->i<=n->St i s->qV P w s.heap S led (fun z=>(nq val i).any (· ==z)) (nq val i).length->
  (∀s',Moved (S::wr) G s s'->qV P w s'.heap S led (fun z=>(nq val n).any (· ==z)) (nq val n).length->R (.ok (.ret .none)) s')->jA (bK P w) A (.builtin "set.update.loop" ⟨[.ref S,.ref I],[]⟩) R s:=by
 have nW:S∉wr:=fun z=>nS (W.sub _ z)
 intro k
 induction k with
 |zero=>
  intro i s hk hi st hS q
  have e:i=n:=by omega
  subst e
  refine je Up ?_
  rw[iK yA _]
  show bM _ A.in1 (qH (.ref I)>>=_) _ _ s
  refine aP (W.done s _ _ st fun s' mv=>?_)
  show bM _ A.in1 (ret eG) _ _ s'
  exact bg (q s' (mv.mono fun b z=>bD _ z) (hS.keep fun o e=>mv.heap S o nW e))
 |succ k ih=>
  intro i s hk hi st hS q
  have lt:i<n:=by omega
  refine je Up ?_
  rw[iK yA _]
  show bM _ A.in1 (qH (.ref I)>>=_) _ _ s
  refine aP (W.item i s _ _ lt st fun v s' pv GQ mv=>?_)
  obtain⟨t,rfl⟩:=hv i v pv
  have hS':=hS.keep (h':=s'.heap) fun o e=>mv.heap S o nW e
  show bM _ A.in1 (qI [l6 (val i) t] (setAdd S (.int (val i) t))>>=_) _ _ s'
  refine aP (d8 ?_)
  unfold setAdd
  refine d8 (aP ((jQ P w).pyHash (k:=val i) (intKind_is _ _ _ _) ?_))
  have rm:(nq val i).length+1<nM:=by have:=firstMet_length_le val i;omega
  refine add_int (s:={s' with toks:=s'.toks+1}) hS' rm fun h' sb x=>?_
  have y:qV P w h' S led (fun z=>(nq val (i+1)).any (· ==z)) (nq val (i+1)).length:=x.same (fun z=>by rw[VR,step_any]) (by rw[VR,step_length])
  refine bg ⟨oQ yA _,ih (i+1) _ (by omega) lt (W.frame _ s' _ _ GQ (qZ _) fun b hb o e=>?_) y fun s2 m2 y2=>?_⟩
  ·rw[sb.2 b fun z:b=S=>nS (z▸hb)]
   exact e
  refine q s2 (Moved.trans W.gtrans ((mv.mono fun b z=>bD _ z).then_heap (qZ _) fun b o hb e=>?_) m2) y2
  rw[sb.2 b fun z:b=S=>hb (z▸bO)]
  exact e
variable{E:ar}{s:a9}
def Jp(led:Bool):Obj:={cls:=.type "set",dict:=ab,data:=.set #[] 0 (.fresh 0 0 led)}
theorem WW(a:aX){Q:ar}(h:Q (.ref s.heap.objs.size) {s with heap:=s.heap.push (Jp (lF w))}):jA (bK P w) A (.call (.builtin "set.__new__") ⟨[.type "set",a],[]⟩) (wants Q E) s:=by
 refine Bi ?_;show bM _ A.in1 (zD "set.__new__" ⟨[.type "set",a],[]⟩>>=fun _=>again (.builtin "set.__new__" ⟨[.type "set",a],[]⟩)) _ _ s;refine aP (wpAny_of_eq (F.newCall_set_1 a) (bg ⟨oQ NY _,je PySem.F.entry_set_new ?_⟩));rw[iK NY _];unfold Builtin.«set.__new__» abw;have adW:=sub_set_self;obtain⟨hp,g,d,tk,os⟩:=s;simp only;wp_walk;refine Nz (bg ?_);simp only[newObj];exact aP (Eu (bg (bg h)))
theorem qV.start{h:Heap}{a:Addr}{led:Bool}(e:h.get? a=aa (Jp led)):qV P w h a led (fun _=>af) 0:=
 ⟨_,#[],0,.fresh 0 0 led,e,⟨rfl,rfl,rfl⟩,rfl,fun e he=>by simp at he,fun k=>by simp,by decide,rfl,rfl,TJ.fresh led⟩
theorem YB{l:Addr}{its:Array aX}{ns:List Int}{Q:ar}(hh:A.handled=ab)(hl:s.heap.IsList l its)(hi:kf its.toList ns)(j8:its.size+1<nM)
 (h:∀(h':Heap)(tk:Nat),qV P w h' s.heap.objs.size (lF w) (fun z=>(nq (fun i=>ns.getD i 0) its.size).any (· ==z)) (nq (fun i=>ns.getD i 0) its.size).length->(∀b o,s.heap.get? b=aa o->h'.get? b=aa o)->
  Q (.ref s.heap.objs.size) {s with heap:=h',toks:=tk}):bM (bK P w) A (call (.type "set") [.ref l]) Q E s:=by
 obtain⟨c,tl,ajN⟩:=iq.mro
 have agI:=iq.made
 have adW:=iq.sub
 refine m8 (Bi ?_)
 show bM _ _ (callAny (.type "set") _) _ _ _
 refine bg ⟨tK _ (by decide+kernel),je PySem.F.entry_type_call ?_⟩
 rw[Us (weight_type_call_type "set" [.ref l] []) rfl]
 have h1:=iq.notType
 have h2:=iq.canCreate
 have hct:=PySem.F.typeCall_set_1 (.ref l)
 repeat (any_goals (first|assumption|wp_step))
 refine iU (WW (.ref l) (E:=E) (Q:=fun v s₁=>v=.ref s.heap.objs.size/\s₁={s with heap:=s.heap.push (Jp (lF w))}) ⟨rfl,rfl⟩) fun r s₁ hr=>?_
 cases r with
 |error e=>exact hr
 |ok fl=>
  cases fl with
  |next=>exact hr.elim
  |brk=>exact hr.elim
  |cont=>exact hr.elim
  |ret obj=>
   obtain⟨rfl,rfl⟩:=hr
   have g0:(s.heap.push (Jp (lF w))).get? s.heap.objs.size=aa (Jp (lF w)):=bI _ rfl
   have hT:Shared.TypeIs {s with heap:=s.heap.push (Jp (lF w))} (.ref s.heap.objs.size) "set":=⟨_,g0,rfl⟩
   have NP:=iq.init.lookup
   have hbi:=iq.init.bind (.ref s.heap.objs.size)
   repeat (any_goals (first|assumption|wp_step))
   refine iU (kb (R:=wants (fun r s₂=>r=.none/\∃h' tk,s₂={s with heap:=h',toks:=tk}/\
    qV P w h' s.heap.objs.size (lF w) (fun z=>(nq (fun i=>ns.getD i 0) its.size).any (· ==z)) (nq (fun i=>ns.getD i 0) its.size).length/\
    (∀b o,s.heap.get? b=aa o->h'.get? b=aa o)) E) iq.init.plain PySem.F.entry_set_init (check_set_init_1 hT ?_)) fun r₂ s₂ hr₂=>?_
   ·obtain⟨ol,hol,JM,nl,hdl⟩:=hl
    obtain⟨anc,af5,akX,ado⟩:=ol
    simp only at JM hdl
    subst JM;subst hdl
    have ajE:(s.heap.push (Jp (lF w))).get? l=aa {cls:=.type "list",dict:=af5,data:=.seq its nl,slots:=ado}:=ba _ hol
    have anY:=PySem.F.sub_list_set
    have anZ:=PySem.F.sub_list_frozenset
    have Il:(iV "list"==iV "dict")=af:=by decide
    have NQ:(s.heap.push (Jp (lF w))).IsList l its:=⟨_,ajE,rfl,nl,rfl⟩
    have hS1:(s.heap.push (Jp (lF w))).get? s.heap.objs.size=aa {cls:=.type "set",dict:=ab,data:=.set #[] 0 (.fresh 0 0 (lF w))}:=g0
    unfold Builtin.«set.__init__» noKeywords abt
    generalize hPI:So=PI
    wp_walk
    subst hPI
    refine wU NQ (aP (wpAny_runValue ?_))
    have lS:l<s.heap.objs.size:=bG hol
    have hh3:A.in1.in1.in1.handled=ab:=by simp[hh]
    have sz:(s.heap.push (Jp (lF w))).objs.size=s.heap.objs.size+1:=dB _ _
    refine WX ((Walks.list hh3 _ l (by rw[sz];exact ck (eU lS)) its).toS) s.heap.objs.size ?_ (fun i=>ns.getD i 0) (fun i v hv=>yz hi i v (by rw[eK];exact hv)) j8 (its.size-0) 0 _ (by omega) (cC _)
     ⟨⟨_,bI _ rfl,rfl,rfl⟩,(NQ.push _)⟩ (qV.same (qV.start (ba _ g0)) (fun _=>rfl) rfl) ?_
    ·rw[sz]
     simp only[bQ,bU,kh,or_false,not_or]
     exact⟨ck (eQ _),dm lS⟩
    intro s' mv hS'
    obtain⟨h',g',d',tk',os'⟩:=s'
    have eg:g'=s.gens:=mv.gens
    have ed:d'=s.drawn:=mv.drawn
    have eo:os'=s.os:=mv.os
    subst eg ed eo
    show bM _ _ _ _ _ _
    refine bg ?_
    show bM _ _ (ret eG) _ _ _
    refine bg ⟨rfl,h',tk',rfl,hS',fun b o e=>?_⟩
    have hb:=bG e
    refine mv.heap b o ?_ (ba _ (ba _ e))
    rw[sz]
    simp only[bQ,bU,kh,or_false,not_or]
    exact⟨ck hb,ck (eU hb)⟩
   cases r₂ with
   |error e=>exact hr₂
   |ok fl₂=>
    cases fl₂ with
    |next=>exact hr₂.elim
    |brk=>exact hr₂.elim
    |cont=>exact hr₂.elim
    |ret r=>
     obtain⟨rfl,h',tk,rfl,hS',hk'⟩:=hr₂
     repeat (any_goals (first|assumption|wp_step))
     exact h _ _ hS' hk'
end
theorem Hu{α:Type}{l:List α}{i:Nat}{x:α}(h:l[i]?=aa x):(x::l.eraseIdx i).Perm l:=by
 obtain⟨hi,e⟩:=aZ.mp h;rw[List.eraseIdx_eq_take_drop_succ]
 have z:l=l.take i++x::l.drop (i+1):=by
  rw[<-e,<-d5 hi,List.take_append_drop]
 refine EA ZE.symm ?_;rw[<-z]
theorem Z8{α:Type}(f:Nat->Nat):∀(n k:Nat)(l:List α)(out:Array α),l.length=n->(J7 f n k l out).toList.Perm (out.toList++l):=by
 intro n;induction n with
 |zero=>
  intro k l out h;have e:l=[]:=oI.mp h;subst e;unfold J7;rw[cp]
 |succ n ih=>
  intro k l out h;unfold J7;have zy:f k%l.length<l.length:=Ez _ (by omega);have hx:l[f k%l.length]?=aa l[f k%l.length]:=bF zy;rw[hx];simp only;refine(ih (k+1) _ _ (by rw[Lj zy,h];rfl)).trans ?_;rw[ED,de];exact List.Perm.append_left _ (Hu hx)
theorem KG{α:Type}(f:Nat->Nat)(xs:Array α):(pV f xs).toList.Perm xs.toList:=by
 unfold pV;have:=Z8 f xs.size 0 xs.toList #[] (c7);simpa using this
section
variable{P:bY}{w:cX}{A:cZ}{E:ar}
theorem R3{src:Source}{n:Nat}(hn:n≠0){Q:Nat->a9->Prop}{s:a9}(h:∀i d',i<n->Q i {s with drawn:=d'}):bM (bK P w) A (choose src n) Q E s:=
 fun Γ p hΓ=>⟨hn,h _ _ (Ez _ (Zd hn))⟩
theorem RR{α:Type}:∀(n:Nat)(l:List α)(s:a9)(Q:List α->a9->Prop),l.length=n->(∀ys d',ys.Perm l->Q ys {s with drawn:=d'})->bM (bK P w) A (V0 n l) Q E s:=by
 intro n;induction n with
 |zero=>
  intro l s Q h q;have e:l=[]:=oI.mp h;subst e;unfold V0;exact bg (q [] s.drawn (gO _))
 |succ n ih=>
  intro l s Q h q;cases l with
  |nil=>cases h
  |cons a r=>
   generalize hl:a::r=l at h q;have hp:0<l.length:=by omega
   have un:(V0 (n+1) l:Sem (List α))=(choose .order l.length>>=fun i=>match l[i]? with|some x=>(V0 n (l.eraseIdx i)>>=fun t=>pure (x::t))|none=>wW "internal:drawOrder"):=by
    rw[<-hl];rfl
   rw[un];refine aP (R3 (by omega) fun i d' hi=>?_);have hx:l[i]?=aa l[i]:=bF hi;rw[hx];simp only;refine aP (ih (l.eraseIdx i) _ _ (by rw[Lj hi,h];rfl) fun ys d2 pm=>bg ?_);exact q _ d2 ((VU _ pm).trans (Hu hx))
end
theorem Xr:Manifest.owners.lookup (String.ofList ['r','o','t','a','r','e','t','i','_','t','e','s'].reverse)=aa Manifest.sig_set_iterator:=by kernel_rfl
theorem vo:Slot "set_iterator" "__next__" "set_iterator.__next__":=.of (owner:="set_iterator") (n:="__next__") (by rw[Bf,rh];kernel_rfl) (by decide+kernel) (by decide+kernel) (by decide+kernel) (by first|exact .inl (by decide+kernel)|exact .inr (by decide+kernel)) (by rw[Ss];kernel_rfl)
theorem Pz:entryFor table "set_iterator.__next__"=aa Builtin.«set_iterator.__next__»:=entryFor_of_tree (by kernel_rfl)
theorem Ud(a:aX):Y8 "set_iterator.__next__" ⟨[a],[]⟩:=by
 unfold Y8;rw[signature?_of (id:="set_iterator.__next__") (n:=['_','_','t','x','e','n','_','_']) (o:=['r','o','t','a','r','e','t','i','_','t','e','s']) (by kernel_rfl) Xr];kernel_rfl
theorem Ta:Slot "set_iterator" "__iter__" "set_iterator.__iter__":=.of (owner:="set_iterator") (n:="__iter__") (by rw[Bf,rh];kernel_rfl) (by decide+kernel) (by decide+kernel) (by decide+kernel) (by first|exact .inl (by decide+kernel)|exact .inr (by decide+kernel)) (by rw[Ss];kernel_rfl)
theorem Yt:entryFor table "set_iterator.__iter__"=aa Builtin.«dict_keyiterator.__iter__»:=entryFor_alias (id':="dict_keyiterator.__iter__") (by kernel_rfl) rfl (by decide+kernel) (by kernel_rfl)
theorem aaZ(a:aX):Y8 "set_iterator.__iter__" ⟨[a],[]⟩:=by
 unfold Y8;rw[signature?_of (id:="set_iterator.__iter__") (n:=['_','_','r','e','t','i','_','_']) (o:=['r','o','t','a','r','e','t','i','_','t','e','s']) (by kernel_rfl) Xr];kernel_rfl
theorem Ys:entryFor table "set.__iter__"=aa Builtin.«frozenset.__iter__»:=entryFor_alias (id':="frozenset.__iter__") (by kernel_rfl) rfl (by decide+kernel) (by kernel_rfl)
def TV(first:aX)(i:Nat)(a:Addr)(n ep:Nat):Obj:={cls:=.type "set_iterator",data:=.fields #[first,.int i 0,.ref a,.int n 0,.int ep 0]}
section
variable{P:bY}{w:cX}{A:cZ}{E:ar}{s:a9}{I a:Addr}{o:Obj}{es:Array (Int×aX)}{ep i:Nat}{t:oU}{Q:Option aX->a9->Prop}
theorem Hn{Q:PySem.Fin->a9->Prop}(hh:A.handled=ab)(h:∀h' x,(∀b o,s.heap.get? b=aa o->h'.get? b=aa o)->(∃o,h'.get? x=aa o/\o.cls=.type "StopIteration")->E (.ref x) {s with heap:=h'}):
 bM (bK P w) A (do raiseNew (<-newExc (.type "StopIteration") [])) Q E s:=by
 refine aP ?_
 simp only[newExc,newTuple]
 refine aP (j9 ?_ (by size_fits))
 refine aP (m:=firstArgMember _ _) (wpAny_of_eq (a:=eG) (by first|rfl|(simp only[firstArgMember];rfl)) ?_)
 refine j9 ?_ (by size_fits)
 simp only[raiseNew]
 refine aP (wpAny_handled ?_)
 rw[hh]
 exact aP (bg (wpAny_throw (h _ _ (fun b o e=>ba _ (ba _ e)) ⟨_,bI _ rfl,rfl⟩)))
theorem BR{slot:Nat}(hh:A.handled=ab)(hI:s.heap.get? I=aa (TV (.int slot 0) i a es.size ep))(ha:s.heap.get? a=aa o)(hd:o.data=.set es ep t)(hf:t.fits es.size=ae)(r:Option (aX×Nat))
 (hn:∀(Q':Option (aX×Nat)->a9->Prop)(E':ar),Q' r s->bM (bK P w) A.in1 (Y5 a slot i ep) Q' E' s)
 (h:match r with|some (x,nx)=>∀h',h'.get? I=aa (TV (.int nx 0) (i+1) a es.size ep)->(∀b u,b≠I->s.heap.get? b=aa u->h'.get? b=aa u)->Q (aa x) {s with heap:=h'}|none=>∀h',(∀b u,b≠I->s.heap.get? b=aa u->h'.get? b=aa u)->Q ab {s with heap:=h'}):
 bM (bK P w) A (qH (.ref I)) Q E s:=by
 have hT:s.TypeIs (.ref I) "set_iterator":=⟨_,hI,rfl⟩
 unfold qH
 refine aP (oP (kU (name:=jf "__next__") hT vo (jF vo hT Pz ?_ (Ud _))))
 unfold Builtin.«set_iterator.__next__»
 refine aP (bg ?_)
 refine aP (wpAny_fieldsOf hI rfl ?_)
 simp only[TV]
 refine aP (FK ha hd hf ?_)
 have e0:(((es.size:Nat):Int) != ((es.size:Nat):Int))=af:=by simp
 rw[e0]
 simp only[cD,↓reduceIte]
 refine aP (hn _ _ ?_)
 cases r with
 |some y=>
  obtain⟨x,nx⟩:=y
  simp only
  refine aP (jJ hI (by simp) fun h1 g1 b1=>?_)
  refine aP (jJ g1 (by simp) fun h2 g2 b2=>?_)
  refine bg ⟨x,rfl,bg ?_⟩
  refine h h2 ?_ fun b u nb e=>(b2.2 b nb).trans ((b1.2 b nb).trans e)
  rw[g2]
  simp[TV,j6]
 |none=>
  simp only
  refine aP (jJ hI (by simp) fun h1 g1 b1=>?_)
  refine Hn (s:={s with heap:=h1}) hh fun h' x k ⟨ox,hx,hc⟩=>?_
  refine aP (sd (T:="StopIteration") (b:=ae) ⟨ox,hx,hc⟩ Ew ?_)
  exact bg (h h' fun b u nb e=>k b u ((b1.2 b nb).trans e))
theorem HQ{T:Addr}{pl:List Nat}(hh:A.handled=ab)(hI:s.heap.get? I=aa (TV (.ref T) i a es.size ep))(hTT:s.heap.get? T=aa {cls:=.type "tuple",data:=.seq (pl.map fun(i:Nat)=>j6 i).toArray})
 (ha:s.heap.get? a=aa o)(hd:o.data=.set es ep t)(hf:t.fits es.size=ae)
 (h:match pl[i]? with|some p=>∃e,es[p]?=aa e/\∀h',h'.get? I=aa (TV (.ref T) (i+1) a es.size ep)->(∀b u,b≠I->s.heap.get? b=aa u->h'.get? b=aa u)->Q (aa e.2) {s with heap:=h'}|none=>∀h',(∀b u,b≠I->s.heap.get? b=aa u->h'.get? b=aa u)->Q ab {s with heap:=h'}):
 bM (bK P w) A (qH (.ref I)) Q E s:=by
 have hT:s.TypeIs (.ref I) "set_iterator":=⟨_,hI,rfl⟩
 unfold qH
 refine aP (oP (kU (name:=jf "__next__") hT vo (jF vo hT Pz ?_ (Ud _))))
 unfold Builtin.«set_iterator.__next__»
 refine aP (bg ?_)
 refine aP (wpAny_fieldsOf hI rfl ?_)
 simp only[TV]
 refine aP (FK ha hd hf ?_)
 have e0:(((es.size:Nat):Int) != ((es.size:Nat):Int))=af:=by simp
 rw[e0]
 simp only[cD,↓reduceIte]
 refine aP (Es hTT rfl ?_)
 simp only
 have ge:((pl.map fun(i:Nat)=>j6 i).toArray)[((i:Nat):Int).toNat]?=(pl[i]?).map fun(i:Nat)=>j6 i:=by simp
 rw[ge]
 cases hp:pl[i]? with
 |some p=>
  rw[hp]at h
  obtain⟨e,he,h⟩:=h
  simp only[jH,j6]
  refine aP ?_
  unfold setNextDrawn
  refine aP (ja ha hd hf ?_)
  have e1:(ep != ((ep:Nat):Int).toNat)=af:=by simp
  have e2:((p:Nat):Int).toNat=p:=by simp
  simp only[e1,e2,cD,↓reduceIte,he]
  refine bg ?_
  refine aP (jJ hI (by simp) fun h2 g2 b2=>?_)
  refine bg ⟨e.2,rfl,bg ?_⟩
  refine h h2 ?_ fun b u nb e=>(b2.2 b nb).trans e
  rw[g2]
  simp[TV,j6]
 |none=>
  rw[hp]at h
  simp only[Option.map_none]
  refine aP (jJ hI (by simp) fun h0 g0 b0=>?_)
  refine aP (jJ g0 (by simp) fun h1 g1 b1=>?_)
  refine Hn (s:={s with heap:=h1}) hh fun h' x k ⟨ox,hx,hc⟩=>?_
  refine aP (sd (T:="StopIteration") (b:=ae) ⟨ox,hx,hc⟩ Ew ?_)
  exact bg (h h' fun b u nb e=>k b u ((b1.2 b nb).trans ((b0.2 b nb).trans e)))
theorem D5{first:aX}{n:Nat}{Q:ar}(hI:s.heap.get? I=aa (TV first i a n ep))(h:Q (.ref I) s):bM (bK P w) A (So (.ref I)) Q E s:=by
 have hT:s.TypeIs (.ref I) "set_iterator":=⟨_,hI,rfl⟩;refine wpAny_pyIter_slot hT Ta (jF Ta hT Yt ?_ (aaZ _));unfold Builtin.«dict_keyiterator.__iter__»;refine aP (bg ?_);exact bg ⟨_,rfl,"set_iterator",_,hT,vo.lookup,h⟩
end
section
variable{P:bY}{w:cX}{A:cZ}{E:ar}{s:a9}{I a:Addr}{o:Obj}{es:Array (Int×aX)}{ep i:Nat}{t:oU}
theorem Gk{Q:Bool->a9->Prop}(h:Q (!lF w) s):bM (bK P w) A setsByText Q E s:=by
 unfold setsByText;refine aP (Nz (bg ?_));unfold lF at h;rw[Bool.not_not]at h;exact h
theorem HP{slot k:Nat}(hl:lF w=ae)(ha:s.heap.get? a=aa o)(hd:o.data=.set es ep t)(hf:t.fits es.size=ae)(tl:t.led=ae)(pl:t.plain=ae\/es.size<=1)(ri:Qo t.place.toList)
 {Q:Option (aX×Nat)->a9->Prop}(h:Q (match es[d4 t.place slot]?,t.place[d4 t.place slot]? with|some (_,x),aa j=>aa (x,j+1)|_,_=>ab) s):
 bM (bK P w) A (Y5 a slot k ep) Q E s:=by
 unfold Y5
 refine aP (ja ha hd hf ?_)
 refine aP (Gk ?_)
 rw[hl]
 simp only[N1,cD,↓reduceIte]
 refine jd (fun z=>?_) fun _=>?_
 ·have z:(!t.plain&&decide (es.size>1))=ae:=z
  rw[cM]at z
  rcases pl with q|q
  ·rw[q]at z;cases z.1
  exact absurd (of_decide_eq_true z.2) (by omega)
 refine aP (m:=(if(!t.led&& !es.isEmpty)=ae then wW "set:maker-not-led" else pure ())) ?_
 rw[tl]
 simp only[N1,eD,cD,↓reduceIte]
 exact bg (bg h)
theorem KJ{slot k:Nat}(hl:lF w=af)(ha:s.heap.get? a=aa o)(hd:o.data=.set es ep t)(hf:t.fits es.size=ae)
 {Q:Option (aX×Nat)->a9->Prop}(h:Q (((pV (w.params.setOrder a ep) es)[k]?).map fun e=>(e.2,slot)) s):bM (bK P w) A (Y5 a slot k ep) Q E s:=by
 unfold Y5
 refine aP (ja ha hd hf ?_)
 refine aP (Gk ?_)
 rw[hl]
 simp only[Lk,↓reduceIte,bne_self_eq_false,cD]
 unfold setWalk
 refine aP (aP (ja ha hd hf ?_))
 refine aP (Gk ?_)
 rw[hl]
 simp only[Lk,↓reduceIte]
 exact aP (Nz (bg (bg h)))
structure YT(P:bY)(w:cX)(a:Addr)(o:Obj)(I:Addr)(ord:au)(n ep:Nat)(fp:ag)(St:Nat->Heap->Prop):Prop where
 sub:I∈fp
 walks:∀A:cZ,A.handled=ab->Walks P w A I fp [I] n (fun i v=>ord[i]?=aa v) St
theorem QG(hl:lF w=ae)(hd:o.data=.set es ep t)(hf:t.fits es.size=ae)(tl:t.led=ae)(pl:t.plain=ae\/es.size<=1)(ri:Qo t.place.toList)(ne:a≠I):
 YT P w a o I (es.toList.map (·.2)) es.size ep [I,a] fun i h=>h.get? a=aa o/\h.get? I=aa (TV (.int ((match i with|0=>0|k+1=>t.place.getD k 0+1:Nat)) 0) i a es.size ep):=by
 have ps:t.place.size=es.size:=by
  unfold Za at hf;rw[cM]at hf;exact beq_iff_eq.mp hf.1
 have bl:∀i,i<=es.size->d4 t.place (match i with|0=>0|k+1=>t.place.getD k 0+1:Nat)=i:=fun i hi=>by
  cases i with
  |zero=>exact Se ri
  |succ k=>
   have hk:k<t.place.size:=by omega
   exact Sf ri (by simp[C0,hk])
 refine⟨by simp,fun A hh=>⟨fun b hb=>by simp at hb;simp[hb],fun i h h' st k=>⟨k a (by simp) o st.1,k I (by simp) _ st.2⟩,fun i s Q E hi st q=>?_,fun s Q E st q=>?_,fun i s Q E st q=>D5 st.2 q⟩⟩
 ·have e1:es[i]?=aa es[i]:=by simp[hi]
  have hp:i<t.place.size:=by omega
  have e2:t.place[i]?=aa t.place[i]:=by simp[hp]
  refine BR hh st.2 st.1 hd hf (aa (es[i].2,t.place[i]+1)) (fun Q' E' q'=>HP hl st.1 hd hf tl pl ri ?_) fun h' g k=>?_
  ·rw[bl i (by omega),e1,e2]
   exact q'
  refine q _ h' s.toks (by simp[hi]) ⟨k a o ne st.1,?_⟩ fun b u nb e=>k b u (by simpa using nb) e
  rw[g]
  simp[C0,hp]
 refine BR hh st.2 st.1 hd hf ab (fun Q' E' q'=>HP hl st.1 hd hf tl pl ri ?_) fun h' k=>q h' s.toks fun b u nb e=>k b u (by simpa using nb) e
 rw[bl es.size (bu _)]
 have e1:es[es.size]?=ab:=by simp
 rw[e1]
 exact q'
theorem Uu(hl:lF w=af)(hd:o.data=.set es ep t)(hf:t.fits es.size=ae)(ne:a≠I):
 YT P w a o I ((pV (w.params.setOrder a ep) es).toList.map (·.2)) es.size ep [I,a] fun i h=>h.get? a=aa o/\h.get? I=aa (TV (.int (0:Nat) 0) i a es.size ep):=by
 have sz:(pV (w.params.setOrder a ep) es).size=es.size:=by
  have:=(KG (w.params.setOrder a ep) es).length_eq;simpa using this
 refine⟨by simp,fun A hh=>⟨fun b hb=>by simp at hb;simp[hb],fun i h h' st k=>⟨k a (by simp) o st.1,k I (by simp) _ st.2⟩,fun i s Q E hi st q=>?_,fun s Q E st q=>?_,fun i s Q E st q=>D5 st.2 q⟩⟩
 ·have hp:i<(pV (w.params.setOrder a ep) es).size:=by omega
  have e2:(pV (w.params.setOrder a ep) es)[i]?=aa (pV (w.params.setOrder a ep) es)[i]:=by simp[hp]
  refine BR hh st.2 st.1 hd hf (aa ((pV (w.params.setOrder a ep) es)[i].2,0)) (fun Q' E' q'=>KJ hl st.1 hd hf ?_) fun h' g k=>?_
  ·rw[e2]
   exact q'
  refine q _ h' s.toks (by simp[hp]) ⟨k a o ne st.1,g⟩ fun b u nb e=>k b u (by simpa using nb) e
 refine BR hh st.2 st.1 hd hf ab (fun Q' E' q'=>KJ hl st.1 hd hf ?_) fun h' k=>q h' s.toks fun b u nb e=>k b u (by simpa using nb) e
 have e1:(pV (w.params.setOrder a ep) es)[es.size]?=ab:=by simp[sz]
 rw[e1]
 exact q'
theorem QH{T:Addr}{pl:List Nat}(hd:o.data=.set es ep t)(hf:t.fits es.size=ae)(pm:pl.Perm (bw es.size))(ne:a≠I)(nT:T≠I):
 YT P w a o I (pl.map fun p=>(es.getD p (0,.none)).2) es.size ep [I,a,T] fun i h=>h.get? a=aa o/\h.get? T=aa {cls:=.type "tuple",data:=.seq (pl.map fun(i:Nat)=>j6 i).toArray}/\h.get? I=aa (TV (.ref T) i a es.size ep):=by
 have len:pl.length=es.size:=by
  have:=pm.length_eq;simpa using this
 refine⟨by simp,fun A hh=>⟨fun b hb=>by simp at hb;simp[hb],fun i h h' st k=>⟨k a (by simp) o st.1,k T (by simp) _ st.2.1,k I (by simp) _ st.2.2⟩,fun i s Q E hi st q=>?_,fun s Q E st q=>?_,fun i s Q E st q=>D5 st.2.2 q⟩⟩
 ·have hp:i<pl.length:=by omega
  have e2:pl[i]?=aa pl[i]:=by simp[hp]
  have hm:pl[i]<es.size:=by
   have:=pm.mem_iff.mp (Gy hp);simpa using this
  refine HQ hh st.2.2 st.2.1 st.1 hd hf ?_
  rw[e2]
  refine⟨es[pl[i]],by simp[hm],fun h' g k=>?_⟩
  exact q _ h' s.toks (by simp[hp,C0,hm]) ⟨k a o ne st.1,k T _ nT st.2.1,g⟩ fun b u nb e=>k b u (by simpa using nb) e
 refine HQ hh st.2.2 st.2.1 st.1 hd hf ?_
 have e1:pl[es.size]?=ab:=by simp[len]
 rw[e1]
 exact fun h' k=>q h' s.toks fun b u nb e=>k b u (by simpa using nb) e
end
def Kept(h h':Heap):Prop:=∀b o,h.get? b=aa o->h'.get? b=aa o
theorem Kept.trans{h h1 h2:Heap}(a:Kept h h1)(b:Kept h1 h2):Kept h h2:=fun x o e=>b x o (a x o e)
theorem Kept.push{h:Heap}{o:Obj}:Kept h (h.push o):=fun _ _ e=>ba _ e
section
variable{P:bY}{w:cX}{A:cZ}{E:ar}{s:a9}{r:Addr}{T:String}{n:Nat}
theorem IF{OK:(Nat->aX->Prop)->Prop}{R:au->a9->Prop}(hT:s.TypeIs (.ref r) T)(nl:(iV T==iV "list")=af)(nt:(iV T==iV "tuple")=af)(hn:n<=bz)
 (hint:∀(E:ar)(s':a9)(Q:Bool->a9->Prop),Kept s.heap s'.heap->(∀b tk,Q b {s' with toks:=tk})->bM (bK P w) A.in1 (iP (.ref r)) Q E s')
 (iter:∀(E:ar)(s':a9)(Q:ar),Kept s.heap s'.heap->(∀I h' d' V fp St,Kept s'.heap h'->(∀b∈fp,b=r\/s'.heap.objs.size<=b)->s'.heap.objs.size<=I->OK V->Walks P w A.in1 I fp [I] n V St->St 0 h'->Q (.ref I) {s' with heap:=h',drawn:=d'})->
  bM (bK P w) A.in1 (So (.ref r)) Q E s')
 (q:∀h' tk d' V acc,Kept s.heap h'->s.heap.objs.size<h'.objs.size->OK V->ItemsOf V acc n->R acc.toList {s with heap:=h',toks:=tk,drawn:=d'}):bM (bK P w) A (collect (.ref r)) R E s:=by
 unfold collect
 refine aP (wpAny_runValue (je entry_proto_collect' ?_))
 rw[iK PySem.F.plain_proto_collect _]
 show bM _ A.in1 (newList []>>=fun l=>again (.builtin "list.__iadd__" ⟨[l,.ref r],[]⟩)) _ _ s
 refine aP (j9 (bg ⟨oQ Lg _,je entry_list_iadd' ?_⟩))
 rw[iK Lg _]
 generalize hS0:s.heap.objs.size=S
 have g0:(s.heap.push {cls:=.type "list",data:=.seq ([]:au).toArray}).get? S=aa {cls:=.type "list",data:=.seq #[]}:=by rw[<-hS0];exact bI _ rfl
 show bM _ A.in1 (iQ (.ref S) (.ref r) (.ref S)) _ _ _
 generalize hp:s.heap.push {cls:=.type "list",data:=.seq ([]:au).toArray}=h0 at g0
 have k0:Kept s.heap h0:=hp▸Kept.push
 have rS:r<S:=by
  obtain⟨o,ho,_⟩:=hT;rw[<-hS0];exact bG ho
 unfold iQ
 refine aP (Y1 (T:=T) (s:={s with heap:=h0}) (let⟨o,ho,hc⟩:=hT;⟨o,k0 _ _ ho,hc⟩) ?_)
 have e1:lN (.ref S) (.ref r)=af:=by simp[lN,dm rS]
 simp only[e1,nl,nt,lg,cD,if_false]
 refine aP (iter _ {s with heap:=h0} _ k0 fun I h1 d1 V fp St k1 fpo Io ok W st=>?_)
 have s0:S<h0.objs.size:=bG g0
 have g1:=k1 _ _ g0
 have nS:S∉fp:=fun z=>by
  rcases fpo S z with e|e
  ·exact absurd e (dm rS)
  exact absurd (bJ s0 e) (gC _)
 have key:∀(h:Heap)(c₁ tk:Nat),St 0 h->(∀b o,b≠S->h1.get? b=aa o->h.get? b=aa o)->h.get? S=aa {cls:=.type "list",data:=.seq #[] c₁}->
  jA (bK P w) A (.builtin "list.extend.loop" ⟨[.ref S,.ref I,.ref S],[]⟩) (fun q s'=>∃h' tk acc c,q=.ok (.ret (.ref S))/\s'={s with heap:=h',toks:=tk,drawn:=d1}/\Kept s.heap h'/\h'.get? S=aa {cls:=.type "list",dict:=ab,data:=.seq acc c,slots:=#[]}/\ItemsOf V acc n)
   {s with heap:=h,toks:=tk,drawn:=d1}:=fun h c₁ tk GQ k g=>by
  refine codeAny_extend_loopS W.toS hn S nS (.ref S) n 0 _ #[] c₁ rfl (cC _) GQ g (ItemsOf.nil _) fun s' acc c mv g' it=>?_
  rw[Moved.eq_with mv]
  refine⟨s'.heap,s'.toks,acc,c,rfl,rfl,fun b o e=>?_,g',it⟩
  have hb:b<S:=by rw[<-hS0];exact bG e
  refine mv.heap b o (fun z=>?_) (k b o (ck hb) (k1 b o (k0 b o e)))
  rcases bQ.mp z with z|z
  ·exact absurd z (ck hb)
  exact absurd (bU.mp z) (ck (bJ (mz hb s0) Io))
 have fin:∀(x:Ey)(s':a9),(∃h' tk acc c,x=.ok (.ret (.ref S))/\s'={s with heap:=h',toks:=tk,drawn:=d1}/\Kept s.heap h'/\h'.get? S=aa {cls:=.type "list",dict:=ab,data:=.seq acc c,slots:=#[]}/\ItemsOf V acc n)->
  ∀v,x=.ok (.ret v)->bM (bK P w) A (match v with|.ref a=>(load a>>=fun o=>match o.data with|.seq xs _=>pure xs.toList|_=>wW "internal:collect")|_=>wW "internal:collect") R E s':=fun x s' ⟨h',tk,acc,c,e,es,kk,g',it⟩ v ev=>by
  subst e
  cases ev
  subst es
  exact aP (IT g' (bg (q h' tk d1 V acc kk (hS0▸bG g') ok it)))
 have loop:∀(h:Heap)(c₁ tk:Nat),St 0 h->(∀b o,b≠S->h1.get? b=aa o->h.get? b=aa o)->h.get? S=aa {cls:=.type "list",data:=.seq #[] c₁}->
  jA (bK P w) A (.builtin "list.extend.loop" ⟨[.ref S,.ref I,.ref S],[]⟩) (fun x s'=>match x with|.ok (.ret v)=>bM (bK P w) A (match v with|.ref a=>(load a>>=fun o=>match o.data with|.seq xs _=>pure xs.toList|_=>wW "internal:collect")|_=>wW "internal:collect") R E s'|.ok _=>False|.error e=>E e s')
   {s with heap:=h,toks:=tk,drawn:=d1}:=fun h c₁ tk GQ k g=>by
  refine iU (key h c₁ tk GQ k g) fun x s' y=>?_
  obtain⟨h',tk',acc,c,e,r⟩:=id y
  subst e
  exact fin _ s' y _ rfl
 refine aP (d8 (hint _ _ _ (k0.trans k1) fun b tk=>?_))
 refine jd (fun _=>?_) (fun _=>bg ⟨oQ ie _,loop h1 0 tk st (fun b o _ e=>e) g1⟩)
 refine aP (IS (aP ?_))
 show bM _ _ (E2 S (·.push .none)>>=fun _=>E2 S (·.pop)) _ _ _
 refine aP (o4 g1 rfl ?_)
 have g2:=dQ (dU (·.push eG)) g1 rfl
 refine o4 (hz:=by seq_fits) g2 rfl ?_
 have g3:=dQ (dU (·.pop)) g2 rfl
 have Tu:∀b o,b≠S->h1.get? b=aa o->((h1.update S (dU (·.push eG))).update S (dU (·.pop))).get? b=aa o:=fun b o hb e=>
  (cv _ _ (dh hb)).trans ((cv _ _ (dh hb)).trans e)
 exact bg ⟨oQ ie _,loop _ _ tk (W.frame 0 _ _ st fun b hb o e=>Tu b o (fun z=>nS (z▸hb)) e) Tu g3⟩
end
theorem xI{α:Type}[DecidableEq α]:∀{l m:List α},l.Nodup->(∀x∈l,x∈m)->m.length=l.length->l.Perm m
 |[],m,_,_,h=>by
  have e:m=[]:=oI.mp h;subst e;exact gO _
 |a::l,m,nd,sub,h=>by
  have hm:=sub a (bO ..);have p:=List.perm_cons_erase hm;obtain⟨na,nl⟩:=iX.mp nd;refine EA (VU a (xI nl (fun x hx=>?_) ?_)) p.symm
  ·have ne:x≠a:=fun z=>na (z▸hx);exact(List.mem_erase_of_ne ne).mpr (sub x (bD _ hx))
  rw[List.length_erase_of_mem hm,h];rfl
theorem uP(val:Nat->Int):∀i,(nq val i).Nodup
 |0=>by rw[firstMet_zero];exact Li
 |i+1=>by
  rw[VR];unfold step_dedup;split
  ·exact uP val i
  rename_i hn;rw[vb];refine⟨uP val i,by simp,fun a ha b hb e=>?_⟩;rw[bU]at hb;subst hb;subst e;exact hn (fj.mpr ⟨_,ha,by simp⟩)
theorem range_getD(ns:List Int):(bw ns.length).map (fun i=>ns.getD i 0)=ns:=by
 refine jt (by simp) fun i h1 h2=>?_;simp[bF h2]
def met(ns:List Int):List Int:=nq (fun i=>ns.getD i 0) ns.length
theorem BU(ns:List Int)(k:Int):k∈met ns↔k∈ns:=by
 have e:=firstMet_any (fun i=>ns.getD i 0) ns.length k;rw[range_getD]at e;have f:∀l:List Int,l.any (· ==k)=ae↔k∈l:=fun l=>by simp
 rw[<-f ns,<-e,f];rfl
theorem TF(ns:List Int):(met ns).length<=ns.length:=firstMet_length_le _ _
def ab6(P:bY)(w:cX)(a:Addr)(ns:List Int)(h:Heap):Prop:=qV P w h a (lF w) (fun z=>(met ns).any (· ==z)) (met ns).length
theorem ints_of{P:bY}{w:cX}:∀{l:List (Int×aX)},ElemsOf (jQ P w) l->∃ms,kf (l.map (·.2)) ms/\∀k,k∈ms↔∃e∈l,(jQ P w).is k e.2=ae
 |[],_=>⟨[],.nil,fun k=>by simp⟩
 |e::l,h=>by
  obtain⟨⟨k,hk,_⟩,_⟩:=h.head;obtain⟨ms,h1,h2⟩:=ints_of h.tail;obtain⟨t,et⟩:=V3 hk;refine⟨k::ms,by rw[dE,et];exact .cons k t h1,fun j=>?_⟩;rw[bQ,h2];constructor
  ·rintro(z|⟨x,hx,z⟩)
   ·subst z;exact⟨e,bO ..,hk⟩
   exact⟨x,bD _ hx,z⟩
  rintro⟨x,hx,z⟩;rcases bQ.mp hx with q|q
  ·subst q;exact .inl ((jQ P w).inj _ _ _ z hk)
  exact .inr ⟨x,q,z⟩
theorem Vb:∀{vs us:au},us.Perm vs->∀{ms:List Int},kf vs ms->∃ns,kf us ns/\ns.Perm ms:=fun{vs us} p=>by
 induction p with
 |nil=>intro ms h;exact⟨ms,h,gO _⟩
 |cons x _ ih=>
  intro ms h;cases h with
  |cons n t h=>
   obtain⟨ns,a,b⟩:=ih h;exact⟨n::ns,.cons n t a,b.cons n⟩
 |swap x y l=>
  intro ms h;cases h with
  |cons n t h=>
   cases h with
   |cons m u h=>exact⟨m::n::_,.cons m u (.cons n t h),FW ..⟩
 |trans _ _ ih1 ih2=>
  intro ms h;obtain⟨a,a1,a2⟩:=ih2 h;obtain⟨b,b1,b2⟩:=ih1 a1;exact⟨b,b1,b2.trans a2⟩
section
variable{P:bY}{w:cX}{A:cZ}{E:ar}{s:a9}{a:Addr}{ns:List Int}
theorem WZ{Q:Bool->a9->Prop}(hT:s.TypeIs (.ref a) "set")(h:Q af s):bM (bK P w) A (iP (.ref a)) Q E s:=by
 unfold iP;refine aP (Be hT PySem.F.slot_set_len.lookup ?_);generalize hid:("set.__len__":String)=id0;wp_delta;rw[show splitId id0=aa ("set","__len__")from by subst hid;decide+kernel];subst hid;refine aP (sd (T:="set") (b:=ae) hT (by rw[Ss];kernel_rfl) ?_);refine jd (fun z=>absurd z (by decide)) fun _=>?_;refine jd (fun _=>aP (Y1 hT (bg h))) fun z=>absurd (by decide+kernel) z
theorem WY{o:Obj}{es:Array (Int×aX)}{ep:Nat}{t:oU}(hh:A.handled=ab)(ha:s.heap.get? a=aa o)(hx:o.ExactSet)(hd:o.data=.set es ep t)(hf:t.fits es.size=ae)(tj:TJ (lF w) t)(j8:es.size<nM){Q:ar}
 (q:∀I h' d' V fp St,Kept s.heap h'->(∀b∈fp,b=a\/s.heap.objs.size<=b)->s.heap.objs.size<=I->(∃ord:au,V=(fun i v=>ord[i]?=aa v)/\ord.Perm (es.toList.map (·.2)))->Walks P w A I fp [I] es.size V St->St 0 h'->Q (.ref I) {s with heap:=h',drawn:=d'}):
 bM (bK P w) A (So (.ref a)) Q E s:=by
 have hT:s.TypeIs (.ref a) "set":=⟨o,ha,hx.1⟩
 have la:a<s.heap.objs.size:=bG ha
 refine wpAny_pyIter_slot hT NX (jF NX hT Ys ?_ (PySem.F.args_set_iter_1 _))
 unfold Builtin.«frozenset.__iter__» abu abv setDrawn
 refine aP (aP (bg (bg ?_)))
 refine aP (aP (FK ha hd hf (bg ?_)))
 refine aP ?_
 refine aP (ja ha hd hf ?_)
 refine aP (Gk (bg ?_))
 refine jd (fun z=>?_) fun z=>?_
 ·have z:(!!lF w&&(!t.plain&&decide (es.size>1)))=ae:=z
  refine aP (RR es.size (bw es.size) s _ (by simp) fun pl d' pm=>?_)
  have len:pl.length=es.size:=by have:=pm.length_eq;simpa using this
  refine aP (Sl ?_ (by rw[aV,len,bZ];unfold nM at j8;omega))
  refine aP ?_
  unfold setEpoch
  refine aP (ja (ba _ ha) hd hf (bg ?_))
  refine aP (j9 (bg ⟨_,rfl,"set_iterator",_,⟨_,bI _ rfl,rfl⟩,vo.lookup,?_⟩) (by size_fits))
  have sz:(s.heap.push {cls:=.type "tuple",data:=.seq (pl.map fun(i:Nat)=>j6 i).toArray}).objs.size=s.heap.objs.size+1:=dB _ _
  rw[sz]
  have Wk:=QH (P:=P) (w:=w) (a:=a) (o:=o) (I:=s.heap.objs.size+1) (T:=s.heap.objs.size) hd hf pm (ck (eU la)) (ck (eQ _))
  refine q (s.heap.objs.size+1) _ d' _ _ _ (Kept.push.trans Kept.push) (fun b hb=>?_) (qZ _) ⟨_,rfl,?_⟩ (Wk.walks A hh) ⟨ba _ (ba _ ha),ba _ (bI _ rfl),?_⟩
  ·simp only[bQ,kh,or_false]at hb
   rcases hb with e|e|e
   ·exact .inr (e▸qZ _)
   ·exact .inl e
   exact .inr (e▸bu _)
  ·have e:es.toList.map (·.2)=(bw es.size).map fun p=>(es.getD p (0,.none)).2:=by
    refine jt (by simp) fun i h1 h2=>?_;have hi:i<es.size:=by simpa using h1
    simp[C0,hi]
   rw[e]
   exact pm.map _
  rw[<-sz]
  exact bI _ rfl
 have z:¬(!!lF w&&(!t.plain&&decide (es.size>1)))=ae:=z
 refine aP (bg (aP ?_))
 unfold setEpoch
 refine aP (ja ha hd hf (bg ?_))
 refine aP (j9 (bg ⟨_,rfl,"set_iterator",_,⟨_,bI _ rfl,rfl⟩,vo.lookup,?_⟩) (by size_fits))
 have fo:∀b∈[s.heap.objs.size,a],b=a\/s.heap.objs.size<=b:=fun b hb=>by
  simp only[bQ,kh,or_false]at hb;rcases hb with e|e
  ·exact .inr (e▸bu _)
  exact .inl e
 have gI:(s.heap.push (TV (.int (0:Nat) 0) 0 a es.size ep)).get? s.heap.objs.size=aa (TV (.int (0:Nat) 0) 0 a es.size ep):=bI _ rfl
 cases hl:lF w with
 |false=>exact q s.heap.objs.size _ s.drawn _ _ _ Kept.push fo (bu _) ⟨_,rfl,(KG _ es).map _⟩ ((Uu hl hd hf (ck la)).walks A hh) ⟨ba _ ha,gI⟩
 |true=>
  rw[hl]at z tj
  have pl:t.plain=ae\/es.size<=1:=by
   cases hp:t.plain with
   |true=>exact .inl rfl
   |false=>
    rw[hp]at z;right;rcases jh 1 es.size with y|y
    ·exact absurd (by simp[y]) z
    exact y
  have ps:t.place.size=es.size:=by
   unfold Za at hf;rw[cM]at hf;exact beq_iff_eq.mp hf.1
  have ri:Qo t.place.toList:=by
   rcases pl with y|y
   ·exact tj.2 y
   unfold Qo;have l1:t.place.toList.length<=1:=by rw[c7,ps];exact y
   match hq:t.place.toList,l1 with
   |[],_=>exact kq
   |[x],_=>exact oH _ _
  exact q s.heap.objs.size _ s.drawn _ _ _ Kept.push fo (bu _) ⟨_,rfl,gO _⟩ ((QG hl hd hf tj.1 pl ri (ck la)).walks A hh) ⟨ba _ ha,gI⟩
theorem Q0(hh:A.handled=ab)(hS:ab6 P w a ns s.heap)(j8:ns.length<64){Q:ar}
 (q:∀D h' tk d' out ms c,Kept s.heap h'->s.heap.objs.size<=D->h'.get? D=aa (iS "list" out c)->kf out.toList ms->ms.Pairwise (· <·)->(∀k,k∈ms↔k∈ns)->Q (.ref D) {s with heap:=h',toks:=tk,drawn:=d'}):
 bM (bK P w) A (call (.builtin "sorted") [.ref a]) Q E s:=by
 obtain⟨o,es,ep,t,ha,hx,hd,el,mb,b,hf,en,tj⟩:=hS
 have hT:s.TypeIs (.ref a) "set":=⟨o,ha,hx.1⟩
 have l1:=TF ns
 refine Calls.call_function_entry kind_sorted plain_sorted entry_sorted (args_sorted1 _) ?_
 unfold Builtin.«sorted»
 refine aP (m:=checkCount "sorted" 1 1 _) (bg ?_)
 refine aP (IF (A:=A.in1) (n:=es.size) (OK:=fun V=>∃ord:au,V=(fun i v=>ord[i]?=aa v)/\ord.Perm (es.toList.map (·.2))) hT (by decide) (by decide) (by rw[bZ];omega)
  (fun E s' Q k h=>WZ ⟨o,k _ _ ha,hx.1⟩ (h af s'.toks)) (fun E s' Q k h=>WY (by simpa using hh) (k _ _ ha) hx hd hf tj b h) fun h' tk d' V acc k big ok it=>?_)
 obtain⟨ord,rfl,pm⟩:=ok
 obtain⟨m0,i0,i1⟩:=ints_of el
 obtain⟨m1,j0,j1⟩:=Vb pm i0
 have e0:acc.toList=ord:=by
  have hl:ord.length=es.size:=by have:=pm.length_eq;simpa using this
  refine vc fun i=>?_;rcases jh i es.size with y|y
  ·have hi:i<acc.size:=by rw[it.1];exact y
   have:=it.2 i acc[i] (by simp[hi]);rw[this];simp[hi]
  rw[dZ (by rw[c7,it.1];exact y),dZ (by omega)]
 rw[e0]
 have ol:ord.length=es.size:=by have:=pm.length_eq;simpa using this
 refine aP (VP ?_ (by rw[ol,bZ];omega))
 have gD:(h'.push (iS "list" ord.toArray 0)).get? h'.objs.size=aa (iS "list" ord.toArray 0):=bI _ rfl
 refine aP (d8 (jF slot_list_sort ⟨_,gD,rfl⟩ entry_list_sort (list_sort_tree (n:=0) gD j0 (by omega) fun out ms p1 p2 p3=>⟨_,rfl,?_⟩) (args_list_sort _)))
 obtain⟨c,gE⟩:=sortedHeap_at (out:=out) gD
 have pk:∀k,k∈m0↔k∈ns:=fun k=>by
  rw[i1,<-mb];have z:(met ns).any (· ==k)=ae↔k∈met ns:=by simp
  rw[z,BU]
 have nd:m0.Nodup:=by
  have lm:m0.length=(met ns).length:=by rw[<-i0.length,aV,c7,en]
  have pp:(met ns).Perm m0:=xI (uP _ _) (fun x hx=>(pk x).mpr ((BU ns x).mp hx)) lm;exact pp.nodup_iff.mp (uP _ _)
 have nd2:ms.Nodup:=(p2.trans j1).nodup_iff.mpr nd
 refine bg ⟨_,rfl,q _ _ tk d' out ms c (fun b u e=>?_) ?_ gE p1 ?_ fun k=>?_⟩
 ·have hb:=bG (k b u e)
  rw[sortedHeap_old (ck hb) (bJ hb (by rw[dB];exact qZ _))]
  exact ba _ (k b u e)
 ·exact du big
 ·have:=p3.and nd2
  exact this.imp fun h=>by omega
 rw[(p2.trans j1).mem_iff,pk]
end
end sP
end
section
namespace XL
open PySem PySem.Spec PyProof.Rows L2 sP
section
variable{X:Cx}{pins:ah}{σ:L2.St}{H:Hp}{s:a9}
theorem Inv.drawn(I:Inv X pins σ H s)(d:Drawn):Inv X pins σ H {s with drawn:=d}:=⟨I.ok,I.os,I.bare,I.base,I.loc,I.cell,I.free,I.p0,I.pin,I.gx,I.len⟩
def ZY(P:bY)(w:cX)(a:Addr)(ns:List Int):HO:=.ext (ab6 P w a ns)
inductive aiS(X:Cx)(vs:ao)(H:Hp)(Q:VK):Prop
 |mk (a:Addr) (ns:List Int) (_:vs=[V.ref a]) (_:dw X.K H a (ns.map V.int)) (_:ns.length<64) (_:∀p,H p=ab->Q (.ref p) (upd H p (ZY X.prog X.w p ns)))
theorem aeA(hc:X.calm=ae):wG X (.type "set") (aiS X):=by
 intro pins s σ H vs us Q I r h;obtain⟨a,ns,rfl,hs,j8,q⟩:=h;obtain⟨its,rv,hl,_⟩:=I.list hs;rw[Vals.ac7 r];have hi:=rv.ints;have hz:its.toArray.size=ns.length:=by rw[b7];exact hi.length
 refine YB (ns:=ns) (I.ok.hd hc) hl.isList (by simpa using hi) (by rw[hz];unfold nM;omega) fun h' tk sj k=>?_;rw[hz]at sj;refine⟨.ref _,upd H s.heap.objs.size (ZY X.prog X.w s.heap.objs.size ns),I.laid (t':=tk) k (bu _) ⟨sj,?_,fun h1 h2 x kk=>x.keep kk⟩,rfl,q _ (I.gx.fresh (bu _))⟩;obtain⟨o,_,_,_,e,_⟩:=sj;exact⟨o,e⟩
inductive W8(X:Cx)(vs:ao)(H:Hp)(Q:VK):Prop
 |mk (a:Addr) (ns:List Int) (_:vs=[V.ref a]) (_:H a=aa (ZY X.prog X.w a ns)) (_:ns.length<64) (_:∀(ms:List Int)(p:Addr),ms.Pairwise (· <·)->(∀k,k∈ms↔k∈ns)->H p=ab->Q (.ref p) (upd H p (.lst (ms.map V.int))))
theorem RX(hc:X.calm=ae):wG X (.builtin "sorted") (W8 X):=by
 intro pins s σ H vs us Q I r h;obtain⟨a,ns,rfl,hs,j8,q⟩:=h;obtain⟨sj,_⟩:=I.gx a _ hs;rw[Vals.ac7 r];refine Q0 (I.ok.hd hc) sj j8 fun D h' tk d' out ms c k big g i0 so mem=>?_;have nd:ms.Nodup:=so.imp fun h=>by omega
 have len:ms.length<=64:=by
  have p:(ms.Perm (met ns)):=xI nd (fun x hx=>(BU ns x).mpr ((mem x).mp hx)) (by
   have p2:(met ns).length=ms.length:=by
    have a1:(met ns).Nodup:=uP _ _;exact Nat.le_antisymm (jU a1 fun x hx=>(mem x).mpr ((BU ns x).mp hx)) (jU nd fun x hx=>(BU ns x).mpr ((mem x).mp hx))
   exact p2)
  have:=p.length_eq;have:=TF ns;omega
 exact⟨.ref D,upd H D (.lst (ms.map V.int)),Inv.drawn (I.laid (o:=.lst (ms.map V.int)) (t':=tk) k big ⟨by rw[aV,bZ];omega,out.toList,c,qP i0,g⟩) d',rfl,q ms D so mem (I.gx.fresh big)⟩
end
end XL
end
section
namespace sP
open PySem PySem.Spec PyProof.Rows
def zO(f:aX)(b:Bool)(TI TO:Addr):Obj:={cls:=.type "zip",dict:=ab,data:=.fields #[f,.bool b,.bool af,.ref TI,.ref TO],slots:=#[]}
section
variable{P:bY}{w:cX}{A:cZ}{E:ar}{s:a9}{z TI TO i1 i2 l1 l2 T:Addr}{b:Bool}{k:Nat}{xs ys:Array aX}
theorem N5{Q:Bool->a9->Prop}(hz:s.heap.get? z=aa (zO (.int (T:Nat) 0) b TI TO))(al:∃o,s.heap.get? T=aa o)(q:∀h',h'.get? z=aa (zO (.int (T:Nat) 0) ae TI TO)->kQ z s.heap h'->Q af {s with heap:=h'}):
 bM (bK P w) A (uv (.ref z)) Q E s:=by
 unfold uv
 refine aP (gY hz rfl (x:=.int (T:Nat) 0) rfl ?_)
 obtain⟨o,ho⟩:=al
 simp only
 have e:((T:Nat):Int).toNat=T:=by simp
 rw[e]
 refine aP (m:=loadIfAlive T) ?_
 have la:bM (bK P w) A (loadIfAlive T) (fun r s'=>r=aa o/\s'=s) E s:=by
  intro Γ p hΓ;exact⟨ho,rfl⟩
 refine eE la (fun r s' h=>?_) fun _ _ h=>h
 obtain⟨rfl,rfl⟩:=h
 simp only[Option.isNone_some,cD,↓reduceIte]
 refine aP (gY hz rfl (x:=.bool b) rfl ?_)
 cases b with
 |true=>
  simp only[bne_self_eq_false,cD,↓reduceIte]
  exact bg (q s'.heap hz (NK _ _))
 |false=>
  refine jd (fun _=>?_) fun n=>absurd rfl n
  refine aP (jJ hz (by simp) fun h1 g1 b1=>?_)
  exact bg (q h1 g1 b1)
theorem Ln{Q:Option aX->a9->Prop}{x y:aX}(D:Sy z TI TO i1 i2 l1 l2)(hz:s.heap.get? z=aa (zO (.int (T:Nat) 0) b TI TO))(al:∃o,s.heap.get? T=aa o)(hTI:yy s.heap TI (.ref i1) (.ref i2))
 (h1:s.heap.IsListIter i1 l1 k)(h2:s.heap.IsListIter i2 l2 k)(NQ:s.heap.IsList l1 xs)(uw:s.heap.IsList l2 ys)(hx:xs[k]?=aa x)(hy:ys[k]?=aa y)
 (q:∀h',h'.get? z=aa (zO (.int (T:Nat) 0) ae TI TO)->h'.IsListIter i1 l1 (k+1)->h'.IsListIter i2 l2 (k+1)->yy h' s.heap.objs.size x y->(∀c o,c≠z->c≠i1->c≠i2->s.heap.get? c=aa o->h'.get? c=aa o)->Q (aa (.ref s.heap.objs.size)) {s with heap:=h'}):
 bM (bK P w) A (qH (.ref z)) Q E s:=by
 have hT:s.TypeIs (.ref z) "zip":=⟨_,hz,rfl⟩
 unfold qH
 refine aP (oP (kU (name:=jf "__next__") hT o6 (jF o6 hT NJ ?_ (Lh _))))
 unfold Builtin.«zip.__next__»
 refine aP (bg ?_)
 simp only
 refine aP (gY hz rfl (x:=.bool af) rfl ?_)
 refine aP (gY hz rfl (x:=.ref TI) rfl ?_)
 refine aP (Es hTI rfl ?_)
 refine aP (N5 hz al fun h0 z0 s0=>?_)
 simp only[cD,↓reduceIte]
 refine aP ?_
 rw[<-C3]
 simp only[nQ,tJ]
 refine aP (aP (d8 ?_))
 show bM _ _ (o8 (.ref i1)>>=_) _ _ _
 refine aP (Y3 (h1.extBut s0.extBut D.i1z) (NQ.extBut s0.extBut D.l1z) hx fun h2 g2 b2=>bg (bg ?_))
 refine aP (aP (d8 ?_))
 show bM _ _ (o8 (.ref i2)>>=_) _ _ _
 refine aP (Y3 ((‹s.heap.IsListIter i2 l2 k›.extBut s0.extBut D.i2z).extBut b2.extBut D.i12.symm) ((uw.extBut s0.extBut D.l2z).extBut b2.extBut D.l2i1) hy fun h4 g4 b4=>bg (bg (bg ?_)))
 simp only
 refine aP (Sl ?_ (by show 2<=bz;decide))
 have sz:h4.objs.size=s.heap.objs.size:=by rw[b4.1,b2.1,s0.1]
 refine bg ⟨_,rfl,bg ?_⟩
 rw[sz]
 refine q _ (ba _ (b4.extBut _ _ D.i2z.symm (b2.extBut _ _ D.i1z.symm z0))) ((g2.extBut b4.extBut D.i12).at fun o e=>ba _ e) (g4.at fun o e=>ba _ e) (by rw[<-sz];exact bI _ rfl) fun c o c1 c2 c3 e=>ba _ (b4.extBut _ _ c3 (b2.extBut _ _ c2 (s0.extBut _ _ c1 e)))
theorem N4{Q:Option aX->a9->Prop}(hh:A.handled=ab)(D:Sy z TI TO i1 i2 l1 l2)(hz:s.heap.get? z=aa (zO (.int (T:Nat) 0) b TI TO))(al:∃o,s.heap.get? T=aa o)(hTI:yy s.heap TI (.ref i1) (.ref i2))
 (h1:s.heap.IsListIter i1 l1 k)(NQ:s.heap.IsList l1 xs)(hx:xs[k]?=ab)(q:∀h',(∀c o,c≠z->c≠i1->s.heap.get? c=aa o->h'.get? c=aa o)->Q ab {s with heap:=h'}):
 bM (bK P w) A (qH (.ref z)) Q E s:=by
 have hT:s.TypeIs (.ref z) "zip":=⟨_,hz,rfl⟩
 unfold qH
 refine aP (oP (kU (name:=jf "__next__") hT o6 (jF o6 hT NJ ?_ (Lh _))))
 unfold Builtin.«zip.__next__»
 refine aP (bg ?_)
 simp only
 refine aP (gY hz rfl (x:=.bool af) rfl ?_)
 refine aP (gY hz rfl (x:=.ref TI) rfl ?_)
 refine aP (Es hTI rfl ?_)
 refine aP (N5 hz al fun h0 z0 s0=>?_)
 simp only[cD,↓reduceIte]
 refine aP ?_
 rw[<-C3]
 simp only[nQ,tJ]
 refine aP (aP (d8 ?_))
 show bM _ _ (o8 (.ref i1)>>=_) _ _ _
 refine aP (Zv (by simpa using hh) (h1.extBut s0.extBut D.i1z) (NQ.extBut s0.extBut D.l1z) hx fun h2 e k2 ⟨o,ho,hc⟩=>?_)
 refine aP (sd (T:="StopIteration") (b:=ae) ⟨o,ho,hc⟩ Ew ?_)
 exact bg (q h2 fun c o c1 c2 e=>k2 c o c2 (s0.extBut _ _ c1 e))
end
structure Zs(z TI TO i1 i2 l1 l2 S lo:Addr)(xs ys:Array aX)(h:Heap)(ts:ag):Prop where
 zip:(ts=[]/\IsZip h z TI TO .none/\∃a b,yy h TO a b)\/(∃T b,ts.head?=aa T/\h.get? z=aa (zO (.int (T:Nat) 0) b TI TO))
 ti:yy h TI (.ref i1) (.ref i2)
 it1:h.IsListIter i1 l1 ts.length
 it2:h.IsListIter i2 l2 ts.length
 ls1:h.IsList l1 xs
 ls2:h.IsList l2 ys
 got:∀(j:Nat)(t:Addr),ts[j]?=aa t->lo<=t/\∃x y,xs[j]?=aa x/\ys[j]?=aa y/\yy h t x y
 lst:∃c,h.get? S=aa {cls:=.type "list",dict:=ab,data:=.seq (ts.map cu).toArray c,slots:=#[]}
 rise:ts.Pairwise (· <·)
 big:lo<=h.objs.size
theorem Zs.low{z TI TO i1 i2 l1 l2 S lo:Addr}{xs ys:Array aX}{h:Heap}{ts:ag}(d:Zs z TI TO i1 i2 l1 l2 S lo xs ys h ts):∀t∈ts,t<h.objs.size:=fun t ht=>by
 obtain⟨j,hj⟩:=cz ht;obtain⟨_,_,_,_,_,e⟩:=d.got j t hj;exact bG e
section
variable{P:bY}{w:cX}{A:cZ}{E:ar}{z TI TO i1 i2 l1 l2 S lo:Addr}{xs ys:Array aX}
theorem Zs.next{h h':Heap}{ts:ag}{x y:aX}{T:Addr}{b:Bool}(D:Sy z TI TO i1 i2 l1 l2)(nS:S≠z/\S≠TO/\S≠i1/\S≠i2/\S≠TI/\S≠l1/\S≠l2)(lw:z<lo/\TO<lo/\i1<lo/\i2<lo/\S<lo)(d:Zs z TI TO i1 i2 l1 l2 S lo xs ys h ts)
 (hx:xs[ts.length]?=aa x)(hy:ys[ts.length]?=aa y)(hT:(ts++[h.objs.size]).head?=aa T)(hz:h'.get? z=aa (zO (.int (T:Nat) 0) b TI TO))(g1:h'.IsListIter i1 l1 (ts.length+1))(g2:h'.IsListIter i2 l2 (ts.length+1))
 (gp:yy h' h.objs.size x y)(k:∀c o,c≠z->c≠TO->c≠i1->c≠i2->h.get? c=aa o->h'.get? c=aa o):
 ∃c,h'.get? S=aa {cls:=.type "list",dict:=ab,data:=.seq (ts.map cu).toArray c,slots:=#[]}/\Zs z TI TO i1 i2 l1 l2 S lo xs ys (h'.update S (dU (·.push (.ref h.objs.size)))) (ts++[h.objs.size]):=by
 obtain⟨c,hS⟩:=d.lst
 have hS':=k S _ nS.1 nS.2.1 nS.2.2.1 nS.2.2.2.1 hS
 have up:∀b o,b≠S->h'.get? b=aa o->(h'.update S (dU (·.push (.ref h.objs.size)))).get? b=aa o:=fun b o hb e=>(cv _ _ (dh hb)).trans e
 have big:=d.big
 have nlo:∀t,lo<=t->t≠z/\t≠TO/\t≠i1/\t≠i2/\t≠S:=fun t ht=>
  ⟨dm (bJ lw.1 ht),dm (bJ lw.2.1 ht),dm (bJ lw.2.2.1 ht),dm (bJ lw.2.2.2.1 ht),dm (bJ lw.2.2.2.2 ht)⟩
 have len:(ts++[h.objs.size]).length=ts.length+1:=by simp
 refine⟨c,hS',⟨.inr ⟨T,b,hT,up z _ nS.1.symm hz⟩,up TI _ nS.2.2.2.2.1.symm (k TI _ D.TIz D.TITO D.TIi1 D.TIi2 d.ti),?_,?_,?_,?_,fun j t hj=>?_,?_,?_,?_⟩⟩
 ·rw[len]
  exact g1.at fun o e=>up i1 o nS.2.2.1.symm e
 ·rw[len]
  exact g2.at fun o e=>up i2 o nS.2.2.2.1.symm e
 ·exact d.ls1.at fun o e=>up l1 o nS.2.2.2.2.2.1.symm (k l1 o D.l1z D.l1TO D.l1i1 D.l1i2 e)
 ·exact d.ls2.at fun o e=>up l2 o nS.2.2.2.2.2.2.symm (k l2 o D.l2z D.l2TO D.l2i1 D.l2i2 e)
 ·rcases lL j ts.length with q|q|q
  ·rw[eX q]at hj
   obtain⟨a,x',y',e1,e2,e3⟩:=d.got j t hj
   obtain⟨n1,n2,n3,n4,n5⟩:=nlo t a
   exact⟨a,x',y',e1,e2,up t _ n5 (k t _ n1 n2 n3 n4 e3)⟩
  ·subst q
   rw[hJ (bu _),FU]at hj
   cases hj
   exact⟨big,x,y,hx,hy,up _ _ (nlo _ big).2.2.2.2 gp⟩
  rw[dZ (by rw[len];omega)]at hj
  cases hj
 ·have g:=dQ (dU (·.push (cu h.objs.size))) hS' rfl
  have e:((ts++[h.objs.size]).map cu).toArray=(ts.map cu).toArray.push (.ref h.objs.size):=by simp
  rw[e]
  exact⟨_,g⟩
 ·rw[Um]
  refine⟨d.rise,oH _ _,fun a ha b hb=>?_⟩
  rw[bU.mp hb]
  exact d.low a ha
 rw[l8]
 have:=bG gp
 exact cR big (du this)
theorem Wf{R:Ey->a9->Prop}(hh:A.handled=ab)(D:Sy z TI TO i1 i2 l1 l2)(nS:S≠z/\S≠TO/\S≠i1/\S≠i2/\S≠TI/\S≠l1/\S≠l2)(lw:z<lo/\TO<lo/\i1<lo/\i2<lo/\S<lo)(res:aX)(sz:xs.size=ys.size)(j8:xs.size<=1000):
 ∀(m:Nat)(s:a9)(ts:ag),xs.size-ts.length=m->ts.length<=xs.size->Zs z TI TO i1 i2 l1 l2 S lo xs ys s.heap ts->
  (∀(h':Heap)(us:ag)(c:Nat),us.length=xs.size->us.Pairwise (· <·)->(∀(j:Nat)(t:Addr),us[j]?=aa t->lo<=t/\∃x y,xs[j]?=aa x/\ys[j]?=aa y/\yy h' t x y)->h'.get? S=aa {cls:=.type "list",dict:=ab,data:=.seq (us.map cu).toArray c,slots:=#[]}->
   (∀b o,b≠S->b≠z->b≠TO->b≠i1->b≠i2->s.heap.get? b=aa o->h'.get? b=aa o)->R (.ok (.ret res)) {s with heap:=h'})->
  jA (bK P w) A (.builtin "list.extend.loop" ⟨[.ref S,.ref z,res],[]⟩) R s:=by
 intro m
 have nlo:∀t,lo<=t->t≠z/\t≠TO/\t≠i1/\t≠i2/\t≠S:=fun t ht=>
  ⟨dm (bJ lw.1 ht),dm (bJ lw.2.1 ht),dm (bJ lw.2.2.1 ht),dm (bJ lw.2.2.2.1 ht),dm (bJ lw.2.2.2.2 ht)⟩
 induction m with
 |zero=>
  intro s ts hk hi d q
  have e:ts.length=xs.size:=by omega
  refine je Jj ?_
  rw[iK ie _]
  show bM _ A.in1 (qH (.ref z)>>=_) _ _ s
  have hh1:A.in1.handled=ab:=by simpa using hh
  obtain⟨c,hS⟩:=d.lst
  have fin:∀h',(∀c o,c≠z->c≠TO->c≠i1->c≠i2->s.heap.get? c=aa o->h'.get? c=aa o)->R (.ok (.ret res)) {s with heap:=h'}:=fun h' k=>by
   refine q h' ts c e d.rise (fun j t hj=>?_) (k S _ nS.1 nS.2.1 nS.2.2.1 nS.2.2.2.1 hS) fun b o _ b1 b2 b3 b4 x=>k b o b1 b2 b3 b4 x;obtain⟨a,x',y',e1,e2,e3⟩:=d.got j t hj;obtain⟨n1,n2,n3,n4,n5⟩:=nlo t a;exact⟨a,x',y',e1,e2,k t _ n1 n2 n3 n4 e3⟩
  have hn:xs[ts.length]?=ab:=by simp[e]
  rcases d.zip with⟨en,hz,a,b,Zn⟩|⟨T,b,hT,hz⟩
  ·exact aP (wpAny_pyNext_zip_end hh1 D hz d.ti Zn d.it1 d.it2 d.ls1 d.ls2 (.inl hn) fun h' k=>bg (fin h' k))
  have al:∃o,s.heap.get? T=aa o:=by
   cases ts with
   |nil=>cases hT
   |cons t r=>
    cases hT;obtain⟨_,_,_,_,_,g⟩:=d.got 0 T rfl;exact⟨_,g⟩
  exact aP (N4 hh1 D hz al d.ti d.it1 d.ls1 hn fun h' k=>bg (fin h' fun c o c1 _ c3 _ x=>k c o c1 c3 x))
 |succ m ih=>
  intro s ts hk hi d q
  have lt:ts.length<xs.size:=by omega
  obtain⟨x,hx⟩:∃x,xs[ts.length]?=aa x:=⟨xs[ts.length],by simp[lt]⟩
  obtain⟨y,hy⟩:∃y,ys[ts.length]?=aa y:=⟨ys[ts.length]'(by omega),by simp[show ts.length<ys.size by omega]⟩
  refine je Jj ?_
  rw[iK ie _]
  show bM _ A.in1 (qH (.ref z)>>=_) _ _ s
  have on:∀(h':Heap)(T:Addr)(b:Bool),(ts++[s.heap.objs.size]).head?=aa T->h'.get? z=aa (zO (.int (T:Nat) 0) b TI TO)->h'.IsListIter i1 l1 (ts.length+1)->h'.IsListIter i2 l2 (ts.length+1)->yy h' s.heap.objs.size x y->
   (∀c o,c≠z->c≠TO->c≠i1->c≠i2->s.heap.get? c=aa o->h'.get? c=aa o)->
   bM (bK P w) A.in1 (FY (.ref S) (·.push (.ref s.heap.objs.size))>>=fun _=>again (.builtin "list.extend.loop" ⟨[.ref S,.ref z,res],[]⟩))
    (fun fin s'=>match fin with|.done f=>R (.ok f) s'|.again c'=>c'.quiet=ae/\jA (bK P w) A c' R s') (fun e s'=>R (.error e) s') {s with heap:=h'}:=fun h' T b hT hz g1 g2 gp k=>by
   obtain⟨c,hS,dn⟩:=d.next D nS lw hx hy hT hz g1 g2 gp k
   have len:(ts++[s.heap.objs.size]).length=ts.length+1:=by simp
   show bM _ A.in1 (E2 S (·.push (.ref s.heap.objs.size))>>=_) _ _ _
   refine aP (o4 hS rfl (bg ⟨oQ ie _,ih _ (ts++[s.heap.objs.size]) (by rw[len];omega) (by rw[len];omega) dn fun h2 us c2 e1 e2 e3 e4 e5=>?_⟩) ?_)
   ·exact q h2 us c2 e1 e2 e3 e4 fun b o b0 b1 b2 b3 b4 x=>e5 b o b0 b1 b2 b3 b4 ((cv _ _ (dh b0)).trans (k b o b1 b2 b3 b4 x))
   simp[bZ]
   omega
  rcases d.zip with⟨en,hz,a,b,Zn⟩|⟨T,b,hT,hz⟩
  ·refine aP (wpAny_pyNext_zip_item D hz d.ti Zn d.it1 d.it2 d.ls1 d.ls2 hx hy fun h' z' p' g1 g2 gp _ k=>?_)
   exact on h' s.heap.objs.size af (by rw[en];rfl) z' g1 g2 gp k
  have al:∃o,s.heap.get? T=aa o:=by
   cases ts with
   |nil=>cases hT
   |cons t r=>
    cases hT;obtain⟨_,_,_,_,_,g⟩:=d.got 0 T rfl;exact⟨_,g⟩
  refine aP (Ln D hz al d.ti d.it1 d.it2 d.ls1 d.ls2 hx hy fun h' z' g1 g2 gp k=>?_)
  refine on h' T ae ?_ z' g1 g2 gp fun c o c1 _ c3 c4 x=>k c o c1 c3 c4 x
  cases ts with
  |nil=>cases hT
  |cons t r=>exact hT
end
end sP
end
section
namespace sP
open PySem PySem.Spec PyProof.Rows
theorem Ut:AX (.type "zip") "__len__"=pure ab:=by rw[Bf,rh];kernel_rfl
theorem QD:AX (.type "zip") "__length_hint__"=pure ab:=by rw[Bf,rh];kernel_rfl
section
variable{P:bY}{w:cX}{A:cZ}{E:ar}{s:a9}{z TI TO i1 i2 l1 l2:Addr}{xs ys:Array aX}
theorem Wg{Q:Bool->a9->Prop}(hT:s.TypeIs (.ref z) "zip")(h:Q ae s):bM (bK P w) A (iP (.ref z)) Q E s:=by
 unfold iP;refine aP (Be hT Ut ?_);refine jd (fun z=>absurd z (by decide)) fun _=>?_;refine jd (fun z=>absurd z (by decide)) fun _=>?_;refine aP (Be hT QD ?_);exact bg h
theorem XT{Q:ar}(hh:A.handled=ab)(D:Sy z TI TO i1 i2 l1 l2)(hz:IsZip s.heap z TI TO .none)(hTI:yy s.heap TI (.ref i1) (.ref i2))(Zn:∃a b,yy s.heap TO a b)(h1:s.heap.IsListIter i1 l1 0)(h2:s.heap.IsListIter i2 l2 0)
 (NQ:s.heap.IsList l1 xs)(uw:s.heap.IsList l2 ys)(sz:xs.size=ys.size)(j8:xs.size<=1000)
 (q:∀(h':Heap)(us:ag)(c:Nat),us.length=xs.size->us.Pairwise (· <·)->(∀(j:Nat)(t:Addr),us[j]?=aa t->s.heap.objs.size<t/\∃x y,xs[j]?=aa x/\ys[j]?=aa y/\yy h' t x y)->h'.get? s.heap.objs.size=aa {cls:=.type "list",dict:=ab,data:=.seq (us.map cu).toArray c,slots:=#[]}->
  (∀b o,b≠z->b≠TO->b≠i1->b≠i2->s.heap.get? b=aa o->h'.get? b=aa o)->Q (.ref s.heap.objs.size) {s with heap:=h'}):
 bM (bK P w) A (call (.type "list") [.ref z]) Q E s:=by
 refine callType_codes (Q₁:=fun v s₁=>v=.ref s.heap.objs.size/\s₁={s with heap:=s.heap.push {cls:=.type "list",data:=.seq #[]}}) PySem.F.called_list (PySem.F.typeCall_list_1 _) PySem.F.entry_list_init (code_list_new _ ⟨rfl,rfl⟩) fun obj s₁ e₁=>?_
 obtain⟨rfl,rfl⟩:=e₁
 have g0:(s.heap.push {cls:=.type "list",data:=.seq #[]}).get? s.heap.objs.size=aa {cls:=.type "list",data:=.seq #[]}:=bI _ rfl
 refine⟨⟨_,g0,rfl⟩,PySem.F.args_list_init_2 _ _,?_⟩
 obtain⟨a0,b0,Zn⟩:=Zn
 have hzl:z<s.heap.objs.size:=bG hz
 have agZ:TI<s.heap.objs.size:=bG hTI
 have aeh:TO<s.heap.objs.size:=bG Zn
 have aea:i1<s.heap.objs.size:=let⟨_,e,_⟩:=h1;bG e
 have ad9:i2<s.heap.objs.size:=let⟨_,e,_⟩:=h2;bG e
 have agO:l1<s.heap.objs.size:=let⟨_,e,_⟩:=NQ;bG e
 have agN:l2<s.heap.objs.size:=let⟨_,e,_⟩:=uw;bG e
 generalize hS0:s.heap.objs.size=S at g0 hzl agZ aeh aea ad9 agO agN q⊢
 generalize hp:s.heap.push {cls:=.type "list",data:=.seq #[]}=hA at g0
 have kA:Kept s.heap hA:=hp▸Kept.push
 have szA:hA.objs.size=S+1:=by rw[<-hp,dB,hS0]
 show bM _ _ (do let old<-GC (.ref S);FY (.ref S) (fun _=>#[]);letGo old.toList.reverse;iQ (.ref S) (.ref z) .none) _ _ _
 unfold GC
 refine aP (aP (Es g0 rfl (bg ?_)))
 show bM _ _ (E2 S (fun _=>#[])>>=fun _=>letGo (#[]:Array aX).toList.reverse>>=fun _=>iQ (.ref S) (.ref z) .none) _ _ _
 refine aP (o4 g0 rfl ?_)
 have g1:=dQ (dU (fun _=>(#[]:Array aX))) g0 rfl
 have Tu:∀(b:Addr)(o:Obj),b≠S->hA.get? b=aa o->(hA.update S (dU (fun _=>(#[]:Array aX)))).get? b=aa o:=fun b o hb e=>(cv _ _ (dh hb)).trans e
 have szB:(hA.update S (dU (fun _=>(#[]:Array aX)))).objs.size=S+1:=by rw[l8,szA]
 generalize hA.update S (dU (fun _=>(#[]:Array aX)))=hB at g1 Tu szB
 refine aP (wpAny_letGo ?_)
 have kB:∀b o,b≠S->s.heap.get? b=aa o->hB.get? b=aa o:=fun b o hb e=>Tu b o hb (kA b o e)
 have hzB:=kB z _ (ck hzl) hz
 unfold iQ
 refine aP (Y1 (T:="zip") ⟨_,hzB,rfl⟩ ?_)
 have e1:lN (.ref S) (.ref z)=af:=by simp[lN,dm hzl]
 have e2:(iV "zip"==iV "list")=af:=by decide
 have e3:(iV "zip"==iV "tuple")=af:=by decide
 simp only[e1,e2,e3,lg,cD,if_false]
 refine aP (wpAny_pyIter_zip hzB ?_)
 refine aP (d8 (Wg ⟨_,hzB,rfl⟩ ?_))
 have nS:S≠z/\S≠TO/\S≠i1/\S≠i2/\S≠TI/\S≠l1/\S≠l2:=⟨dm hzl,dm aeh,dm aea,dm ad9,dm agZ,dm agO,dm agN⟩
 have lw:z<S+1/\TO<S+1/\i1<S+1/\i2<S+1/\S<S+1:=⟨eU hzl,eU aeh,eU aea,eU ad9,eQ _⟩
 have key:∀(h:Heap)(c:Nat),h.objs.size=S+1->(∀b o,b≠S->s.heap.get? b=aa o->h.get? b=aa o)->h.get? S=aa {cls:=.type "list",data:=.seq #[] c}->
  jA (bK P w) A.in1 (.builtin "list.extend.loop" ⟨[.ref S,.ref z,.none],[]⟩) (wants (fun r s₂=>r=.none/\Q (.ref S) s₂) E) {s with heap:=h}:=fun h c hs k g=>by
  refine Wf (by simpa using hh) D nS lw .none sz j8 xs.size _ [] (by simp) (cC _) ⟨.inl ⟨rfl,k _ _ nS.1.symm hz,_,_,k _ _ nS.2.1.symm Zn⟩,k _ _ nS.2.2.2.2.1.symm hTI,h1.at fun o e=>k _ o nS.2.2.1.symm e,h2.at fun o e=>k _ o nS.2.2.2.1.symm e,NQ.at fun o e=>k _ o nS.2.2.2.2.2.1.symm e,
   uw.at fun o e=>k _ o nS.2.2.2.2.2.2.symm e,fun j t e=>by simp at e,⟨c,g⟩,kq,k4 hs.symm⟩ fun h' us c' f1 f2 f3 f4 f5=>⟨rfl,q h' us c' f1 f2 f3 f4 fun b o b1 b2 b3 b4 e=>?_⟩
  have bS:b≠S:=ck (hS0▸bG e)
  exact f5 b o bS b1 b2 b3 b4 (k b o bS e)
 refine jd (fun _=>?_) fun n=>absurd rfl n
 refine aP (IS (aP ?_))
 show bM _ _ (E2 S (·.push .none)>>=fun _=>E2 S (·.pop)) _ _ _
 refine aP (o4 g1 rfl ?_)
 have g2:=dQ (dU (·.push eG)) g1 rfl
 refine o4 (hz:=by seq_fits) g2 rfl ?_
 have g3:=dQ (dU (·.pop)) g2 rfl
 exact bg ⟨oQ ie _,key _ _ (by rw[l8,l8,szB]) (fun b o hb e=>(cv _ _ (dh hb)).trans ((cv _ _ (dh hb)).trans (kB b o hb e))) g3⟩
end
end sP
namespace XL
open PySem PySem.Spec PyProof.Rows L2 sP
section
variable{X:Cx}{pins:ah}{σ:L2.St}{H H':Hp}{s:a9}{h':Heap}
theorem Inv.more(I:Inv X pins σ H s)(t:Nat)(k:Kept s.heap h')(sm:∀b o,H b=aa o->H' b=aa o)(nw:∀b o,H' b=aa o->H b=aa o\/(s.heap.objs.size<=b/\jc X.prog X.w H' h' b o)):Inv X pins σ H' {s with heap:=h',toks:=t}:=by
 refine I.un (t':=t) ⟨fun b o e _ _ _=>k b o e,fun b o e _ _ _=>⟨o.slots,k b o e⟩,fun b o e n _=>?_,fun b o e _=>⟨o,k b o e⟩,fun b xs e=>sm b _ e,fun b o u e=>sm b _ e,fun b ps e=>⟨#[],by rw[sm b _ e];simp⟩⟩ fun b o e=>?_
 ·cases q:H' b with
  |none=>rfl
  |some u=>
   rcases nw b u q with z|⟨z,_⟩
   ·rw[n]at z;cases z
   exact absurd (bJ (bG e) z) (gC _)
 rcases nw b o e with z|⟨_,z⟩
 ·exact(I.gx b o z).tM (fun c v _ q=>k c v q) (fun c q=>sm c _ q) fun c xs q=>sm c _ q
 exact z
end
end XL
end
section
namespace XL
open PySem PySem.Spec PyProof.Rows L2 sP
theorem Nh:ip "list"=aa (.type "list"):=by decide+kernel
def Fq:ag->List (V×V)->Hp->Hp
 |t::ts,x::xs,H=>upd (Fq ts xs H) t (.tup [x.1,x.2])
 |_,_,H=>H
theorem HZ{H:Hp}:∀{ts:ag}{ps:List (V×V)}{b:Addr},b∉ts->Fq ts ps H b=H b
 |[],_,_,_=>rfl
 |_::_,[],_,_=>rfl
 |t::ts,p::ps,b,h=>by
  show upd (Fq ts ps H) t _ b=_;rw[bB (show b≠t from fun z=>h (by rw[z];exact bO ..))];exact HZ fun z=>h (bD _ z)
theorem TK{H:Hp}:∀{ts:ag}{ps:List (V×V)},ts.Nodup->ts.length=ps.length->fM (fun t (p:V×V)=>Fq ts ps H t=aa (.tup [p.1,p.2])) ts ps
 |[],[],_,_=>.nil
 |[],_::_,_,h=>by cases h
 |_::_,[],_,h=>by cases h
 |t::ts,p::ps,nd,h=>by
  obtain⟨n1,n2⟩:=iX.mp nd;have ih:=TK (H:=H) n2 (by simpa using h);refine .cons bf ?_
  have go:∀{as:ag}{qs:List (V×V)},(∀a∈as,a≠t)->fM (fun t (p:V×V)=>Fq ts ps H t=aa (.tup [p.1,p.2])) as qs->fM (fun u (q:V×V)=>Fq (t::ts) (p::ps) H u=aa (.tup [q.1,q.2])) as qs:=fun{as qs} hn pr=>by
   induction pr with
   |nil=>exact .nil
   |cons r _ ih2=>
    refine .cons ?_ (ih2 fun a ha=>hn a (bD _ ha));show upd (Fq ts ps H) t _ _=_;rw[bB (hn _ (bO ..))];exact r
  exact go (fun a ha z=>n1 (z▸ha)) ih
theorem Pd{H:Hp}:∀{ts:ag}{ps:List (V×V)}{b:Addr}{o:HO},Fq ts ps H b=aa o->H b=aa o\/∃(j:Nat)(p:V×V),ts[j]?=aa b/\ps[j]?=aa p/\o=.tup [p.1,p.2]
 |[],_,_,_,h=>.inl h
 |_::_,[],_,_,h=>.inl h
 |t::ts,p::ps,b,o,h=>by
  have h:upd (Fq ts ps H) t (.tup [p.1,p.2]) b=aa o:=h;by_cases e:b=t
  ·subst e;rw[bf]at h;cases h;exact .inr ⟨0,p,rfl,rfl,rfl⟩
  rw[bB e]at h;rcases Pd h with z|⟨j,q,e1,e2,e3⟩
  ·exact .inl z
  exact .inr ⟨j+1,q,by rw[oJ];exact e1,by rw[oJ];exact e2,e3⟩
theorem DF:∀us:ag,Vals (us.map V.ref) (us.map cu)
 |[]=>.nil
 |_::us=>.cons rfl (DF us)
inductive acO(K:aY)(Q:VK)(vs:ao)(H1:Hp):Prop
 |mk (a b:Addr) (xs ys:ao) (_:vs=[.ref a,.ref b]) (_:dw K H1 a xs) (_:dw K H1 b ys) (_:xs.length=ys.length) (_:xs.length<=1000) (_:∀(l:Addr)(ts:ag)(H2:Hp),H1 l=ab->bH H1 H2->H2 l=aa (.lst (ts.map V.ref))->fM (fun t (p:V×V)=>H2 t=aa (.tup [p.1,p.2])) ts (xs.zip ys)->Q (.ref l) H2)
def afx(K:aY)(ta:TA):TE:=fun σ H Q=>ta σ H fun vs H1=>acO K Q vs H1
theorem aac{X:Cx}{e e2:Expr}{ta:TA}{p p2 pos UM:Pos}(hc:X.calm=ae)(hl:Gl X "list")(hlm:X.mg "list"=ab)(hg:Gl X "zip")(hm:X.mg "zip"=ab)(ha:PA X [e,e2] ta)
 (hs:bX [e,e2] X.env=(af,eval e X.env)::bX [e2] X.env:=by rfl)(yT:(gz UM (bX [e2] X.env)).any (·.1)=af:=by rfl)
 (hs1:bX [.Call (.Name "zip" p2) [e,e2] [] UM] X.env=(af,eval (.Call (.Name "zip" p2) [e,e2] [] UM) X.env)::bX [] X.env:=by rfl)(hp1:(gz pos (bX [] X.env)).any (·.1)=af:=by rfl):
 PE X (.Call (.Name "list" p) [.Call (.Name "zip" p2) [e,e2] [] UM] [] pos) (afx X.K ta):=by
 intro pins s σ H Q I h
 refine fh (rQ I hl hlm Nh (callWith_type1 ?_ hs1 hp1) (by decide) (by decide))
 rw[hs1]
 show bM _ _ (E3 ((af,eval (.Call (.Name "zip" p2) [e,e2] [] UM) X.env)::gz pos (bX [] X.env))) _ _ s
 refine iA (Call_ (rQ I hg hm VG (callWith_type1 (ic (ha UM pins s σ H _ I h) fun us s1 ⟨vs,H1,I1,r1,q1⟩=>?_) hs yT)))
 obtain⟨a,b,xs,ys,ex,hqx,hqy,len,j8,q⟩:=q1
 subst ex
 cases r1 with
 |cons r rr=>
  cases rr with
  |cons r' rr=>
   cases rr
   cases r
   cases r'
   obtain⟨its,rv,p1,_⟩:=I1.list hqx
   obtain⟨Mn,rv2,p2,_⟩:=I1.list hqy
   have la:a<s1.heap.objs.size:=p1.lt
   have lb:b<s1.heap.objs.size:=p2.lt
   have n1:=rv.length
   have n2:=rv2.length
   refine call_zip_2 p1.isList p2.isList fun h' hz hTI Zn h1 h2 hsz hk=>?_
   refine jM ?_
   refine XT (s:={s1 with heap:=h'}) (I1.ok.hd hc) (PySem.W.ktu_apart s1.heap.objs.size a b la lb) hz hTI ⟨_,_,Zn⟩ h1 h2 (p1.isList.at fun o e=>hk a o e) (p2.isList.at fun o e=>hk b o e) (by simp only[b7];omega) (by simp only[b7];omega) fun h2 us c f1 f2 f3 f4 f5=>?_
   have hsz:h'.objs.size=s1.heap.objs.size+5:=hsz
   have f1:us.length=its.toArray.size:=f1
   rw[b7]at f1
   have lz:us.length=(xs.zip ys).length:=by rw[yu];omega
   have nd:us.Nodup:=f2.imp fun z=>ck z
   have big:∀t∈us,h'.objs.size<t:=fun t ht=>by
    obtain⟨j,hj⟩:=cz ht;exact(f3 j t hj).1
   have new:∀t,h'.objs.size<=t->H1 t=ab:=fun t ht=>I1.gx.fresh (cR (by rw[hsz];exact iH _ _) ht)
   have kp:Kept s1.heap h2:=fun x o e=>by
    have lx:=bG e;refine f5 x o ?_ ?_ ?_ ?_ (hk x o e)<;>exact ck (by first|exact lx|exact bJ lx (iH _ _))
   have hlS:h'.objs.size∉us:=fun z=>absurd (big _ z) (gC _)
   refine⟨.ref h'.objs.size,upd (Fq us (xs.zip ys) H1) h'.objs.size (.lst (us.map V.ref)),Inv.more (s:=s1) (h':=h2) I1 s1.toks kp (fun x o e=>?_) (fun x o e=>?_),rfl,q h'.objs.size us _ (new _ (bu _)) (fun x o e=>?_) bf ?_⟩
   ·have nx:x∉us:=fun z=>by rw[new x (du (big x z))]at e;cases e
    rw[bB (bP e (new _ (bu _))),HZ nx]
    exact e
   ·by_cases hx:x=h'.objs.size
    ·subst hx
     rw[bf]at e
     cases e
     refine .inr ⟨by rw[hsz];exact iH _ _,by rw[aV,bZ];omega,us.map cu,c,?_,f4⟩
     exact DF us
    rw[bB hx]at e
    rcases Pd e with z|⟨j,p,e1,e2,e3⟩
    ·exact .inl z
    subst e3
    obtain⟨g1,x',y',g2,g3,g4⟩:=f3 j x e1
    have hp:xs[j]?=aa p.1/\ys[j]?=aa p.2:=by
     rw[mC]at e2;exact e2
    obtain⟨u1,w1,w2⟩:=rv.get hp.1
    obtain⟨u2,w3,w4⟩:=rv2.get hp.2
    have ex:u1=x':=by
     have g2:its.toArray[j]?=aa x':=g2;rw[<-eK]at g2;simp only at g2;rw[w1]at g2;exact bT g2
    have ey:u2=y':=by
     have g3:Mn.toArray[j]?=aa y':=g3;rw[<-eK]at g3;simp only at g3;rw[w3]at g3;exact bT g3
    subst ex ey
    refine .inr ⟨du (oF (by rw[hsz];exact iH _ _) g1),by show 2<=bz;decide,[u1,u2],.cons w2 (.cons w4 .nil),⟨_,g4,rfl,_,rfl⟩⟩
   ·have nx:x∉us:=fun z=>by rw[new x (du (big x z))]at e;cases e
    rw[bB (bP e (new _ (bu _))),HZ nx]
    exact e
   have pr:=TK (H:=H1) nd lz
   have go:∀{as:ag}{qs:List (V×V)},(∀a∈as,a∈us)->fM (fun t (p:V×V)=>Fq us (xs.zip ys) H1 t=aa (.tup [p.1,p.2])) as qs->fM (fun t (p:V×V)=>upd (Fq us (xs.zip ys) H1) h'.objs.size (.lst (us.map V.ref)) t=aa (.tup [p.1,p.2])) as qs:=fun{as qs} hn pr=>by
    induction pr with
    |nil=>exact .nil
    |cons r _ ih2=>
     refine .cons ?_ (ih2 fun a ha=>hn a (bD _ ha));refine(bB fun z=>hlS ?_).trans r;rw[<-z];exact hn _ (bO ..)
   exact go (fun a ha=>ha) pr
end XL
end
section
namespace sP
open PySem PySem.Spec PyProof.Rows
section
variable{P:bY}{w:cX}{A:cZ}{E:ar}{s:a9}
structure abc(P:bY)(w:cX)(KA:Nat->aX->Heap->Prop)(κ:Heap->KeyKind)(kd:SortKind):Prop where
 tM:∀i k h h',Zj h h'->KA i k h->KA i k h'
 lt:∀s₂:a9,G.LtAt P w s₂ (κ s₂.heap) kd
 key:∀i k h,KA i k h->∃l,(κ h).keyOf k=aa l
 kind:∀(s₂:a9)(ks:au),2<=ks.length->(∀(i:Nat)(k:aX),ks[i]?=aa k->KA i k s₂.heap)->∀(A:cZ)(E:ar)(Q:SortKind->a9->Prop),Q kd s₂->bM (bK P w) A (keyKind' ks.toArray) Q E s₂
def VO(a:Addr)(h h':Heap):Prop:=∀b o,b≠a->h.get? b=aa o->h'.get? b=aa o
theorem XZ{KA:Nat->aX->Heap->Prop}{κ:Heap->KeyKind}{kd:SortKind}{f:aX}{a:Addr}{vs:au}{n:Nat}{R:PySem.Fin->a9->Prop}(K:abc P w KA κ kd)(ho:s.heap.get? a=aa (iS "list" vs.toArray n))(j8:vs.length<=1000)
 (turn:∀(i:Nat)(v:aX),vs[i]?=aa v->∀(h:Heap)(tk:Nat),VO a s.heap h->bM (bK P w) A (call f [v]) (fun k s₂=>∃h' tk',s₂={s with heap:=h',toks:=tk'}/\Kept h h'/\KA i k h') (fun _ _=>False) {s with heap:=h,toks:=tk})
 (q:∀(h' h2:Heap)(tk c:Nat)(keys:au)(ps:Array Keyed),VO a s.heap h'->h'.get? a=aa (iS "list" (ps.map (·.2)) c)->keys.length=vs.length->(∀(i:Nat)(k:aX),keys[i]?=aa k->KA i k h2)->ps.Perm (keys.zip vs).toArray->NG (κ h2) ps ps.size->
  Stable (κ h2) ps (keys.zip vs).toArray->R (.done (.ret .none)) {s with heap:=h',toks:=tk}):
 bM (bK P w) A (ksk_tree a f af) R E s:=by
 have sl:=bZ
 have la:a<s.heap.objs.size:=bG ho
 unfold ksk_tree
 refine aP (listItems_at ho rfl ?_)
 refine aP (Gr ho rfl ?_ (by rw[b7];omega) (cC _))
 obtain⟨e1,g1⟩:∃e1,(s.heap.update a (dU fun _=>(#[]:Array aX))).get? a=aa (iS "list" #[] e1):=⟨_,Qg ho fun _=>#[]⟩
 refine aP (seqEpoch_at g1 rfl ?_)
 have b1:VO a s.heap (s.heap.update a (dU fun _=>(#[]:Array aX))):=fun b o nb e=>(cv _ _ (dh nb)).trans e
 have z1:(s.heap.update a (dU fun _=>(#[]:Array aX))).objs.size=s.heap.objs.size:=l8 _ _ _
 generalize s.heap.update a (dU fun _=>(#[]:Array aX))=h1 at g1 b1 z1
 refine aP (Sl ?_ (by show vs.length<=_;omega))
 refine aP (VP ?_ (cC _))
 refine d8 ?_
 have z2:(h1.push (iS "tuple" vs.toArray 0)).objs.size=s.heap.objs.size+1:=by rw[dB,z1]
 show bM _ _ (ksk_rest a f af vs.toArray e1 (.ref (h1.push (iS "tuple" vs.toArray 0)).objs.size)) _ _ {s with heap:=(h1.push (iS "tuple" vs.toArray 0)).push (iS "list" #[] 0)}
 rw[z2]
 have gk:((h1.push (iS "tuple" vs.toArray 0)).push (iS "list" #[] 0)).get? (s.heap.objs.size+1)=aa (iS "list" #[] 0):=by rw[<-z2];exact bI _ rfl
 have ga:((h1.push (iS "tuple" vs.toArray 0)).push (iS "list" #[] 0)).get? a=aa (iS "list" #[] e1):=ba _ (ba _ g1)
 have bb:VO a s.heap ((h1.push (iS "tuple" vs.toArray 0)).push (iS "list" #[] 0)):=fun b o nb e=>ba _ (ba _ (b1 b o nb e))
 generalize(h1.push (iS "tuple" vs.toArray 0)).push (iS "list" #[] 0)=h3 at gk ga bb
 have nka:s.heap.objs.size+1≠a:=dm (eU la)
 generalize hkS:s.heap.objs.size+1=kS at gk nka
 have old:∀b o,s.heap.get? b=aa o->b≠kS:=fun b o e=>by rw[<-hkS];exact ck (eU (bG e))
 unfold ksk_rest
 refine aP (IS ?_)
 rw[<-C3]
 simp only[Bk]
 refine aP (ksk_fold (fun i s'=>∃(h':Heap)(tk:Nat)(kA:Array aX)(e:Nat),s'={s with heap:=h',toks:=tk}/\VO a s.heap h'/\h'.get? a=aa (iS "list" #[] e1)/\h'.get? kS=aa (iS "list" kA e)/\kA.size=i/\∀(j:Nat)(k:aX),kA.toList[j]?=aa k->KA j k h') vs 0 _
  ⟨h3,s.toks,#[],0,rfl,bb,ga,gk,rfl,fun j k e=>by simp at e⟩ ?_ ?_)
 ·rintro j x s' hx ⟨h',tk,kA,e,rfl,b',a',k',sz,ks⟩
  rw[SA]at sz⊢
  have hj:j<vs.length:=(aZ.mp hx).1
  refine aP (oP (eE (turn j x hx h' tk b') (fun v s'' he=>?_) fun _ _ hF=>hF.elim))
  obtain⟨g,tk2,rfl,kp,ka⟩:=he
  simp only
  obtain⟨c2,hc2⟩:∃c2,(g.update kS (dU (·.push v))).get? kS=aa (iS "list" (kA.push v) c2):=⟨_,Qg (kp _ _ k') (·.push v)⟩
  have up:∀b o,b≠kS->g.get? b=aa o->(g.update kS (dU (·.push v))).get? b=aa o:=fun b o nb e=>(cv _ _ (dh nb)).trans e
  have kt:Zj g (g.update kS (dU (·.push v))):=G.KeepsTups.update _ (kp _ _ k') G.not_tuple_list
  have kt0:Zj h' g:=fun b o e _=>kp b o e
  refine aP (Gr (kp _ _ k') rfl ?_ (by omega) (by rw[ZH];omega))
  refine bg ⟨rfl,_,_,kA.push v,c2,rfl,fun b o nb e0=>up b o (old b o e0) (kp _ _ (b' b o nb e0)),up a _ nka.symm (kp _ _ a'),hc2,by rw[ZH,sz],fun i k hi=>?_⟩
  rw[ED]at hi
  rcases jh i j with q1|q1
  ·rw[eX (by rw[c7];omega)]at hi
   exact K.tM _ _ _ _ (kt0.trans kt) (ks i k hi)
  rcases jh j i with q2|q2
  ·rw[dZ (by rw[bR,c7];show _<=i;simp;omega)]at hi
   cases hi
  have ei:i=j:=by omega
  subst ei
  rw[hJ (by rw[c7];omega),c7,sz,FU]at hi
  cases hi
  exact K.tM _ _ _ _ kt ka
 rintro s' ⟨h',tk,kA,e,rfl,b',a',k',sz,ks⟩
 rw[SA]at sz
 refine aP (listItems_at k' rfl ?_)
 have lz:kA.toList.length=vs.length:=by rw[c7,sz]
 have ez:kA.zip vs.toArray=(kA.toList.zip vs).toArray:=by
  apply Kf;simp
 have zs:(kA.zip vs.toArray).size=vs.length:=by rw[Array.size_zip,sz,b7,FV]
 have tail:∀st:SortSt,(Ex st).Perm (kA.zip vs.toArray)->failedOf st=ab->NG (κ h') (Ex st) (Ex st).size->Stable (κ h') (Ex st) (kA.zip vs.toArray)->bM (bK P w) A (ksk_tail a af e1 (.ref kS) st) R E {s with heap:=h',toks:=tk}:=fun st pm fl so sb=>by
  unfold ksk_tail;simp only;refine aP (Gr k' rfl ?_ (by omega) (cC _));have up:∀b o,b≠kS->h'.get? b=aa o->(h'.update kS (dU fun _=>(#[]:Array aX))).get? b=aa o:=fun b o nb e=>(cv _ _ (dh nb)).trans e;have a2:=up a _ nka.symm a';refine aP (wpAny_letGo (aP (seqEpoch_at a2 rfl ?_)));have os:((Ex st).map (·.2)).size<=bz+1:=by rw[Array.size_map,pm.size_eq,zs];omega
  refine aP (Gr a2 rfl ?_ (cC _) os);rw[fl];simp only[bne_self_eq_false,cD,if_false];obtain⟨c2,hc2⟩:∃c2,((h'.update kS (dU fun _=>(#[]:Array aX))).update a (dU fun _=>(Ex st).map (·.2))).get? a=aa (iS "list" ((Ex st).map (·.2)) c2):=⟨_,Qg a2 fun _=>(Ex st).map (·.2)⟩;refine bg (q _ h' _ c2 kA.toList (Ex st) (fun b o nb e0=>(cv _ _ (dh nb)).trans (up b o (old b o e0) (b' b o nb e0))) hc2 lz ks (by rw[<-ez];exact pm) so (by rw[<-ez];exact sb))
 unfold ksk_end
 simp only[cD,if_false]
 by_cases h2:vs.toArray.size<2
 ·rw[da h2,da h2]
  refine aP (bg ?_)
  rw[StateT.run_pure]
  refine aP (bg ?_)
  refine tail (SortSt.mk' general' (kA.zip vs.toArray) #[] 7 ab) (SI _) rfl (fun i j hij hj=>?_) (Stable.refl _)
  have hj2:j<(kA.zip vs.toArray).size:=hj
  rw[b7]at h2
  have ei:i=j:=by omega
  subst ei
  exact KeyOrd.kle_refl _
 rw[cQ h2,cQ h2]
 rw[b7]at h2
 have ek:kA=kA.toList.toArray:=by simp
 have kn:=K.kind {s with heap:=h',toks:=tk} kA.toList (by omega) ks A E
 rw[<-ek]at kn
 refine aP (kn _ ?_)
 refine aP (eE (G.wpS_sortRunsSt (κ:=κ h') (kd:=kd) (a₀:=kA.zip vs.toArray) (st:=SortSt.mk' kd (kA.zip vs.toArray) #[] 7 ab)
  (Q:=fun _ GQ=>(Ex GQ).Perm (kA.zip vs.toArray)/\failedOf GQ=ab/\NG (κ h') (Ex GQ) (Ex GQ).size/\Stable (κ h') (Ex GQ) (kA.zip vs.toArray))
  (K.lt {s with heap:=h',toks:=tk}) (fun p hp=>?_) ⟨SI _,rfl,rfl⟩ rfl (Stable.refl _) (by rw[zs];omega) fun GQ c1 c2 c3 c4=>⟨c1,c2,by rw[c1.size_eq];exact c3,c4⟩) ?_ fun _ _ e=>e)
 ·rw[ez]at hp
  have hm:=(nO (show(p.1,p.2)∈kA.toList.zip vs from by simpa using hp)).1
  obtain⟨i,hi⟩:=cz hm
  exact K.key i _ _ (ks i _ hi)
 rintro⟨⟨⟩,GQ⟩ s' ⟨rfl,c1,c2,c3,c4⟩
 exact tail GQ c1 c2 c3 c4
end
def agn(kz:List Int):Nat->aX->Heap->Prop:=fun i k _=>∃n t,kz[i]?=aa n/\k=.int n t
theorem TN{kz:List Int}:∀{ks:au},ks.length=kz.length->(∀(i:Nat)(k:aX),ks[i]?=aa k->∃n t,kz[i]?=aa n/\k=.int n t)->kf ks kz:=by
 induction kz with
 |nil=>
  intro ks h _;have e:ks=[]:=oI.mp h;subst e;exact .nil
 |cons n kz ih=>
  intro ks h f;cases ks with
  |nil=>cases h
  |cons k ks=>
   obtain⟨m,t,e1,e2⟩:=f 0 k rfl;cases e1;subst e2;exact .cons n t (ih (by simpa using h) fun i k hi=>by simpa using f (i+1) k (by simpa using hi))
theorem adL{P:bY}{w:cX}(kz:List Int):abc P w (agn kz) (fun _=>PyProof.Rows.intKind) oneType' where
 tM:=fun _ _ _ _ _ h=>h
 lt:=fun s A E x y a b Q hx hy q=>by
  rw[keyLt'_oneType];exact intKind_oneLt _ _ A E s x y a b hx hy q
 key:=fun i k h ⟨n,t,_,e⟩=>by
  subst e;exact⟨n,rfl⟩
 kind:=fun s ks h2 f A E Q q=>by
  have zY:∃ms,kf ks ms:=by
   clear h2 q;have f2:∀(i:Nat)(k:aX),ks[i]?=aa k->∃n t,k=.int n t:=fun i k hi=>let⟨n,t,_,e⟩:=f i k hi;⟨n,t,e⟩
   clear f;induction ks with
   |nil=>exact⟨[],.nil⟩
   |cons k ks ih=>
    obtain⟨n,t,e⟩:=f2 0 k rfl;subst e;obtain⟨ms,hm⟩:=ih fun i k hi=>f2 (i+1) k (by simpa using hi);exact⟨n::ms,.cons n t hm⟩
  obtain⟨ms,hm⟩:=zY;rw[ksk_kind (keys:=ks.toArray) (by simpa using hm) (by simpa using h2)];exact bg q
def Xq(x y:Int)(t u:Tok)(n:Nat):Obj:={cls:=.type "tuple",data:=.seq #[.int x t,.int y u] n}
def X0(kz:List (Int×Int)):Nat->aX->Heap->Prop:=fun i k h=>∃x y a t u n,kz[i]?=aa (x,y)/\k=.ref a/\h.get? a=aa (Xq x y t u n)
def WV:Nat->Bool:=fun _=>af
theorem HB{h:Heap}{a:Addr}{x y:Int}{t u:Tok}{n:Nat}(e:h.get? a=aa (Xq x y t u n)):Dj h WV (.ref a)=aa [cN x,cN y]:=by
 have e1:G.isTupObj h (.ref a)=ae:=by unfold G.isTupObj;simp only[e];rfl
 unfold Dj;rw[da e1];unfold tupKey;simp only[e];rfl
theorem aax{P:bY}{w:cX}(kz:List (Int×Int)):abc P w (X0 kz) (fun h=>Qj h WV) (tuples' ae) where
 tM:=fun i k h h' kt ⟨x,y,a,t,u,n,e1,e2,e3⟩=>⟨x,y,a,t,u,n,e1,e2,kt a _ e3 rfl⟩
 lt:=fun s=>G.tupC_ltAt ae (G.KeepsTups.refl _)
 key:=fun i k h ⟨x,y,a,t,u,n,e1,e2,e3⟩=>by
  subst e2;exact⟨_,HB e3⟩
 kind:=fun s ks h2 f A E Q q=>by
  have Fb:∃fs,TupsOf s.heap WV ks fs/\fs.length=ks.length:=by
   clear h2 q
   have f2:∀(i:Nat)(k:aX),ks[i]?=aa k->∃g,TupOf s.heap WV k g:=fun i k hi=>by
    obtain⟨x,y,a,t,u,n,e1,e2,e3⟩:=f i k hi;exact⟨.int x t,a,_,_,_,e2,e3,rfl,rfl,rfl,fun _=>⟨x,t,rfl⟩,fun z=>by cases z⟩
   clear f;induction ks with
   |nil=>exact⟨[],.nil,rfl⟩
   |cons k ks ih=>
    obtain⟨g,hg⟩:=f2 0 k rfl;obtain⟨fs,hf,hl⟩:=ih fun i k hi=>f2 (i+1) k (by simpa using hi);exact⟨g::fs,.cons hg hf,by simp[hl]⟩
  obtain⟨fs,hf,hl⟩:=Fb;exact tup_kind (by omega) hf q
def NN(h:Heap)(v:aX):Int×Int:=match Dj h WV v with
 |some [.inl x,.inl y]=>(x,y)
 |_=>(0,0)
def leP(a b:Int×Int):Prop:=a.1<b.1\/(a.1=b.1/\a.2<=b.2)
theorem US{kz:List (Int×Int)}{vs keys:au}{h:Heap}{ps:Array Keyed}(lk:keys.length=vs.length)(lz:kz.length=vs.length)(ka:∀(i:Nat)(k:aX),keys[i]?=aa k->X0 kz i k h)(pm:ps.Perm (keys.zip vs).toArray)
 (so:NG (Qj h WV) ps ps.size):∃qs:List ((Int×Int)×aX),qs.Perm (kz.zip vs)/\(ps.map (·.2)).toList=qs.map (·.2)/\qs.Pairwise fun p q=>leP p.1 q.1:=by
 have pl:ps.toList.Perm (keys.zip vs):=by simpa using Array.perm_iff_toList_perm.mp pm
 have kx:∀p∈keys.zip vs,∃x y,Dj h WV p.1=aa [cN x,cN y]:=fun p hp=>by
  have hm:=(nO (show(p.1,p.2)∈keys.zip vs from hp)).1;obtain⟨i,hi⟩:=cz hm;obtain⟨x,y,a,t,u,n,e1,e2,e3⟩:=ka i _ hi;rw[e2];exact⟨x,y,HB e3⟩
 have e1:(keys.zip vs).map (fun p=>(NN h p.1,p.2))=kz.zip vs:=by
  have:keys.map (NN h)=kz:=by
   refine vc fun i=>?_;rw[bL];cases hk:keys[i]? with
   |none=>
    have:=ir.mp hk;rw[dZ (by omega)];rfl
   |some k=>
    obtain⟨x,y,a,t,u,n,e1,e2,e3⟩:=ka i k hk;rw[e1,e2];show aa (NN h (.ref a))=_;unfold NN;rw[HB e3]
  rw[<-this,List.zip_map_left];rfl
 refine⟨ps.toList.map fun p=>(NN h p.1,p.2),by rw[<-e1];exact pl.map _,by rw[Array.toList_map,dC];rfl,?_⟩
 rw[fU]
 intro i j hi hj hij
 have hi':i<ps.size:=by simpa using hi
 have hj':j<ps.size:=by simpa using hj
 have z:=so i j (du hij) hj'
 obtain⟨x1,y1,k1⟩:=kx ps[i] (pl.mem_iff.mp (by simp))
 obtain⟨x2,y2,k2⟩:=kx ps[j] (pl.mem_iff.mp (by simp))
 have f1:KK (Qj h WV) ps i=[cN x1,cN y1]:=by
  unfold KK;rw[getElem?_pos ps i hi'];show(Dj h WV ps[i].1).getD []=_;rw[k1];rfl
 have f2:KK (Qj h WV) ps j=[cN x2,cN y2]:=by
  unfold KK;rw[getElem?_pos ps j hj'];show(Dj h WV ps[j].1).getD []=_;rw[k2];rfl
 rw[f1,f2]at z
 have z:lexLt itemOrd [cN x2,cN y2] [cN x1,cN y1]=af:=z
 simp only[l7,zI]
 have g1:NN h ps[i].1=(x1,y1):=by unfold NN;rw[k1]
 have g2:NN h ps[j].1=(x2,y2):=by unfold NN;rw[k2]
 rw[g1,g2,leP]
 rw[lex_false,lex_false]at z
 obtain⟨a1,a2⟩:=z
 have a1:¬x2<x1:=of_decide_eq_false a1
 simp only
 rcases a2 with a2|⟨a2,_⟩
 ·have a2:x1<x2:=of_decide_eq_true a2
  exact .inl a2
 have a2:¬y2<y1:=of_decide_eq_false a2
 rcases EC (Int.not_lt.mp a1)with q|q
 ·exact .inl q
 exact .inr ⟨q,Int.not_lt.mp a2⟩
section
variable{P:bY}{w:cX}{A:cZ}{E:ar}{s:a9}
abbrev agm(qual:Str)(ps:vk)(body:Expr)(sc:kG)(cl:ai)(pm:aX)(c:Addr)(ct:aX):Obj:=qJ "<lambda>" qual ps body sc cl pm c ct
theorem Pe{qual:Str}{ps:vk}{body:Expr}{sc:kG}{cl:ai}{pm ct v:aX}{c f:Addr}{x:Str}{Q:ar}(lim:s.heap.NoLimit)(room:A.depth<Sn)(hf:s.heap.get? f=aa (agm qual ps body sc cl pm c ct))(hc:s.heap.CodeRec (.ref c) qual)
 (hb:oR (IY "<lambda>" qual ps body sc cl pm (.ref c) ct) ⟨[v],[]⟩=pure [(x,v)])(hx:sc.names.lookup x=aa .local)(nc:∀y∈sc.names,y.2≠ .cell)(co:sc.isCoroutine=af)(ge:sc.isGenerator=af)(hk:sc.kind=.function)
 (h:∀(h1:Heap)(L:Addr),h1.Ns L (fun y=>[(x,v)].lookup y)->Kept s.heap h1->bM (bK P w) (A.deeper (PySem.W.envX qual sc L f (.ref c) cl)) (eval body (PySem.W.envX qual sc L f (.ref c) cl)) Q (fun _ _=>False) {s with heap:=h1,toks:=s.toks+1}):
 bM (bK P w) A (call (.ref f) [v]) Q E s:=by
 refine m8 (PySem.W.kla_callFunE room hf rfl co ge rfl hc ?_)
 rw[hb]
 refine bg (wpAny_newFunctionEnv nc (fun y hy=>?_) (fun h1 ns sb=>⟨lim.fresh _ sb,?_⟩) hk)
 ·rw[bU.mp hy]
  exact hx
 have kp:Kept s.heap h1:=fun b o e=>sb.extBut b o (ck (bG e)) (ba _ e)
 exact PySem.W.kla_codeExpr (eE (h h1 s.heap.objs.size ns kp) (fun r s' q=>q) fun e s' z=>z.elim)
variable{env:Env}{L c l g:Addr}{m:aj}{Q:ar}
theorem XD{x y:Str}{p1 p2 p3 p4:Pos}{its:au}{i:Nat}{n:Int}{t u:Tok}(hk:env.scope.kind=.function)(ns:s.heap.Ns env.locals m)(hx:env.kindOf x=aa .local)(mx:m x=aa (.int (i:Nat) t))(hy:env.kindOf y=aa .free)(hc:env.cells.lookup y=aa c)
 (cell:s.heap.IsCell c (aa (.ref l)))(hl:s.heap.IsList l its.toArray)(hi:its[i]?=aa (.int n u))(j8:its.length<=bz)(d1:(x==("__debug__":Str))=af)(d2:(y==("__debug__":Str))=af)(d3:(y==("__classdict__":Str))=af)
 (q:∀tk t',Q (.int (-n) t') {s with toks:=tk}):bM (bK P w) A (eval (.UnaryOp .USub (.Subscript (.Name y p1) (.Name x p2) p3) p4) env) Q E s:=by
 have hi':i<its.length:=(aZ.mp hi).1
 have l63:=L2.xY
 refine UnaryOp_ (Ba (wc (FL hk hy hc cell ?_ d3) d2))
 refine wc (sQ hk hx ns mx ?_) d1
 refine Sr hl (Zi _) (by omega) (x:=.int n u) (by simpa using hi) ?_ rfl
 exact neg_int (q _ _)
theorem pair_items{x y:Str}{p1 p2 p3 p4 p5 p6 p7 p8 p9:Pos}{j1 j2 kk:Nat}{its gs:au}{i:Nat}{n:Int}{t u:Tok}(hk:env.scope.kind=.function)(ns:s.heap.Ns env.locals m)(hx:env.kindOf x=aa .local)(mx:m x=aa (.ref g))(hg:s.heap.IsList g gs.toArray)
 (g0:gs[0]?=aa (.int (i:Nat) t))(ao9:gs.length<=bz)(hy:env.kindOf y=aa .free)(hc:env.cells.lookup y=aa c)
 (cell:s.heap.IsCell c (aa (.ref l)))(hl:s.heap.IsList l its.toArray)(hi:its[i]?=aa (.int n u))(j8:its.length<=bz)(d1:(x==("__debug__":Str))=af)(d2:(y==("__debug__":Str))=af)(d3:(y==("__classdict__":Str))=af)
 (q:∀tk a h',h'.get? a=aa (Xq n i u t 0)->Kept s.heap h'->Q (.ref a) {s with heap:=h',toks:=tk}):
 bM (bK P w) A (eval (.Tuple [.Subscript (.Name y p1) (.Subscript (.Name x p2) (.Constant (.int 0) j1 p3) p4) p5,.Subscript (.Name x p6) (.Constant (.int 0) j2 p7) p8] kk p9) env) Q E s:=by
 have hi':i<its.length:=(aZ.mp hi).1
 have hg':0<gs.length:=(aZ.mp g0).1
 have l63:=L2.xY
 have abU:∀{p q r:Pos}{j:Nat}{s1:a9}{R:ar},s1.heap=s.heap->(∀tk,R (.int (i:Nat) t) {s1 with toks:=tk})->bM (bK P w) A (eval (.Subscript (.Name x p) (.Constant (.int 0) j q) r) env) R E s1:=fun{p q r j s1 R} eh hr=>by
  rw[<-eh]at ns hg;refine Ba (wc (sQ hk hx ns mx ?_) d1);refine IU ?_;refine Sr (s:={s1 with toks:=s1.toks+1}) hg (Int.le_refl 0) (by show(0:Int)<2^63;decide) (x:=.int (i:Nat) t) (by simpa using g0) ?_ rfl;exact hr _
 refine wpAny_Tuple_spliced ?_
 show bM _ _ (E3 ((af,eval (.Subscript (.Name y p1) (.Subscript (.Name x p2) (.Constant (.int 0) j1 p3) p4) p5) env)::(af,eval (.Subscript (.Name x p6) (.Constant (.int 0) j2 p7) p8) env)::[])) _ _ s
 refine iA (Ba (wc (FL hk hy hc cell ?_ d3) d2))
 refine abU rfl fun tk1=>?_
 refine Sr (s:={s with toks:=tk1}) hl (Zi _) (by omega) (x:=.int n u) (by simpa using hi) ?_ rfl
 refine iA (abU rfl fun tk2=>jM ⟨by show 2<=bz;decide,?_⟩)
 exact q _ _ _ (bI _ rfl) Kept.push
end
end sP
end
section
namespace XL
open PySem PySem.Spec PyProof.Rows L2 sP
def PX(c:Addr)(qual:Str):HO:=.ext fun h=>h.CodeRec (.ref c) qual
inductive iZ(H:Hp)(T:Addr)(pos:Pos)(qual:Str):Prop
 |mk (ps:_) (_:H T=aa (.F4 ps)) (_:TriplesOk ps.toList) (_:(codeAmong pos ps.toList=ab\/∃c,codeAmong pos ps.toList=aa (.ref c)/\H c=aa (PX c qual)))
def IQ(T:Addr)(H H':Hp):Prop:=∀b o,b≠T->H b=aa o->H' b=aa o
theorem iZ.same{H H':Hp}{T:Addr}{pos:Pos}{qual:Str}(x:iZ H T pos qual)(s:bH H H'):iZ H' T pos qual:=by
 obtain⟨ps,e1,e2,e3⟩:=x;refine⟨ps,s _ _ e1,e2,?_⟩;rcases e3 with e|⟨c,e,f⟩
 ·exact .inl e
 exact .inr ⟨c,e,s _ _ f⟩
inductive Nw(mg:aj)(base:Heap):Prop
 |mk (bm:_) (ob:_) (_:mg "__builtins__"=aa (.ref bm)) (_:bm≠AZ) (_:base.get? bm=aa ob) (_:ob.cls=.type "module") (_:ob.dict=aa AZ) (_:ob.data=.plain)
section
variable{X:Cx}{pins:ah}{σ:L2.St}{H:Hp}{s:a9}
theorem Pc{E:ar}{A:cZ}{ps:vk}{body:Expr}{sc:kG}{rP:Pos}{cl:ai}{c T:Addr}{Q:ar}(I:Inv X pins σ H s)(B:Nw X.mg X.base)(hc:X.env.code=.ref c)(hk:pH X.K c T=ae)(tb:iZ H T rP (X.env.qual++"<lambda>"))
 (hd:FO ps X.env=([],[]))(JM:IV sc X.env=pure cl)
 (q:∀(f c':Addr)(ct:aX)(h':Heap)(tk:Nat)(H':Hp),Inv X pins σ H' {s with heap:=h',toks:=tk}->iZ H' T rP (X.env.qual++"<lambda>")->IQ T H H'->s.heap.objs.size<=f->(∀b o,H' b=aa o->H b=aa o\/b=T\/s.heap.objs.size<=b)->h'.get? f=aa (agm (X.env.qual++"<lambda>") ps body sc cl ((X.mg "__name__").getD .none) c' ct)->h'.CodeRec (.ref c') (X.env.qual++"<lambda>")->
  (∀b o,b≠T->s.heap.get? b=aa o->h'.get? b=aa o)->Q (.ref f) {s with heap:=h',toks:=tk}):
 bM (bK X.prog X.w) A (eval (.Lambda ps body sc rP) X.env) Q E s:=by
 obtain⟨pt,hT,tr,st⟩:=tb
 have gT:s.heap.get? T=aa (PySem.W.tabObj pt):=I.gx T _ hT
 obtain⟨bm,ob,b1,b2,b3,b4,b5,b6⟩:=B
 have g0:s.heap.Ns cV X.mg:=I.mod.glob.keeps I.bk
 obtain⟨bk,bn⟩:=I.bs bm ob b3
 have nbT:bm≠T:=fun z=>by rw[z,hT]at bn;cases bn
 have ngT:cV≠T:=fun z=>by
  obtain⟨o,es,ep,e,d,_⟩:=g0;rw[z,gT]at e;cases e;cases d
 have nbG:bm≠cV:=fun z=>by
  obtain⟨o,es,ep,e,d,_⟩:=g0;rw[<-z,bk]at e;cases e;rw[b6]at d;cases d
 have bat:s.heap.BuiltinsAt X.mg T:=⟨bm,ob,b1,b2,nbG,nbT,bk,b4,b5,b6⟩
 have C:=PySem.W.codeHd_of_K I.wQ hk
 refine PySem.W.kla_eval hd ?_
 rcases st with hn|⟨c',hs,hc'⟩
 ·refine PySem.W.kla_makeFunction JM I.ok.glob g0 hc C gT tr hn ngT bat fun c' ctv h' tk ex big lt UJ gT'=>?_
  have fr:∀b,s.heap.objs.size<=b->H b=ab:=fun b hb=>I.gx.fresh hb
  have lT:T<s.heap.objs.size:=bG gT
  have ncT:c'≠T:=dm (bJ lT big)
  obtain⟨c2,oc,vs,t,e2,hoc,hdc,hv⟩:=id UJ
  cases e2
  have kp:∀b o,b≠T->s.heap.get? b=aa o->(h'.push (qJ "<lambda>" (X.env.qual++"<lambda>") ps body sc cl ((X.mg "__name__").getD .none) c' ctv)).get? b=aa o:=fun b o nb e=>ba _ (ex b o nb e)
  have sm:IQ T H (upd (upd H T (.F4 (pt++ #[j6 rP.line,j6 rP.col,.ref c']))) c' (PX c' (X.env.qual++"<lambda>"))):=fun b o nb e=>by
   rw[bB (bP e (fr c' big)),bB nb];exact e
  have stR:∀h1 h2:Heap,h1.CodeRec (.ref c') (X.env.qual++"<lambda>")->(∀o,h1.get? c'=aa o->h2.get? c'=aa o)->h2.CodeRec (.ref c') (X.env.qual++"<lambda>"):=fun h1 h2 ⟨x,oc,vs,t,e,g,r⟩ k=>by
   cases e;exact⟨c',oc,vs,t,rfl,k _ g,r⟩
  have afP:(h'.push (qJ "<lambda>" (X.env.qual++"<lambda>") ps body sc cl ((X.mg "__name__").getD .none) c' ctv)).CodeRec (.ref c') (X.env.qual++"<lambda>"):=stR _ _ UJ fun o e=>ba _ e
  have nwT:∀b o,(upd (upd H T (.F4 (pt++ #[j6 rP.line,j6 rP.col,.ref c']))) c' (PX c' (X.env.qual++"<lambda>"))) b=aa o->b=c'\/b=T\/(b≠T/\H b=aa o):=fun b o e=>by
   by_cases e1:b=c'
   ·exact .inl e1
   rw[bB e1]at e;by_cases e2:b=T
   ·exact .inr (.inl e2)
   rw[bB e2]at e;exact .inr (.inr ⟨e2,e⟩)
  have I2:Inv X pins σ (upd (upd H T (.F4 (pt++ #[j6 rP.line,j6 rP.col,.ref c']))) c' (PX c' (X.env.qual++"<lambda>"))) {s with heap:=h'.push (qJ "<lambda>" (X.env.qual++"<lambda>") ps body sc cl ((X.mg "__name__").getD .none) c' ctv),toks:=tk}:=by
   have ntr:∀b,H b=ab->b≠T:=fun b e z=>by rw[z,hT]at e;cases e
   refine I.un (t':=tk) ⟨fun b o e n _ _=>kp b o (ntr b n) e,fun b o e n _ _=>⟨o.slots,kp b o (ntr b n) e⟩,fun b o e n _=>?_,fun b o e _=>?_,fun b xs e=>sm b _ (fun z=>by rw[z,hT]at e;cases e) e,fun b o u e=>sm b _ (fun z=>by rw[z,hT]at e;cases e) e,fun b qs e=>?_⟩ fun b o e=>?_
   ·rw[bB (ck (bJ (bG e) big)),bB (ntr b n)];exact n
   ·by_cases z:b=T
    ·exact⟨_,by rw[z];exact ba _ gT'⟩
    exact⟨o,kp b o z e⟩
   ·by_cases z:b=T
    ·subst z;rw[hT]at e;cases e;exact⟨_,by rw[bB ncT.symm,bf]⟩
    exact⟨#[],by rw[sm b _ z e];simp⟩
   rcases nwT b o e with z|z|⟨z,z2⟩
   ·subst z;rw[bf]at e;cases e;exact⟨afP,⟨oc,ba _ hoc⟩,stR⟩
   ·subst z;rw[bB ncT.symm,bf]at e;cases e;exact ba _ gT'
   refine(I.gx b o z2).tM (fun x v hx g=>kp x v ?_ g) (fun x y=>sm x _ ?_ y) fun x xs y=>sm x _ ?_ y
   ·rcases hx with y|y
    ·rw[y];exact z
    exact fun w=>by rw[w,hT]at y;cases y
   ·exact fun w=>by rw[w,hT]at y;cases y
   exact fun w=>by rw[w,hT]at y;cases y
  refine q h'.objs.size c' ctv _ tk _ I2 ⟨_,by rw[bB ncT.symm,bf],?_,.inr ⟨c',?_,bf⟩⟩ sm (cR big (du lt)) (fun b o e=>?_) (bI _ rfl) afP kp
  ·rw[Bc]
   exact TriplesOk_snoc _ _ _ _ tr
  ·rw[Bc]
   exact codeAmong_snoc _ tr hn
  rcases nwT b o e with z|z|⟨_,z⟩
  ·exact .inr (.inr (z▸big))
  ·exact .inr (.inl z)
  exact .inl z
 refine PySem.W.kla_makeFunctionHit JM I.ok.glob g0 hc C gT tr hs bat fun ctv h' tk kp sz=>?_
 have ajB:s.heap.CodeRec (.ref c') (X.env.qual++"<lambda>"):=(I.gx c' _ hc').1
 have kp2:∀b o,s.heap.get? b=aa o->(h'.push (qJ "<lambda>" (X.env.qual++"<lambda>") ps body sc cl ((X.mg "__name__").getD .none) c' ctv)).get? b=aa o:=fun b o e=>ba _ (kp b o e)
 refine q h'.objs.size c' ctv _ tk H (I.kept (t':=tk) kp2) ⟨pt,hT,tr,.inr ⟨c',hs,hc'⟩⟩ (fun b o _ e=>e) sz (fun b o e=>.inl e) (bI _ rfl) ?_ fun b o _ e=>kp2 b o e
 obtain⟨x,oc,vs,t,e,g,r⟩:=ajB
 exact⟨x,oc,vs,t,e,kp2 _ _ g,r⟩
end
end XL
end
section
namespace XL
open PySem PySem.Spec PyProof.Rows L2 sP
theorem G8(n:Nat):E7 0 (n:Int) 1=(n:Nat):=by
 rw[rangeSize_one];split<;>omega
theorem Ig{n:Nat}{acc:Array aX}(it:ItemsOf (fun i v=>∃t,v=l6 (0+(i:Nat)*1) t) acc n):kf acc.toList ((bw n).map fun(i:Nat)=>(i:Int)):=by
 refine TN (by rw[c7,it.1,aV,b8]) fun i k hi=>?_;have hl:=(aZ.mp hi).1;rw[c7,it.1]at hl;rw[eK]at hi;obtain⟨t,e⟩:=it.2 i k hi;refine⟨i,t,by simp[hl],?_⟩;rw[e];congr 1;omega
section
variable{X:Cx}
inductive adb(vs:ao)(H:Hp)(Q:VK):Prop
 |mk (n:Nat) (_:vs=[.int (n:Int)]) (_:∀p,H p=ab->Q (.ref p) (upd H p (.Z3 0 (n:Int))))
theorem PU:wG X (.type "range") adb:=by
 intro pins s σ H vs us Q I r h;obtain⟨n,rfl,q⟩:=h;cases r with
 |cons r rr=>
  cases rr;obtain⟨t,rfl⟩:=r;exact call_range_1 ⟨.ref _,_,I.laid (o:=.Z3 0 (n:Int)) (t':=s.toks+1+1) (fun b o e=>ba _ e) (bu _) ⟨_,_,_,bI _ rfl⟩,rfl,q _ (I.gx.fresh (bu _))⟩
inductive W9(vs:ao)(H:Hp)(Q:VK):Prop
 |mk (a:Addr) (n:Nat) (_:vs=[.ref a]) (_:H a=aa (.Z3 0 (n:Int))) (_:n<=1000) (_:∀l,H l=ab->Q (.ref l) (upd H l (.lst ((bw n).map fun(i:Nat)=>V.int (i:Int)))))
theorem RY(hc:X.calm=ae):wG X (.type "list") W9:=by
 intro pins s σ H vs us Q I r h;obtain⟨a,n,rfl,ha,j8,q⟩:=h;rw[Vals.ac7 r];obtain⟨t,u,v,hr⟩:=I.gx a _ ha;refine call_list_range (I.ok.hd hc) (show IsRange s.heap a 0 (n:Int) 1 t u v from hr) (small_one (by omega) (by omega) (by omega) (by omega)) (G8 n) (by omega) fun h' tk acc c k g it=>?_;have hi:=Ig it;have e:((bw n).map fun(i:Nat)=>V.int (i:Int))=((bw n).map fun(i:Nat)=>(i:Int)).map V.int:=by rw[dC];rfl
 refine⟨.ref _,_,I.laid (o:=.lst ((bw n).map fun(i:Nat)=>V.int (i:Int))) (t':=tk) k (bu _) ⟨by rw[aV,b8,bZ];omega,acc.toList,c,?_,g⟩,rfl,q _ (I.gx.fresh (bu _))⟩;rw[e];exact qP hi
end
end XL
namespace sP
open PySem PySem.Spec PyProof.Rows
section
variable{P:bY}{w:cX}{A:cZ}{E:ar}{s:a9}
theorem Ku{KA:Nat->aX->Heap->Prop}{κ:Heap->KeyKind}{kd:SortKind}{r f:Addr}{OK:au->Prop}{Q:ar}(K:abc P w KA κ kd)
 (col:∀R:au->a9->Prop,(∀h' tk d' vs,Kept s.heap h'->s.heap.objs.size<h'.objs.size->OK vs->R vs {s with heap:=h',toks:=tk,drawn:=d'})->bM (bK P w) A.in1 (collect (.ref r)) R E s)(j8:∀vs,OK vs->vs.length<=1000)
 (turn:∀vs,OK vs->∀(i:Nat)(v:aX),vs[i]?=aa v->∀s':a9,Kept s.heap s'.heap->bM (bK P w) A.in1.in1 (call (.ref f) [v]) (fun k s₂=>∃h' tk',s₂={s' with heap:=h',toks:=tk'}/\Kept s'.heap h'/\KA i k h') (fun _ _=>False) s')
 (q:∀(D:Addr)(h' h2:Heap)(tk c:Nat)(d':Drawn)(vs keys:au)(ps:Array Keyed),OK vs->Kept s.heap h'->s.heap.objs.size<=D->h'.get? D=aa (iS "list" (ps.map (·.2)) c)->keys.length=vs.length->(∀(i:Nat)(k:aX),keys[i]?=aa k->KA i k h2)->
  ps.Perm (keys.zip vs).toArray->NG (κ h2) ps ps.size->Stable (κ h2) ps (keys.zip vs).toArray->Q (.ref D) {s with heap:=h',toks:=tk,drawn:=d'}):
 bM (bK P w) A (call (.builtin "sorted") [.ref r] [(jf "key",.ref f)]) Q E s:=by
 refine call_function_entry_kw kind_sorted plain_sorted entry_sorted (ksk_s1 _ _) ?_
 unfold Builtin.«sorted»
 refine aP (m:=checkCount "sorted" 1 1 _) (bg ?_)
 refine aP (col _ fun h1 tk1 d1 vs k1 big ok=>?_)
 have sl:=bZ
 have fw:=j8 vs ok
 refine aP (VP ?_ (by omega))
 have gD:(h1.push (iS "list" vs.toArray 0)).get? h1.objs.size=aa (iS "list" vs.toArray 0):=bI _ rfl
 have kp:∀{h:Heap},VO h1.objs.size (h1.push (iS "list" vs.toArray 0)) h->Kept s.heap h:=fun{h} b x o e=>b x o (ck (bG (k1 x o e))) (ba _ (k1 x o e))
 refine aP (d8 (wpAny_call_entry_kw slot_list_sort ⟨_,gD,rfl⟩ entry_list_sort ?_ (ksk_l1 _ _)))
 show bM (bK P w) A.in1.in1 (Builtin.«list.sort» ⟨[.ref h1.objs.size],[(jf "key",.ref f)]⟩) _ _ _
 rw[ksk_t1]
 refine XZ (s:={s with heap:=h1.push (iS "list" vs.toArray 0),toks:=tk1,drawn:=d1}) K gD fw (fun i v hv h tk bt=>turn vs ok i v hv {s with heap:=h,toks:=tk,drawn:=d1} (kp bt)) fun h' h2 tk c keys ps b g lk ka pm so sb=>⟨_,rfl,?_⟩
 exact bg ⟨_,rfl,q _ h' h2 tk c d1 vs keys ps ok (kp b) (du big) g lk ka pm so sb⟩
theorem VC{r:Addr}{n:Nat}{t u v:Tok}(hh:A.handled=ab)(hr:IsRange s.heap r 0 (n:Int) 1 t u v)(j8:n<=1000)(R:au->a9->Prop)
 (q:∀h' tk d' vs,Kept s.heap h'->s.heap.objs.size<h'.objs.size->kf vs ((bw n).map fun(i:Nat)=>(i:Int))->R vs {s with heap:=h',toks:=tk,drawn:=d'}):bM (bK P w) A.in1 (collect (.ref r)) R E s:=by
 have sm:=small_one (a:=0) (b:=(n:Int)) (by omega) (by omega) (by omega) (by omega)
 refine IF (A:=A.in1) (n:=n) (OK:=fun V=>V=fun i v=>∃t,v=l6 (0+(i:Nat)*1) t) ⟨_,hr,rfl⟩ (by decide) (by decide) (by rw[bZ];omega)
  (fun E s' Q k h=>wpAny_hint_range (k _ _ hr) (XL.G8 n) (by omega) (h _ _)) (fun E s' Q k h=>wpAny_pyIter_range (k _ _ hr) sm ?_) fun h' tk d' V acc k big ok it=>?_
 ·refine h s'.heap.objs.size _ s'.drawn _ _ _ Kept.push (fun b hb=>.inr (k4 (bU.mp hb).symm)) (bu _) rfl (Walks.range (by simpa using hh) s'.heap.objs.size 0 1 n) ?_
  rw[XL.G8]
  show(s'.heap.push _).get? _=aa _
  have e1:(0:Int)+((0:Nat):Int)*1=0:=by omega
  have e2:((n:Nat):Int)-((0:Nat):Int)=(n:Int):=by omega
  rw[e1,e2]
  exact bI _ rfl
 subst ok
 exact q h' tk d' acc.toList k big (XL.Ig it)
end
end sP
end
section
namespace XL
open PySem PySem.Spec PyProof.Rows L2 sP
inductive Si(kz ns:List Int):Prop
 |mk (qs:List (Int×Int)) (_:qs.Perm (kz.zip ((bw kz.length).map fun(i:Nat)=>(i:Int)))) (_:ns=qs.map (·.2)) (_:qs.Pairwise (fun p q=>p.1<=q.1)) (_:∀c,qs.filter (fun p=>p.1==c)=(kz.zip ((bw kz.length).map fun(i:Nat)=>(i:Int))).filter fun p=>p.1==c)
theorem Tx:∀{vs:au}{ns:List Int},kf vs ns->vs.map Sq=ns
 |_,_,.nil=>rfl
 |_,_,.cons n t h=>by rw[dE,Tx h];rfl
theorem Pg:∀{vs:au},(∀v∈vs,∃n t,v=.int n t)->kf vs (vs.map Sq)
 |[],_=>.nil
 |v::vs,h=>by
  obtain⟨n,t,e⟩:=h v (bO ..);subst e;exact .cons n t (Pg fun v hv=>h v (bD _ hv))
theorem Pf:∀{vs:au}{ns:List Int},kf vs ns->∀v∈vs,∃n t,v=.int n t
 |_,_,.nil,v,hv=>by cases hv
 |_,_,.cons n t h,v,hv=>by
  rcases bQ.mp hv with e|e
  ·exact⟨n,t,e⟩
  exact Pf h v e
theorem UE{kz:List Int}{vs out:au}(hv:kf vs ((bw kz.length).map fun(i:Nat)=>(i:Int)))(k:KskOutSt af kz vs out):kf out (out.map Sq)/\Si kz (out.map Sq):=by
 obtain⟨ps,p1,p2,p3,p4⟩:=k;have lv:vs.length=kz.length:=by rw[hv.length,aV,b8]
 have e0:(kz.zip vs).map (fun p=>(p.1,Sq p.2))=kz.zip ((bw kz.length).map fun(i:Nat)=>(i:Int)):=by
  rw[<-Tx hv,V9];rfl
 have allI:∀v∈out,∃n t,v=.int n t:=fun v hm=>by
  rw[p2]at hm;obtain⟨p,hp,e⟩:=di.mp hm;have:=(nO (show(p.1,p.2)∈kz.zip vs from p1.mem_iff.mp hp)).2;rw[<-e];exact Pf hv _ this
 refine⟨Pg allI,ps.map fun p=>(p.1,Sq p.2),by rw[<-e0];exact p1.map _,by rw[p2,dC,dC];rfl,?_,fun c=>?_⟩
 ·rw[jT];exact p3.imp fun h=>by simpa using h
 rw[<-e0,List.filter_map,List.filter_map];have:=p4 c;show(ps.filter fun p=>p.1==c).map _=((kz.zip vs).filter fun p=>p.1==c).map _;rw[this]
theorem BA{H:Hp}{p:Addr}{o:HO}(h:H p=ab):bH H (upd H p o):=fun b u e=>by rw[bB (bP e h)];exact e
theorem Ly{K:aY}{H H':Hp}{T a:Addr}{xs:ao}(h:dw K H a xs)(b:IQ T H H')(n:∀c o,H c=aa o->(∀ps,o≠ .F4 ps)->c≠T):dw K H' a xs:=by
 rcases h with(h|⟨o,h⟩)|h
 ·exact .inl (.inl (b a _ (n a _ h fun _ z=>by cases z) h))
 ·exact .inl (.inr ⟨o,b a _ (n a _ h fun _ z=>by cases z) h⟩)
 exact .inr h
section
variable{X:Cx}
def acJ(X:Cx)(i:Nat)(T:Addr)(rP:Pos)(te:TE):TE:=fun σ H Q=>te σ H fun v H1=>∃(r ls:Addr)(ks:List Int),v=.ref r/\H1 r=aa (.Z3 0 (ks.length:Int))/\ks.length<=1000/\σ[i]?=aa (aa (.ref ls))/\dw X.K H1 ls (ks.map V.int)/\iZ H1 T rP (X.env.qual++"<lambda>")/\
 ∀(ns:List Int)(D:Addr)(H2:Hp),iZ H2 T rP (X.env.qual++"<lambda>")->IQ T H1 H2->H1 D=ab->H2 D=aa (.lst (ns.map V.int))->Si (ks.map fun k=>-k) ns->Q (.ref D) H2
theorem Xk{i:Nat}{x y:Str}{e:Expr}{te:TE}{ps:vk}{sc:kG}{p rP U5 pos p1 p2 p3 p4:Pos}{c T cy:Addr}{k:Nat}(Ye:X.calm=ae)(hr:gG k X.A)(hg:Gl X "sorted")(hm:X.mg "sorted"=ab)(he:PE X e te)(B:Nw X.mg X.base)
 (hc:X.env.code=.ref c)(hk:pH X.K c T=ae)(hd:FO ps X.env=([],[]))(JM:IV sc X.env=pure [(y,cy)])(hcy:X.env.cells.lookup y=aa cy)(hi:X.N[i]?=aa y)(hyk:X.env.scope.names.lookup y=aa .cell)
 (hb:∀(pm ct v:aX)(c':Addr),oR (IY "<lambda>" (X.env.qual++"<lambda>") ps (.UnaryOp .USub (.Subscript (.Name y p1) (.Name x p2) p3) p4) sc [(y,cy)] pm (.ref c') ct) ⟨[v],[]⟩=pure [(x,v)])
 (hx:sc.names.lookup x=aa .local)(hy:sc.names.lookup y=aa .free)(nc:∀z∈sc.names,z.2≠ .cell)(co:sc.isCoroutine=af)(ge:sc.isGenerator=af)(hkf:sc.kind=.function)(d1:(x==("__debug__":Str))=af)(d2:(y==("__debug__":Str))=af)(d3:(y==("__classdict__":Str))=af)
 (hs:bX [e] X.env=(af,eval e X.env)::bX [] X.env:=by rfl):
 PE X (.Call (.Name "sorted" p) [e] [⟨aa "key",.Lambda ps (.UnaryOp .USub (.Subscript (.Name y p1) (.Name x p2) p3) p4) sc rP,U5⟩] pos) (acJ X i T rP te):=by
 intro pins s σ H Q I h
 refine fh (rQ I hg hm boot_sorted (callWith_kw ?_ (by rw[hs];rfl) (by rw[hs];rfl)) (by decide) (by decide))
 rw[hs]
 show bM _ _ (E3 ((af,eval e X.env)::gz pos (bX [] X.env))) _ _ s
 refine iA (ic (he pins s σ H _ I h) fun v s1 ⟨v',H1,I1,r1,q1⟩=>jM ?_)
 obtain⟨r,ls,ks,rfl,hrn,j8,hσ,l5,tab,q⟩:=q1
 cases r1
 show bM _ _ (evalAll ((do let v<-eval (.Lambda ps (.UnaryOp .USub (.Subscript (.Name y p1) (.Name x p2) p3) p4) sc rP) X.env;sy pos;pure v)::[])) _ _ s1
 refine wpAny_evalAll_cons (aP (Pc I1 B hc hk tab hd JM fun f c' ct h3 tk3 H3 I3 Og bt aet nw gf UJ kp3=>aP (lU (bg (wpAny_evalAll_nil ?_)))))
 show bM _ _ (call (.builtin "sorted") [.ref r] [(jf "key",.ref f)]) _ _ _
 have nT:∀b o,H1 b=aa o->(∀ps,o≠ .F4 ps)->b≠T:=fun b o e n z=>by
  obtain⟨pt,hT,_⟩:=tab;rw[z,hT]at e;cases e;exact n _ rfl
 have ajA:=bt r _ (nT r _ hrn fun _ z=>by cases z) hrn
 obtain⟨t0,u0,v0,gr⟩:=I3.gx r _ ajA
 have ajO:dw X.K H3 ls (ks.map V.int):=Ly l5 bt nT
 obtain⟨its,rv,pl,_⟩:=I3.list ajO
 have hi3:=rv.ints
 obtain⟨m,_,hl⟩:=I3.loc
 obtain⟨u,ru,lk⟩:=hl i y (.ref ls) hi hσ (.inr (.inl hyk))
 cases ru
 have cell:h3.IsCell cy (aa (.ref ls)):=by
  rcases lk with⟨z,_⟩|⟨_,c2,z1,z2⟩
  ·rw[show X.env.kindOf y=X.env.scope.names.lookup y from rfl,hyk]at z;cases z
  rw[hcy]at z1;cases z1;exact z2
 have lim:=I3.nolimit
 have hh:=I.ok.hd Ye
 refine Ku (s:={s1 with heap:=h3,toks:=tk3}) (adL (ks.map fun k=>-k)) (fun R q=>VC hh (show IsRange h3 r 0 (ks.length:Int) 1 t0 u0 v0 from gr) j8 R q) (fun vs ok=>?_) (fun vs ok j v hj s' k'=>?_) fun D h' h2 tk cc d' vs keys qs ok kk big g lk2 ka pm so sb=>?_
 ·rw[ok.length,aV,b8]
  exact j8
 ·obtain⟨t,ev⟩:=yz ok j v hj
  have jl:j<ks.length:=by
   have:=(aZ.mp hj).1;rw[ok.length,aV,b8]at this;exact this
  have ev:v=.int (j:Int) t:=by
   rw[ev];simp[jl]
  subst ev
  have Yk:its[j]?=aa (its[j]'(by rw[hi3.length];exact jl)):=bF _
  obtain⟨u,eu⟩:=yz hi3 j _ Yk
  have ek:ks.getD j 0=ks[j]:=by simp[jl]
  rw[ek]at eu
  refine Pe (A:=X.A.in1.in1) (lim.keeps k') hr.depth (k' _ _ gf) (let⟨z,oc,vs,t,e,g,r⟩:=UJ;⟨z,oc,vs,t,e,k' _ _ g,r⟩) (hb _ _ _ _) hx nc co ge hkf fun h1 L ns1 k1=>?_
  refine XD (m:=fun z=>[(x,l6 (j:Int) t)].lookup z) (i:=j) (n:=ks[j]) (its:=its) (t:=t) (u:=u) (c:=cy) (l:=ls) hkf ns1 hx (by simp[ig]) hy (by simp[ig]) ?_ ?_ (by rw[Yk,eu]) ?_ d1 d2 d3 fun tk t'=>?_
  ·obtain⟨o,e1,e2⟩:=cell
   exact⟨o,k1 _ _ (k' _ _ e1),e2⟩
  ·exact pl.isList.at fun o e=>k1 _ _ (k' _ _ e)
  ·rw[hi3.length,bZ]
   omega
  exact⟨h1,tk,rfl,k1,-ks[j],t',by simp[jl],rfl⟩
 have kI:kf keys (ks.map fun k=>-k):=TN (by rw[lk2,ok.length,aV,b8,aV]) ka
 have zz:(keys.toArray.zip vs.toArray)=(keys.zip vs).toArray:=by
  apply Kf;simp
 have ko:=ksk_outSt (b:=af) (keys:=keys.toArray) (vs:=vs) (by simpa using kI) (xs:=qs) (by rw[zz];exact pm) (sortedTo_of_int so) (by rw[zz];exact sb)
 simp only[cD,if_false]at ko
 have ok2:kf vs ((bw (ks.map fun k=>-k).length).map fun(i:Nat)=>(i:Int)):=by rw[aV];exact ok
 obtain⟨o1,o2⟩:=UE ok2 ko
 have ol:(qs.map (·.2)).size=ks.length:=by
  rw[Array.size_map,pm.size_eq,b7,yu,lk2,FV,ok.length,aV,b8]
 have aeE:s1.heap.objs.size<=D:=cR (du (by
  have:=bG gf;exact oF aet this)) big
 have H3D:H3 D=ab:=I3.gx.fresh big
 refine⟨.ref D,upd H3 D (.lst (((qs.map (·.2)).toList.map Sq).map V.int)),Inv.drawn (I3.laid (o:=.lst (((qs.map (·.2)).toList.map Sq).map V.int)) (t':=tk) kk big ⟨by rw[aV,aV,c7,ol,bZ];omega,(qs.map (·.2)).toList,cc,qP o1,g⟩) d',rfl,
  q ((qs.map (·.2)).toList.map Sq) D _ (Og.same (BA H3D)) (fun b o nb e=>BA H3D b o (bt b o nb e)) (I1.gx.fresh aeE) bf o2⟩
end
def Fs(os:List Int)(m:List Nat):Int×Int:=(os.getD (m.headD 0) 0,(m.headD 0:Nat))
section
variable{X:Cx}
def acK(X:Cx)(i:Nat)(T:Addr)(rP:Pos)(te:TE):TE:=fun σ H Q=>te σ H fun v H1=>∃(r ls:Addr)(gs:ag)(os:List Int)(ms:List (List Nat)),v=.ref r/\dw X.K H1 r (gs.map V.ref)/\gs.length<=1000/\σ[i]?=aa (aa (.ref ls))/\dw X.K H1 ls (os.map V.int)/\os.length<=1000/\
 fM (fun g m=>dw X.K H1 g (m.map fun(n:Nat)=>V.int (n:Int))/\0<m.length/\m.headD 0<os.length) gs ms/\iZ H1 T rP (X.env.qual++"<lambda>")/\
 ∀(zs:List ((Int×Int)×Addr))(D:Addr)(H2:Hp),iZ H2 T rP (X.env.qual++"<lambda>")->IQ T H1 H2->H1 D=ab->H2 D=aa (.lst ((zs.map (·.2)).map V.ref))->zs.Perm ((ms.map (Fs os)).zip gs)->zs.Pairwise (fun p q=>leP p.1 q.1)->Q (.ref D) H2
theorem Tt{α β:Type}{F:α->β->Prop}:∀{l:List α}{m:List β}{i:Nat}{a:α},fM F l m->l[i]?=aa a->∃b,m[i]?=aa b/\F a b
 |_,_,_,_,.nil,h=>by simp at h
 |_,_,0,_,.cons r t,h=>by
  simp at h;subst h;exact⟨_,rfl,r⟩
 |_,_,i+1,_,.cons r t,h=>by
  have:=Tt t (i:=i) (by simpa using h);simpa using this
theorem Te:∀{gs:ag}{vs:au},Vals (gs.map V.ref) vs->vs=gs.map cu
 |[],_,.nil=>rfl
 |_::_,_,.cons r t=>by rw[Te t];cases r;rfl
theorem Xl{i:Nat}{x y:Str}{e:Expr}{te:TE}{ps:vk}{sc:kG}{p rP U5 pos p1 p2 p3 p4 p5 p6 p7 p8 p9:Pos}{j1 j2 kk:Nat}{c T cy:Addr}{k:Nat}(Ye:X.calm=ae)(hr:gG k X.A)(hg:Gl X "sorted")(hm:X.mg "sorted"=ab)(he:PE X e te)(B:Nw X.mg X.base)
 (hc:X.env.code=.ref c)(hk:pH X.K c T=ae)(hd:FO ps X.env=([],[]))(JM:IV sc X.env=pure [(y,cy)])(hcy:X.env.cells.lookup y=aa cy)(hi:X.N[i]?=aa y)(hyk:X.env.scope.names.lookup y=aa .cell)
 (hb:∀(pm ct v:aX)(c':Addr),oR (IY "<lambda>" (X.env.qual++"<lambda>") ps (.Tuple [.Subscript (.Name y p1) (.Subscript (.Name x p2) (.Constant (.int 0) j1 p3) p4) p5,.Subscript (.Name x p6) (.Constant (.int 0) j2 p7) p8] kk p9) sc [(y,cy)] pm (.ref c') ct) ⟨[v],[]⟩=pure [(x,v)])
 (hx:sc.names.lookup x=aa .local)(hy:sc.names.lookup y=aa .free)(nc:∀z∈sc.names,z.2≠ .cell)(co:sc.isCoroutine=af)(ge:sc.isGenerator=af)(hkf:sc.kind=.function)(d1:(x==("__debug__":Str))=af)(d2:(y==("__debug__":Str))=af)(d3:(y==("__classdict__":Str))=af)
 (hs:bX [e] X.env=(af,eval e X.env)::bX [] X.env:=by rfl):
 PE X (.Call (.Name "sorted" p) [e] [⟨aa "key",.Lambda ps (.Tuple [.Subscript (.Name y p1) (.Subscript (.Name x p2) (.Constant (.int 0) j1 p3) p4) p5,.Subscript (.Name x p6) (.Constant (.int 0) j2 p7) p8] kk p9) sc rP,U5⟩] pos) (acK X i T rP te):=by
 intro pins s σ H Q I h
 refine fh (rQ I hg hm boot_sorted (callWith_kw ?_ (by rw[hs];rfl) (by rw[hs];rfl)) (by decide) (by decide))
 rw[hs]
 show bM _ _ (E3 ((af,eval e X.env)::gz pos (bX [] X.env))) _ _ s
 refine iA (ic (he pins s σ H _ I h) fun v s1 ⟨v',H1,I1,r1,q1⟩=>jM ?_)
 obtain⟨r,ls,gs,os,ms,rfl,hrn,j8,hσ,l5,apa,pr,tab,q⟩:=q1
 cases r1
 show bM _ _ (evalAll ((do let v<-eval (.Lambda ps (.Tuple [.Subscript (.Name y p1) (.Subscript (.Name x p2) (.Constant (.int 0) j1 p3) p4) p5,.Subscript (.Name x p6) (.Constant (.int 0) j2 p7) p8] kk p9) sc rP) X.env;sy pos;pure v)::[])) _ _ s1
 refine wpAny_evalAll_cons (aP (Pc I1 B hc hk tab hd JM fun f c' ct h3 tk3 H3 I3 Og bt aet nw gf UJ kp3=>aP (lU (bg (wpAny_evalAll_nil ?_)))))
 show bM _ _ (call (.builtin "sorted") [.ref r] [(jf "key",.ref f)]) _ _ _
 have nT:∀b o,H1 b=aa o->(∀ps,o≠ .F4 ps)->b≠T:=fun b o e n z=>by
  obtain⟨pt,hT,_⟩:=tab;rw[z,hT]at e;cases e;exact n _ rfl
 obtain⟨vs0,rv0,pl0,_⟩:=I3.list (Ly hrn bt nT)
 have ev0:=Te rv0
 obtain⟨its,rv,pl,_⟩:=I3.list (Ly l5 bt nT)
 have hi3:=rv.ints
 obtain⟨m,_,hl⟩:=I3.loc
 obtain⟨u,ru,lk⟩:=hl i y (.ref ls) hi hσ (.inr (.inl hyk))
 cases ru
 have cell:h3.IsCell cy (aa (.ref ls)):=by
  rcases lk with⟨z,_⟩|⟨_,c2,z1,z2⟩
  ·rw[show X.env.kindOf y=X.env.scope.names.lookup y from rfl,hyk]at z;cases z
  rw[hcy]at z1;cases z1;exact z2
 have lim:=I3.nolimit
 have hh:=I.ok.hd Ye
 have lms:ms.length=gs.length:=(dO pr).symm
 have lvs:vs0.length=gs.length:=by rw[ev0,aV]
 have sl:=bZ
 refine Ku (s:={s1 with heap:=h3,toks:=tk3}) (OK:=fun vs=>vs=vs0) (aax (ms.map (Fs os))) (fun R q=>collect_list pl0.isList (q _ _ _ _ (fun b o e=>?_) ?_ rfl) (by omega)) (fun vs ok=>by rw[ok];omega) (fun vs ok j v hj s' k'=>?_) fun D h' h2 tk cc d' vs keys qs ok kk big g lk2 ka pm so sb=>?_
 ·exact(cv _ _ (dm (bG e))).trans (ba _ e)
 ·rw[l8,dB]
  exact eQ _
 ·subst ok
  rw[ev0,bL]at hj
  cases hgj:gs[j]? with
  |none=>rw[hgj]at hj;cases hj
  |some gj=>
   rw[hgj]at hj
   cases hj
   obtain⟨mj,hmj,sq,m0,ml⟩:=Tt pr hgj
   obtain⟨gi,rg,pg,zg⟩:=I3.list (Ly sq bt nT)
   have hgi:kf gi (mj.map fun(n:Nat)=>(n:Int)):=by
    have:(mj.map fun(n:Nat)=>V.int (n:Int))=(mj.map fun(n:Nat)=>(n:Int)).map V.int:=by rw[dC];rfl
    rw[this]at rg;exact rg.ints
   obtain⟨a0,rest,em⟩:∃a0 rest,mj=a0::rest:=by
    cases mj with
    |nil=>cases m0
    |cons a r=>exact⟨a,r,rfl⟩
   subst em
   have g0:∃t,gi[0]?=aa (.int (a0:Nat) t):=by
    cases hgi with
    |cons n t h=>exact⟨t,rfl⟩
   obtain⟨t,g0⟩:=g0
   have ml:a0<os.length:=ml
   have Yk:its[a0]?=aa (its[a0]'(by rw[hi3.length];exact ml)):=bF _
   obtain⟨u,eu⟩:=yz hi3 a0 _ Yk
   refine Pe (A:=X.A.in1.in1) (lim.keeps k') (by have:=hr.dp;show X.A.depth<_;omega) (k' _ _ gf) (let⟨z,oc,vs,t,e,g,r⟩:=UJ;⟨z,oc,vs,t,e,k' _ _ g,r⟩) (hb _ _ _ _) hx nc co ge hkf fun h1 L ns1 k1=>?_
   refine pair_items (m:=fun z=>[(x,cu gj)].lookup z) (i:=a0) (n:=os.getD a0 0) (its:=its) (gs:=gi) (t:=t) (u:=u) (c:=cy) (l:=ls) (g:=gj) hkf ns1 hx (by simp[ig]) ?_ g0 ?_ hy (by simp[ig]) ?_ ?_ (by rw[Yk,eu]) ?_ d1 d2 d3 fun tk a h9 g9 k9=>?_
   ·exact pg.isList.at fun o e=>k1 _ _ (k' _ _ e)
   ·rw[<-rg.length]
    exact zg
   ·obtain⟨o,e1,e2⟩:=cell
    exact⟨o,k1 _ _ (k' _ _ e1),e2⟩
   ·exact pl.isList.at fun o e=>k1 _ _ (k' _ _ e)
   ·rw[hi3.length]
    omega
   refine⟨h9,tk,rfl,k1.trans k9,os.getD a0 0,(a0:Nat),a,u,t,0,?_,rfl,g9⟩
   rw[bL,hmj]
   rfl
 subst ok
 obtain⟨zs,z1,z2,z3⟩:=US (kz:=ms.map (Fs os)) (vs:=vs) lk2 (by rw[aV];omega) ka pm so
 have e0:(ms.map (Fs os)).zip vs=((ms.map (Fs os)).zip gs).map fun p=>(p.1,cu p.2):=by
  rw[ev0,V9];rfl
 have allR:∀z∈zs,∃a,z.2=cu a:=fun z hz=>by
  have:=z1.mem_iff.mp hz;rw[e0]at this;obtain⟨w,_,e⟩:=di.mp this;rw[<-e];exact⟨_,rfl⟩
 have lst:zs=(zs.map fun z=>(z.1,(match z.2 with|.ref a=>a|_=>0:Addr))).map fun p=>(p.1,cu p.2):=by
  rw[dC];conv=>lhs;rw[<-qN zs]
  refine dk fun z hz=>?_;obtain⟨a,e⟩:=allR z hz;obtain⟨z1,z2⟩:=z;simp only at e;subst e;rfl
 generalize hws:(zs.map fun z=>(z.1,(match z.2 with|.ref a=>a|_=>0:Addr)))=ws at lst
 have pw:ws.Perm ((ms.map (Fs os)).zip gs):=by
  rw[lst,e0]at z1
  have inj:∀{l:List ((Int×Int)×Addr)},(l.map fun p=>(p.1,cu p.2)).map (fun z=>(z.1,(match z.2 with|.ref a=>a|_=>0:Addr)))=l:=fun{l}=>by
   rw[dC];conv=>rhs;rw[<-qN l]
   exact dk fun z _=>rfl
  have:=z1.map fun z=>(z.1,(match z.2 with|.ref a=>a|_=>0:Addr));rw[inj,inj]at this;exact this
 have pw2:ws.Pairwise fun p q=>leP p.1 q.1:=by
  rw[lst,jT]at z3;exact z3
 have ov:(qs.map (·.2)).toList=(ws.map (·.2)).map cu:=by
  rw[z2,lst,dC,dC];rfl
 have lw:ws.length=gs.length:=by rw[pw.length_eq,yu,aV,lms,FV]
 have aeE:s1.heap.objs.size<=D:=cR (du (oF aet (bG gf))) big
 have H3D:H3 D=ab:=I3.gx.fresh big
 have vv:Vals ((ws.map (·.2)).map V.ref) (qs.map (·.2)).toList:=by
  rw[ov];exact DF _
 exact⟨.ref D,upd H3 D (.lst ((ws.map (·.2)).map V.ref)),Inv.drawn (I3.laid (o:=.lst ((ws.map (·.2)).map V.ref)) (t':=tk) kk big ⟨by rw[aV,aV,lw];omega,(qs.map (·.2)).toList,cc,vv,g⟩) d',rfl,
  q ws D _ (Og.same (BA H3D)) (fun b o nb e=>BA H3D b o (bt b o nb e)) (I1.gx.fresh aeE) bf pw pw2⟩
end
end XL
end
section
namespace SR
open PySem PySem.Spec PyProof.Rows L2 XL
variable{P:bY}{w:cX}{K:aY}{mg:aj}{base:Heap}
theorem Ff(n m:Nat)(f:Nat->Bool)(h:∀i,i<n->(f i=ae↔i<m))(hm:m<=n):(bw n).filter f=bw m:=by
 induction n generalizing m with
 |zero=>
  have e:m=0:=by omega
  subst e;rfl
 |succ n ih=>
  rw[fe,kO];by_cases hn:m<=n
  ·rw[ih m (fun i hi=>h i (by omega)) hn,gM (by rw[h n (by omega)];omega),k8,cp]
  have e:m=n+1:=by omega
  subst e;rw[ih n (fun i hi=>by rw[h i (by omega)];omega) (bu _),fE ((h n (by omega)).mpr (by omega)),k8,fe]
theorem um.num{p:aO}(w:um p):∃m,m<=p.length/\(dv p)=bw m/\(dv p).length=m/\∀(i:Nat)(s:dz),p[i]?=aa s->(s.input=ae↔i<m):=by
 obtain⟨m,hm,f⟩:=w.ins
 have e:dv p=bw m:=by
  unfold dv;refine Ff _ _ _ (fun i hi=>?_) hm;have hs:p[i]?=aa p[i]:=bF hi;rw[hs];exact f i _ hs
 exact⟨m,hm,e,by rw[e,b8],f⟩
theorem F9(n:Nat)(f:Nat->Nat)(k v:Nat):((bw n).map f).set k v=(bw n).map fun a=>if a=k then v else f a:=by
 refine jt (by simp) fun i h1 h2=>?_;rw[List.getElem_set];have hi:i<n:=by simpa using h2
 simp only[l7,nX];by_cases hk:k=i
 ·rw[da hk,da hk.symm]
 rw[cQ hk,cQ (dh hk)]
theorem Lp(l:List Nat)(k v:Nat):(tx l).set k (V.int (v:Int))=tx (l.set k v):=by
 unfold tx;rw[List.map_set]
theorem Iw{p:aO}{a b:Nat}(h:a<=b):bE p a<=bE p b:=by
 unfold bE;omega
def LT(p:aO)(i a:Nat):Nat:=(((bw i).filter (qh p a)).map (bE p)).foldl max (bE p a)
theorem B6:∀(l:List Nat)(b c:Nat),b<=c->(∀x∈l,x<=c)->l.foldl max b<=c
 |[],_,_,h,_=>h
 |x::l,b,c,h,f=>B6 l (max b x) c (Nat.max_le.mpr ⟨h,f x (bO ..)⟩) fun y hy=>f y (bD _ hy)
theorem Uv{p:aO}(w:um p){a b:Nat}(h:qh p a b=ae):a<b/\∃s,p[b]?=aa s/\s.uses.contains a=ae:=by
 unfold qh at h;cases hs:p[b]? with
 |none=>rw[hs]at h;cases h
 |some s=>
  rw[hs]at h;have h:s.uses.contains a=ae:=h;exact⟨w.uses b s hs a (dP.mp h),s,rfl,h⟩
theorem aba{p:aO}(w:um p)(i a:Nat):LT p (i+1) a=if qh p a i=ae then bE p i else LT p i a:=by
 unfold LT;rw[fe,kO];by_cases h:qh p a i=ae
 ·rw[da h,fE h,k8,cg,hV];show max _ (bE p i)=_;refine Jb (B6 _ _ _ (Iw (du (Uv w h).1)) fun x hx=>?_);obtain⟨b,hb,e⟩:=di.mp hx;have:=cn.mp (cI.mp hb).1;rw[<-e];exact Iw (du this)
 rw[cQ h,gM h,k8,cp]
def ER(p:aO)(a:Nat):Bool:=((p[a]?).map fun s=>s.out).getD af
theorem TM(p:aO)(a:Nat):dj p a=if ER p a=ae then i7 p else LT p p.length a:=rfl
theorem iR{p:aO}{i:Nat}{s:dz}(h:p[i]?=aa s):aU p i=s.length:=by
 unfold aU;rw[h];rfl
def U2(H:Hp)(Q:VK)(l:List Nat):Prop:=∀a H',H a=ab->bH H H'->H' a=aa (.lst (tx l))->Q (.ref a) H'
inductive Oy(CS CP:Addr)(R:aO->Hp->VK->Prop)(vs:ao)(H:Hp)(Q:VK)(z':XK):Prop
 |mk (a:Addr) (p:aO) (_:vs=[.ref a]) (_:jz CS CP H a p) (_:um p) (_:R p H Q)
def GS(CS CP:Addr):Sp:=Oy CS CP fun p H Q=>U2 H Q ((bw p.length).map (bE p))
def QU(CS CP:Addr):Sp:=Oy CS CP fun p H Q=>∀H',bH H H'->Q (.int (i7 p:Nat)) H'
theorem IJ{CS:Addr}{H:Hp}{bs:ag}{p:aO}(sa:wD CS H bs (p.map (md p))):bs.length=p.length:=by
 have:=dO sa;rw[aV]at this;exact this
theorem Ls{CS:Addr}{H:Hp}{bs:ag}{p:aO}{i:Nat}{x:V}(sa:wD CS H bs (p.map (md p)))(hx:(bs.map V.ref)[i]?=aa x):∃s b,p[i]?=aa s/\x=.ref b/\bs[i]?=aa b/\Np CS H b (md p s)/\i<p.length:=by
 have hi:i<p.length:=by
  have:=(aZ.mp hx).1;rw[aV,IJ sa]at this;exact this
 have hs:p[i]?=aa p[i]:=bF hi;obtain⟨b,hb,st⟩:=F5 sa hs;rw[iw hb]at hx;exact⟨p[i],b,hs,(bT hx).symm,hb,st,hi⟩
theorem eA(l:List Nat):(tx l).length=l.length:=by unfold tx;rw[aV]
theorem Dp(l:List Nat)(n:Nat):tx l++[V.int (n:Int)]=tx (l++[n]):=by unfold tx;rw[cg];rfl
theorem oh(f:Nat->Nat)(i:Nat):(bw i).map f++[f i]=(bw (i+1)).map f:=by rw[fe,cg];rfl
theorem HK{f CS CP:Addr}{fd:bC}(F:iG K "first_times" "first_times" tW f fd)(S:FG K CS)(G:FH K CP):dy P w K mg base eM 1 f fd jV (GS CS CP):=by
 refine F.ok xi fun fz A outer s H vs Q E hr h=>?_;obtain⟨a,p,rfl,pa,pw,q⟩:=h;obtain⟨dp,ls,lo,bs,os,ha,l5,sa,D6,oa⟩:=id pa;obtain⟨m,hm,_,em,fm⟩:=pw.num;have nd:=xi.nd
 refine⟨_,bh (jB 1 nd (eB bq))
  (bh (jB 2 nd cG)
  (bh (fg bW rfl (fT (cw (pv 0) rfl)) (o3 3 nd)
   (bh (d9 (cS wz (cw (pv 3) rfl) eO (dg _)) (bj (rM (i:=2) nd rfl (ux rfl) cG qB)) cT)
   (bj (dN (mq cj c9 c8 iO (pv 1) (aQ (pv 2) bq))))))
  (bj (cf (pv 1))))),?_⟩
 refine⟨by show 0<=bz;decide,fun l hl=>?_⟩;have s1:bH H (upd H l (.lst [])):=bH.new hl
 refine⟨_,rfl,a,CP,dp,_,_,rfl,s1 _ _ ha,G.cl,G.n1,jO,ls,rfl,⟨_,dw.of (s1 _ _ l5)⟩,f7 (K:=K) (a:=ls) (xs:=bs.map V.ref) (fun i σ H'=>∃v,σ=[aa (.ref a),aa (.ref l),aa (.int ((i-m:Nat):Int)),v]/\H' l=aa (.lst (tx ((bw i).map (bE p))))/\bH H H')
  ⟨ab,by rw[Nat.zero_sub];rfl,bf,s1⟩ (fun i σ H' _ ⟨_,_,_,s2⟩=>dw.of (s2 _ _ l5)) ?_ ?_⟩
 ·rintro i x σ H' hx ⟨v,rfl,NR,s2⟩;obtain⟨st,b,hs,rfl,hb,⟨db,lb,e1,e2⟩,hi⟩:=Ls sa hx;refine⟨_,rfl,b,CS,db,_,_,rfl,s2 _ _ e1,S.cl,S.n1,nY,rfl,_,rfl,?_⟩;rw[FZ];have fi:=fm i st hs
  have len:(tx ((bw i).map (bE p))).length<bz:=by
   rw[eA,aV,b8,bZ];have:=pw.j8;omega
  have fin:∀k:Nat,k=i+1-m->∃v,[aa (V.ref a),aa (V.ref l),aa (V.int (k:Int)),aa (V.ref b)]=[aa (V.ref a),aa (V.ref l),aa (V.int ((i+1-m:Nat):Int)),v]/\(upd H' l (.lst (tx ((bw i).map (bE p))++[V.int (k:Int)]))) l=aa (.lst (tx ((bw (i+1)).map (bE p))))/\bH H (upd H' l (.lst (tx ((bw i).map (bE p))++[V.int (k:Int)]))):=fun k hk=>by
   subst hk;have ek:bE p i=i+1-m:=by unfold bE;rw[em]
   exact⟨_,rfl,by rw[bf,Dp,<-ek,oh],bH.put hl s2⟩
  cases zY:st.input with
  |false=>
   have hge:m<=i:=by
    rw[zY]at fi;rcases jh i m with z|z
    ·cases fi.mpr z
    exact z
   refine dM ⟨_,rfl,_,_,rfl,rfl,_,rfl,.inl ⟨rfl,_,dw.of NR⟩,_,rfl,l,_,_,rfl,rfl,NR,len,?_⟩;have e:((i-m:Nat):Int)+1=((i+1-m:Nat):Int):=by omega
   rw[e];exact fin _ rfl
  |true=>
   have zy:i<m:=fi.mp zY;exact cE ⟨_,rfl,.inl ⟨rfl,_,dw.of NR⟩,_,rfl,l,_,_,rfl,rfl,NR,len,fin _ (by omega)⟩
 rintro σ H' ⟨v,rfl,NR,s2⟩;rw[aV,IJ sa]at NR;exact⟨_,rfl,q l H' hl s2 NR⟩
def S2(CS CP:Addr):Sp:=Oy CS CP fun p H Q=>U2 H Q ((bw p.length).map (dj p))
theorem Ra{H:Hp}{os:ag}{p:aO}(oa:EZ H os (p.map fun s=>s.uses)):os.length=p.length:=by
 have:=dO oa;rw[aV]at this;exact this
theorem aaf{H:Hp}{os:ag}{p:aO}{i:Nat}{x:V}(oa:EZ H os (p.map fun s=>s.uses))(hx:(os.map V.ref)[i]?=aa x):∃s b,p[i]?=aa s/\x=.ref b/\os[i]?=aa b/\H b=aa (.lst (tx s.uses))/\i<p.length:=by
 have hi:i<p.length:=by
  have:=(aZ.mp hx).1;rw[aV,Ra oa]at this;exact this
 have hs:p[i]?=aa p[i]:=bF hi;obtain⟨b,hb,e⟩:=uL oa (show(p.map fun s=>s.uses)[i]?=aa p[i].uses by rw[bL,hs];rfl);rw[iw hb]at hx;exact⟨p[i],b,hs,(bT hx).symm,hb,e,hi⟩
theorem yR{n k:Nat}(h:k<n):U8 n (k:Int)=aa k:=by
 unfold U8;rw[da (by omega)];simpa using h
theorem O5{f CS CP:Addr}{fd:bC}(F:iG K "end_time" "end_time" Ax f fd)(S:FG K CS)(G:FH K CP)(hl:mg "len"=ab):dy P w K mg base eM 1 f fd jV (QU CS CP):=by
 refine F.ok EL fun fz A outer s H vs Q E hr h=>?_;obtain⟨a,p,rfl,pa,pw,q⟩:=h;obtain⟨dp,ls,lo,bs,os,ha,l5,sa,D6,oa⟩:=id pa;obtain⟨m,hm,_,em,fm⟩:=pw.num;have nd:=EL.nd
 refine⟨_,bj (cf (fZ j5 (dD cJ (by rfl) hl cx (aQ (KH (own:=[("statement",1)]) (g:=zZ 1) (tt:=SS (tOp rNe (ZN K (Am 1) "word") (tC (.str "in")))) rfl nd (fT (cw (pv 0) rfl)) (rZ (by rfl))
  (fun s H C cl fp=>o3 1 nd) (fun s H C cl fp=>LP (cS wz (cw (pv 1) rfl) eO (dg _))) (fun s H C cl fp=>pv 1)) bq)) cG)),?_⟩
 refine⟨_,rfl,a,CP,dp,_,_,rfl,ha,G.cl,G.n1,jO,ls,rfl,⟨_,dw.of l5⟩,fun D hD=>?_⟩;refine BX (xs:=bs.map V.ref) (fun i G=>bH H G/\∃acc,G D=aa (.lst acc)/\acc.length=i-m) ⟨bH.new hD,[],bf,by simp⟩ ?_ ?_ ?_
 ·rintro i G _ ⟨sg,_⟩;exact dw.of (sg _ _ l5)
 ·rintro i x G hx ⟨sg,acc,hG,hz⟩;obtain⟨st,b,hs,rfl,hb,⟨db,lb,e1,e2⟩,hi⟩:=Ls sa hx;refine⟨rfl,_,rfl,b,CS,db,_,_,rfl,sg _ _ e1,S.cl,S.n1,nY,rfl,_,rfl,?_⟩;rw[FZ];have fi:=fm i st hs;have fw:=pw.j8;cases zY:st.input with
  |false=>
   have hge:m<=i:=by
    rw[zY]at fi;rcases jh i m with z|z
    ·cases fi.mpr z
    exact z
   exact dM ⟨_,rfl,acc,hG,by rw[bZ];omega,bH.put hD sg,_,bf,by rw[bR];show acc.length+1=_;omega⟩
  |true=>
   have zy:i<m:=fi.mp zY;exact cE ⟨sg,acc,hG,by omega⟩
 rintro G ⟨sg,acc,hG,hz⟩;rw[aV,IJ sa]at hz;refine⟨D,_,rfl,.inl (dw.of hG),_,_,rfl,rfl,?_⟩
 have e:(acc.length:Int)+1=(i7 p:Nat):=by
  unfold i7;rw[em,hz];rfl
 show Q (V.int ((acc.length:Int)+1)) G;rw[e];exact q G sg
theorem JE{f CS CP:Addr}{fd:bC}(F:iG K "last_times" "last_times" vA f fd)(S:FG K CS)(G:FH K CP)(KW:mg "enumerate"=ab)(NP:mg "list"=ab)
 (Cf:Fn P w K mg base eM 1 "first_times" jV (GS CS CP))(Ce:Fn P w K mg base eM 1 "end_time" jV (QU CS CP)):dy P w K mg base eM 2 f fd jV (S2 CS CP):=by
 refine F.ok zQ fun fz A outer s H vs Q E hr h=>?_
 obtain⟨a,p,rfl,pa,pw,q⟩:=h
 obtain⟨dp,ls,lo,bs,os,ha,l5,sa,D6,oa⟩:=id pa
 have fw:=pw.j8
 have nd:=zQ.nd
 refine⟨_,bh (jB 1 nd (dJ Cf hr (by rfl) (aQ (pv 0) bq)))
  (bh (jB 2 nd (pE CJ (by rfl) NP Nh (aQ (pv 1) bq)))
  (bh (fg bW rfl (pN (by rfl) KW (aQ (cw (pv 0) rfl) bq)) (qA rfl (fq (o3 3 nd) (fq (o3 4 nd) mE)))
   (bj (fg bW rfl (fT (pv 4)) (o3 5 nd) (bj (DJ (dW cW (pv 1) (pv 3) (fun _ _=>rfl)) (DK (pv 2) (pv 5) set_list))))))
  (bh (fg bW rfl (pN (by rfl) KW (aQ (cw (pv 0) rfl) bq)) (qA rfl (fq (o3 3 nd) (fq (o3 6 nd) mE)))
   (bj (d9 (cS iY (cw (pv 6) rfl) eO (dg _)) (bj (DJ (dJ Ce hr (by rfl) (aQ (pv 0) bq)) (DK (pv 2) (pv 3) set_list))) cT)))
  (bj (cf (pv 2)))))),?_⟩
 refine⟨_,rfl,a,p,rfl,pa,pw,fun l1 H1 n1 s1 e1=>?_⟩
 refine⟨_,rfl,l1,_,rfl,.inl (dw.of e1),fun l2 n2=>?_⟩
 have s2:bH H (upd H1 l2 (.lst (tx ((bw p.length).map (bE p))))):=s1.trans (bH.new n2)
 have aga:l1≠l2:=bP e1 n2
 have n2H:H l2=ab:=s1.free n2
 refine⟨_,rfl,a,CP,dp,_,_,rfl,s2 _ _ ha,G.cl,G.n2,Tn,lo,_,rfl,dw.of (s2 _ _ D6),ot (xs:=os.map V.ref) (fun i σ H'=>Ex3 fun v3 v4 v5=>σ=[aa (.ref a),aa (.ref l1),aa (.ref l2),v3,v4,v5,ab]/\bH H H'/\H' l1=aa (.lst (tx ((bw p.length).map (bE p))))/\H' l2=aa (.lst (tx ((bw p.length).map (LT p i))))) ?_ ?_ ?_ ?_⟩
 ·exact⟨ab,ab,ab,rfl,s2,by rw[bB aga];exact e1,bf⟩
 ·rintro i σ H' _ ⟨v3,v4,v5,rfl,sm,_⟩
  exact dw.of (sm _ _ D6)
 ·rintro i x σ H' T hx ⟨v3,v4,v5,rfl,sm,f1,f2⟩ hT
  obtain⟨st,b,hs,rfl,hb,e,hi⟩:=aaf oa hx
  have sT:bH H' (upd H' T (.tup [.int (i:Nat),.ref b])):=bH.new hT
  refine⟨T,_,rfl,wF.of bf,rfl,_,_,rfl,_,_,rfl,rfl,?_⟩
  have sF:=sm.trans sT
  refine⟨_,rfl,b,rfl,⟨_,dw.of (sF _ _ e)⟩,f7 (K:=K) (a:=b) (xs:=tx st.uses) (fun j σ H2=>∃v5,σ=[aa (.ref a),aa (.ref l1),aa (.ref l2),aa (.int (i:Nat)),aa (.ref b),v5,ab]/\bH H H2/\H2 l1=aa (.lst (tx ((bw p.length).map (bE p))))/\H2 l2=aa (.lst (tx ((bw p.length).map fun c=>if(st.uses.take j).contains c=ae then bE p i else LT p i c)))) ?_ ?_ ?_ ?_⟩
  ·refine⟨_,rfl,sF,sT _ _ f1,?_⟩
   rw[List.take_zero]
   exact sT _ _ f2
  ·rintro j σ H2 _ ⟨_,_,EI,_⟩
   exact dw.of (EI _ _ e)
  ·rintro j y σ H2 hj ⟨v5,rfl,EI,g1,g2⟩
   obtain⟨u,hu,rfl⟩:=mO hj
   have ul:u<p.length:=mz (pw.uses i st hs u (br hu)) hi
   refine⟨_,rfl,_,rfl,l1,_,_,_,rfl,rfl,dw.of g1,at_of (j:=i) rfl (show _=aa (V.int (bE p i:Nat))from ?_),_,rfl,_,rfl,l2,_,_,u,rfl,rfl,g2,?_,?_⟩
   ·unfold tx
    rw[bL,bL,fA hi]
    rfl
   ·rw[eA,aV,b8]
    exact yR ul
   refine⟨_,rfl,bH.put n2H EI,by rw[bB aga];exact g1,?_⟩
   rw[bf,Lp,F9]
   congr 3
   refine dk fun c _=>?_
   rw[take_snoc hu]
   by_cases hc:c=u
   ·subst hc
    rw[da rfl,da (by simp)]
   rw[cQ hc]
   have:(st.uses.take j++[u]).contains c=(st.uses.take j).contains c:=by
    rw[eN];simp[hc]
   rw[this]
  rintro σ H2 ⟨v5,rfl,EI,g1,g2⟩
  rw[eA,dA]at g2
  refine⟨_,_,_,rfl,EI,g1,?_⟩
  rw[g2]
  congr 3
  refine dk fun c _=>?_
  rw[aba pw]
  unfold qh
  rw[hs]
  rfl
 rintro σ H' ⟨v3,v4,v5,rfl,sm,f1,f2⟩
 rw[aV,Ra oa]at f2
 refine⟨_,rfl,a,CP,dp,_,_,rfl,sm _ _ ha,G.cl,G.n1,jO,ls,_,rfl,dw.of (sm _ _ l5),ot (xs:=bs.map V.ref) (fun i σ H'=>Ue fun v3 v6=>σ=[aa (.ref a),aa (.ref l1),aa (.ref l2),v3,v4,v5,v6]/\bH H H'/\H' l2=aa (.lst (tx ((bw p.length).map fun c=>if c<i/\ER p c=ae then i7 p else LT p p.length c)))) ?_ ?_ ?_ ?_⟩
 ·refine⟨_,_,rfl,sm,?_⟩
  rw[f2]
  have e:(bw p.length).map (LT p p.length)=(bw p.length).map fun c=>if c<0/\ER p c=ae then i7 p else LT p p.length c:=dk fun c _=>by rw[cQ (by omega)]
  rw[e]
 ·rintro i σ H' _ ⟨v3,v6,rfl,sm,_⟩
  exact dw.of (sm _ _ l5)
 ·rintro i x σ H' T hx ⟨v3,v6,rfl,sm,g2⟩ hT
  obtain⟨st,b,hs,rfl,hb,⟨db,lb,e1,e2⟩,hi⟩:=Ls sa hx
  have sT:bH H' (upd H' T (.tup [.int (i:Nat),.ref b])):=bH.new hT
  have sF:=sm.trans sT
  refine⟨T,_,rfl,wF.of bf,rfl,_,_,rfl,_,_,rfl,rfl,?_⟩
  refine⟨_,rfl,b,CS,db,_,_,rfl,sF _ _ e1,S.cl,S.n1,nY,rfl,_,rfl,?_⟩
  rw[N8 p st fun z=>(pw.inp st (br hs) z).1]
  have oi:ER p i=st.out:=by unfold ER;rw[hs];rfl
  cases ho:st.out with
  |true=>
   refine dM ⟨_,rfl,a,p,rfl,pa.same sF,pw,fun H2 EI=>⟨_,rfl,_,rfl,l2,_,_,i,rfl,rfl,EI _ _ (sT _ _ g2),?_,?_⟩⟩
   ·rw[eA,aV,b8]
    exact yR hi
   refine⟨_,_,rfl,bH.put n2H (sF.trans EI),?_⟩
   rw[bf,Lp,F9]
   congr 3
   refine dk fun c _=>?_
   by_cases hc:c=i
   ·subst hc
    rw[da rfl,da ⟨eQ _,by rw[oi,ho]⟩]
   rw[cQ hc]
   by_cases hh:c<i/\ER p c=ae
   ·rw[da hh,da ⟨by omega,hh.2⟩]
   rw[cQ hh,cQ fun z=>hh ⟨by omega,z.2⟩]
  |false=>
   refine cE ⟨_,_,rfl,sF,?_⟩
   rw[sT _ _ g2]
   congr 3
   refine dk fun c _=>?_
   by_cases hc:c=i
   ·subst hc
    rw[cQ (fun z=>by omega),cQ fun z=>by rw[oi,ho]at z;cases z.2]
   by_cases hh:c<i/\ER p c=ae
   ·rw[da hh,da ⟨by omega,hh.2⟩]
   rw[cQ hh,cQ fun z=>hh ⟨by omega,z.2⟩]
 rintro σ H' ⟨v3,v6,rfl,sm,g2⟩
 rw[aV,IJ sa]at g2
 refine⟨_,rfl,q l2 H' n2H sm ?_⟩
 rw[g2]
 congr 3
 refine dk fun c hc=>?_
 have hc:=cn.mp hc
 rw[TM]
 by_cases hh:ER p c=ae
 ·rw[da hh,da ⟨hc,hh⟩]
 rw[cQ hh,cQ fun z=>hh z.2]
inductive yo(H:Hp)(r:Addr)(p:aO):Prop
 |mk (ts:ag) (_:H r=aa (.lst (ts.map V.ref))) (_:∀i,i<p.length->∃t,ts[i]?=aa t/\H t=aa (.tup [.int (bE p i:Nat),.int (dj p i:Nat)]))
theorem yo.same{H H':Hp}{r:Addr}{p:aO}(h:yo H r p)(s:bH H H'):yo H' r p:=
 let⟨ts,e,f⟩:=h
 ⟨ts,s _ _ e,fun i hi=>let⟨t,a,b⟩:=f i hi;⟨t,a,s _ _ b⟩⟩
def Br(CS CP:Addr):Sp:=Oy CS CP fun p H Q=>∀r H',bH H H'->yo H' r p->Q (.ref r) H'
structure PgV(CS CP:Addr)(H:Hp)(a:Addr)(p:aO)(dp ls lo:Addr)(bs os:ag):Prop where
 ha:H a=aa (.ins CP dp (pgF (.ref ls) (.ref lo)))
 l5:H ls=aa (.lst (bs.map V.ref))
 D6:H lo=aa (.lst (os.map V.ref))
 bl:bs.length=p.length
 ol:os.length=p.length
 st:∀(i:Nat)(s:dz),p[i]?=aa s->∃b db lb,(bs.map V.ref)[i]?=aa (.ref b)/\H b=aa (.ins CS db (UD (.str (st (md p s).word)) (.str (st s.name)) (.int (s.length:Int)) (.str (st (md p s).way)) (.ref lb)))
 op:∀(i:Nat)(s:dz),p[i]?=aa s->∃o,(os.map V.ref)[i]?=aa (.ref o)/\H o=aa (.lst (tx s.uses))
theorem jz.v{CS CP:Addr}{H:Hp}{a:Addr}{p:aO}(h:jz CS CP H a p):∃dp ls lo bs os,PgV CS CP H a p dp ls lo bs os:=by
 obtain⟨dp,ls,lo,bs,os,ha,l5,sa,D6,oa⟩:=h;refine⟨dp,ls,lo,bs,os,ha,l5,D6,IJ sa,Ra oa,fun i s hs=>?_,fun i s hs=>?_⟩
 ·obtain⟨b,hb,db,lb,e1,e2⟩:=F5 sa hs;exact⟨b,db,lb,iw hb,e1⟩
 obtain⟨b,hb,e⟩:=uL oa (show(p.map fun s=>s.uses)[i]?=aa s.uses by rw[bL,hs];rfl);exact⟨b,iw hb,e⟩
theorem PgV.same{CS CP:Addr}{H H':Hp}{a:Addr}{p:aO}{dp ls lo:Addr}{bs os:ag}(v:PgV CS CP H a p dp ls lo bs os)(s:bH H H'):PgV CS CP H' a p dp ls lo bs os:=
 ⟨s _ _ v.ha,s _ _ v.l5,s _ _ v.D6,v.bl,v.ol,fun i x h=>let⟨b,db,lb,e,f⟩:=v.st i x h;⟨b,db,lb,e,s _ _ f⟩,fun i x h=>let⟨o,e,f⟩:=v.op i x h;⟨o,e,s _ _ f⟩⟩
theorem PgV.ref{CS CP:Addr}{H:Hp}{a:Addr}{p:aO}{dp ls lo:Addr}{bs os:ag}{i:Nat}{x:V}(v:PgV CS CP H a p dp ls lo bs os)(hx:(bs.map V.ref)[i]?=aa x):
 ∃s b db lb,p[i]?=aa s/\x=.ref b/\i<p.length/\H b=aa (.ins CS db (UD (.str (SR.st (md p s).word)) (.str (SR.st s.name)) (.int (s.length:Int)) (.str (SR.st (md p s).way)) (.ref lb))):=by
 have hi:i<p.length:=by
  have:=(aZ.mp hx).1;rw[aV,v.bl]at this;exact this
 have hs:p[i]?=aa p[i]:=bF hi
 obtain⟨b,db,lb,e,f⟩:=v.st i _ hs
 rw[e]at hx
 exact⟨p[i],b,db,lb,hs,(bT hx).symm,hi,f⟩
theorem PgV.af2{CS CP:Addr}{H:Hp}{a:Addr}{p:aO}{dp ls lo:Addr}{bs os:ag}{i:Nat}{x:V}(v:PgV CS CP H a p dp ls lo bs os)(hx:(os.map V.ref)[i]?=aa x):
 ∃s o,p[i]?=aa s/\x=.ref o/\i<p.length/\H o=aa (.lst (tx s.uses)):=by
 have hi:i<p.length:=by
  have:=(aZ.mp hx).1;rw[aV,v.ol]at this;exact this
 have hs:p[i]?=aa p[i]:=bF hi
 obtain⟨o,e,f⟩:=v.op i _ hs
 rw[e]at hx
 exact⟨p[i],o,hs,(bT hx).symm,hi,f⟩
theorem uW{p:aO}{i:Nat}(h:i<p.length):∃s,p[i]?=aa s:=⟨_,bF h⟩
theorem yS(a b:Nat):decide (V.int (a:Int)=V.int (b:Int))=(a==b):=by
 rw[eN,decide_eq_true_eq,beq_iff_eq];exact⟨fun h=>by have:=V.int.inj h;omega,fun h=>by rw[h]⟩
theorem X5(l:List Nat)(c:Nat):ve (.int (c:Int)) (tx l)=l.contains c:=by
 unfold ve tx;rw[Qz,eN,fj,dP];constructor
 ·rintro⟨x,hx,h⟩;have h:((x:Int)==(c:Int))=ae:=h;have:=beq_iff_eq.mp h;have e:x=c:=by omega
  exact e▸hx
 exact fun h=>⟨c,h,by show((c:Int)==(c:Int))=ae;simp⟩
theorem Mv(l:List Nat):(tx l).all uX=ae:=by
 unfold tx;rw[QA];exact cY.mpr fun _ _=>rfl
inductive Ks(CS CP:Addr)(R:aO->Nat->Nat->Bool)(vs:ao)(H:Hp)(Q:VK)(z':XK):Prop
 |mk (a r:Addr) (p:aO) (b c:Nat) (_:vs=[.ref a,.ref r,.int (b:Int),.int (c:Int)]) (_:jz CS CP H a p) (_:um p) (_:yo H r p) (_:b<p.length) (_:c<p.length) (_:Q (.bl (R p b c)) H)
theorem DQ{f CS CP:Addr}{fd:bC}(F:iG K "may_take_over" "may_take_over" qv f fd)(S:FG K CS)(G:FH K CP):dy P w K mg base eM 1 f fd Ti (Ks CS CP dF):=by
 refine F.ok uF fun fz A outer s H vs Q E hr h=>?_;obtain⟨a,r,p,b,c,rfl,pa,pw,⟨ts,er,ft⟩,hb,hc,q⟩:=h;obtain⟨dp,ls,lo,bs,os,v⟩:=pa.v;obtain⟨sb,eb⟩:=uW hb;obtain⟨sc,ec⟩:=uW hc;obtain⟨b1,d1,k1,e1,g1⟩:=v.st b sb eb;obtain⟨b2,d2,k2,e2,g2⟩:=v.st c sc ec;obtain⟨o1,e3,g3⟩:=v.op b sb eb;obtain⟨t1,e4,g4⟩:=ft b hb;obtain⟨t2,e5,g5⟩:=ft c hc;have nd:=uF.nd
 refine⟨_,bh (d9 (KC (cS wz (cw (dW cW (cw (pv 0) rfl) (pv 2) (fun _ _=>rfl)) rfl) eO (dg _)) (DH (cS qR (pv 3) (dW cW (cw (pv 0) rfl) (pv 2) (fun _ _=>rfl)) (by rfl)))).pt (bj (cf zW)) cT)
  (bh (jB 4 nd (jD iY (cw (dW cW (cw (pv 0) rfl) (pv 2) (fun _ _=>rfl)) rfl) (cw (dW cW (cw (pv 0) rfl) (pv 3) (fun _ _=>rfl)) rfl) (dg _)))
  (bj (cf (vN (pv 4) (vM (jD iY (dW vP (dW cW (pv 1) (pv 3) (fun _ _=>rfl)) cG (fun _ _=>rfl)) (dW vP (dW cW (pv 1) (pv 2) (fun _ _=>rfl)) cG (fun _ _=>rfl)) (dg _))))))),?_⟩
 have ev:dF p b c=(!sb.input&&(!sb.turn&&(sb.uses.contains c&&(sb.length==aU p c&&dj p c==bE p b)))):=by
  unfold dF;rw[eb]
 refine⟨_,rfl,a,CP,dp,_,_,rfl,v.ha,G.cl,G.n1,jO,_,rfl,ls,_,_,_,rfl,rfl,dw.of v.l5,at_of (j:=b) rfl e1,b1,CS,d1,_,_,rfl,g1,S.cl,S.n4,Lx,rfl,_,rfl,?_⟩;rw[ZI];cases hw:(!sb.input&& !sb.turn)with
 |false=>
  refine dM (dM ?_)
  have:dF p b c=af:=by
   rw[ev];cases h1:sb.input<;>cases h2:sb.turn<;>simp_all
  rw[this]at q;exact q
 |true=>
  refine cE ⟨_,rfl,_,rfl,a,CP,dp,_,_,rfl,v.ha,G.cl,G.n2,Tn,_,rfl,lo,_,_,_,rfl,rfl,dw.of v.D6,at_of (j:=b) rfl e3,o1,_,rfl,.inl (dw.of g3),rfl,Mv _,_,rfl,?_⟩;have hh:(if ae=ae then !ve (.int (c:Int)) (tx sb.uses)else ve (.int (c:Int)) (tx sb.uses))= !(sb.uses.contains c):=by rw[da rfl,X5]
  rw[hh]
  have ev2:dF p b c=(sb.uses.contains c&&(sb.length==aU p c&&dj p c==bE p b)):=by
   rw[ev];cases h1:sb.input<;>cases h2:sb.turn<;>simp_all
  cases hu:sb.uses.contains c with
  |false=>
   rw[hu]at ev2;rw[ev2]at q;exact dM q
  |true=>
   rw[hu,eI]at ev2
   refine cE ⟨_,rfl,a,CP,dp,_,_,rfl,v.ha,G.cl,G.n1,jO,_,rfl,ls,_,_,_,rfl,rfl,dw.of v.l5,at_of (j:=b) rfl e1,b1,CS,d1,_,_,rfl,g1,S.cl,S.n3,iN,
    _,rfl,a,CP,dp,_,_,rfl,v.ha,G.cl,G.n1,jO,_,rfl,ls,_,_,_,rfl,rfl,dw.of v.l5,at_of (j:=c) rfl e2,b2,CS,d2,_,_,rfl,g2,S.cl,S.n3,iN,rfl,_,rfl,_,rfl,?_⟩
   rw[yS];rw[iR ec]at ev2;cases hl:(sb.length==sc.length)with
   |false=>
    rw[hl,eD]at ev2;rw[ev2]at q;exact cE q
   |true=>
    rw[hl,eI]at ev2;refine dM ⟨_,rfl,_,rfl,r,_,_,_,rfl,rfl,dw.of er,at_of (j:=c) rfl (iw e5),t2,_,_,_,rfl,rfl,wF.of g5,at_of (j:=1) rfl rfl,_,rfl,_,rfl,r,_,_,_,rfl,rfl,dw.of er,at_of (j:=b) rfl (iw e4),t1,_,_,_,rfl,rfl,wF.of g4,at_of (j:=0) rfl rfl,rfl,?_⟩;rw[yS,<-ev2];exact q
theorem Mu:∀(l:List Nat)(b:Nat),b<=l.foldl max b/\∀x∈l,x<=l.foldl max b
 |[],b=>⟨bu _,fun x hx=>by cases hx⟩
 |y::l,b=>by
  obtain⟨h1,h2⟩:=Mu l (max b y);refine⟨cR (Nat.le_max_left _ _) h1,fun x hx=>?_⟩;rcases bQ.mp hx with e|e
  ·subst e;exact cR (Nat.le_max_right _ _) h1
  exact h2 x e
theorem Mt:∀(l:List Nat)(b:Nat),l.foldl max b=b\/l.foldl max b∈l
 |[],b=>.inl rfl
 |y::l,b=>by
  show l.foldl max (max b y)=b\/l.foldl max (max b y)∈y::l;rcases Mt l (max b y)with e|e
  ·rw[e];rcases Nat.le_total b y with h|h
   ·rw[Jb h];exact .inr (bO ..)
   rw[Nat.max_eq_left h];exact .inl rfl
  exact .inr (bD _ e)
theorem aaJ{l m:List Nat}(h:∀x,x∈l↔x∈m):l.foldl max 0=m.foldl max 0:=by
 have le:∀{l m:List Nat},(∀x,x∈l->x∈m)->l.foldl max 0<=m.foldl max 0:=fun{l m} s=>by
  rcases Mt l 0 with e|e
  ·rw[e];exact cC _
  exact(Mu m 0).2 _ (s _ e)
 exact Nat.le_antisymm (le fun x hx=>(h x).mp hx) (le fun x hx=>(h x).mpr hx)
theorem Oi(l:List Nat)(x b:Nat):(l++[x]).foldl (fun n y=>n+y) b=l.foldl (fun n y=>n+y) b+x:=by rw[hV];rfl
theorem Wu:∀(l:List Nat)(b x:Nat),x∈l->x+b<=l.foldl (fun n y=>n+y) b
 |y::l,b,x,h=>by
  show x+b<=l.foldl _ (b+y)
  have mono:∀(l:List Nat)(b:Nat),b<=l.foldl (fun n y=>n+y) b:=fun l=>by
   induction l with
   |nil=>exact fun b=>bu _
   |cons z l ih=>exact fun b=>cR (iH b z) (ih (b+z))
  rcases bQ.mp h with e|e
  ·subst e;have:=mono l (b+x);omega
  have:=Wu l (b+y) x e;omega
def LL(p:aO)(t i:Nat):Nat:=(((bw i).filter fun a=>i9 p a t).map (aU p)).foldl (fun n x=>n+x) 0
theorem abb(p:aO)(t i:Nat):LL p t (i+1)=LL p t i+if i9 p i t=ae then aU p i else 0:=by
 unfold LL;rw[vK (α:=Nat)];by_cases h:i9 p i t=ae
 ·rw[da h,da h,cg];exact Oi _ _ _
 rw[cQ h,cQ h,cp,SD]
def Dm(p:aO)(b:Nat):List Nat:=((p[b]?).map fun s=>s.uses).getD []
def LV(p:aO)(t b j:Nat):List Nat:=if bE p b=t then(((Dm p b).take j).filter fun a=>dF p b a).map (aU p)else[]
def OV(p:aO)(t i:Nat):List Nat:=(bw i).flatMap fun b=>LV p t b (Dm p b).length
theorem aa9(p:aO)(t i:Nat):OV p t (i+1)=OV p t i++LV p t i (Dm p i).length:=by
 unfold OV;rw[fe,sv];simp
theorem z9{p:aO}(a:Nat)(h:a<p.length):bE p a<=dj p a:=by
 rw[TM];split
 ·unfold bE i7;omega
 exact(Mu _ _).1
theorem w8{p:aO}{b a:Nat}(h:dF p b a=ae):∃s,p[b]?=aa s/\a∈s.uses/\s.input=af/\s.turn=af/\s.length=aU p a/\dj p a=bE p b:=by
 unfold dF at h;cases hs:p[b]? with
 |none=>rw[hs]at h;cases h
 |some s=>
  rw[hs]at h;simp only[cM,vd,beq_iff_eq]at h;exact⟨s,rfl,dP.mp h.2.2.1,h.1,h.2.1,h.2.2.2.1,h.2.2.2.2⟩
theorem aan{p:aO}(w:um p)(t:Nat):mK p t=LL p t p.length-(OV p t p.length).foldl max 0/\(OV p t p.length).foldl max 0<=LL p t p.length:=by
 have live:∀a,a<p.length->∀b,b<p.length->dF p b a=ae->bE p b=t->i9 p a t=ae/\i9 p b t=ae:=fun a ha b hb h e=>by
  obtain⟨s,hs,_,_,_,_,hl⟩:=w8 h;unfold i9;have f1:=z9 a ha;have f2:=z9 b hb;simp only[cM,decide_eq_true_eq];omega
 have mem:∀x,x∈OV p t p.length↔∃b,b<p.length/\bE p b=t/\∃a,dF p b a=ae/\aU p a=x:=fun x=>by
  unfold OV LV;rw[ki];constructor
  ·rintro⟨b,hb,h⟩;split at h
   ·rename_i ht;obtain⟨a,ha,e⟩:=di.mp h;exact⟨b,cn.mp hb,ht,a,(cI.mp ha).2,e⟩
   cases h
  rintro⟨b,hb,ht,a,h,e⟩;refine⟨b,cn.mpr hb,?_⟩;rw[da ht,di];refine⟨a,cI.mpr ⟨?_,h⟩,e⟩;rw[dA];obtain⟨s,hs,hu,_⟩:=w8 h;unfold Dm;rw[hs];exact hu
 have alt:∀b a,dF p b a=ae->b<p.length/\a<p.length:=fun b a h=>by
  obtain⟨s,hs,hu,_⟩:=w8 h;have hb:=(aZ.mp hs).1;exact⟨hb,mz (w.uses b s hs a hu) hb⟩
 have e1:(((bw p.length).filter fun a=>i9 p a t).flatMap fun b=>if bE p b=t then(((bw p.length).filter fun a=>i9 p a t).filter fun a=>dF p b a).map (aU p)else[]).foldl max 0=(OV p t p.length).foldl max 0:=by
  refine aaJ fun x=>?_;rw[mem,ki];constructor
  ·rintro⟨b,hb,h⟩;split at h
   ·rename_i ht;obtain⟨a,ha,e⟩:=di.mp h;exact⟨b,cn.mp (cI.mp hb).1,ht,a,(cI.mp ha).2,e⟩
   cases h
  rintro⟨b,hb,ht,a,h,e⟩;have ha:=(alt b a h).2;obtain⟨l1,l2⟩:=live a ha b hb h ht;refine⟨b,cI.mpr ⟨cn.mpr hb,l2⟩,?_⟩;rw[da ht,di];exact⟨a,cI.mpr ⟨cI.mpr ⟨cn.mpr ha,l1⟩,h⟩,e⟩
 refine⟨?_,?_⟩
 ·unfold mK;simp only;rw[e1];rfl
 rcases Mt (OV p t p.length) 0 with e|e
 ·rw[e];exact cC _
 obtain⟨b,hb,ht,a,h,ex⟩:=(mem _).mp e;have ha:=(alt b a h).2;obtain⟨l1,l2⟩:=live a ha b hb h ht;rw[<-ex];have:=Wu (((bw p.length).filter fun a=>i9 p a t).map (aU p)) 0 (aU p a) (di.mpr ⟨a,cI.mpr ⟨cn.mpr ha,l1⟩,rfl⟩);exact this
inductive S6(CS CP:Addr)(R:aO->Nat->Nat)(vs:ao)(H:Hp)(Q:VK)(z':XK):Prop
 |mk (a r:Addr) (p:aO) (t:Nat) (_:vs=[.ref a,.ref r,.int (t:Int)]) (_:jz CS CP H a p) (_:um p) (_:yo H r p) (_:∀H',bH H H'->Q (.int (R p t:Nat)) H')
def S1(CS CP:Addr):Sp:=Oy CS CP fun p H Q=>∀H',bH H H'->Q (.int (FN p:Nat)) H'
theorem Ma(a b:Nat):(if(b:Int)> (a:Int)then(b:Int)else(a:Int))=((max a b:Nat):Int):=by
 by_cases h:b>a
 ·rw[da (by omega),Jb (du h)]
 rw[cQ (by omega),Nat.max_eq_left (by omega)]
theorem K3(l:List Nat)(x b:Nat):(l++[x]).foldl max b=max (l.foldl max b) x:=by rw[hV];rfl
theorem HJ{f CS CP:Addr}{fd:bC}(F:iG K "live_length" "live_length" tV f fd)(S:FG K CS)(G:FH K CP)(KW:mg "enumerate"=ab):dy P w K mg base eM 1 f fd KD (S6 CS CP fun p t=>LL p t p.length):=by
 refine F.ok xh fun fz A outer s H vs Q E hr h=>?_;obtain⟨a,r,p,t,rfl,pa,pw,⟨ts,er,ft⟩,q⟩:=h;obtain⟨dp,ls,lo,bs,os,v⟩:=pa.v;have nd:=xh.nd
 refine⟨_,bh (jB 3 nd cG)
  (bh (fg bW rfl (pN (by rfl) KW (aQ (cw (pv 0) rfl) bq)) (qA rfl (fq (o3 4 nd) (fq (o3 5 nd) mE)))
   (bj (d9 (Xa BG BG (dW vP (dW cW (pv 1) (pv 4) (fun _ _=>rfl)) cG (fun _ _=>rfl)) (pv 2) (dW vP (dW cW (pv 1) (pv 4) (fun _ _=>rfl)) cG (fun _ _=>rfl))) (bj (rM (i:=3) nd rfl (ux rfl) (cw (pv 5) rfl) qB)) cT)))
  (bj (cf (pv 3)))),?_⟩
 refine⟨_,rfl,a,CP,dp,_,_,rfl,v.ha,G.cl,G.n1,jO,ls,_,rfl,dw.of v.l5,ot (xs:=bs.map V.ref) (fun i σ H'=>∃v4 v5,σ=[aa (.ref a),aa (.ref r),aa (.int (t:Int)),aa (.int (LL p t i:Nat)),v4,v5]/\bH H H') ⟨ab,ab,rfl,fun _ _ e=>e⟩ (fun i σ H' _ ⟨_,_,_,s2⟩=>dw.of (s2 _ _ v.l5)) ?_ ?_⟩
 ·rintro i x σ H' T hx ⟨v4,v5,rfl,sm⟩ hT;obtain⟨st,b,db,lb,hs,rfl,hi,g⟩:=v.ref hx;have sT:bH H' (upd H' T (.tup [.int (i:Nat),.ref b])):=bH.new hT;have sF:=sm.trans sT;obtain⟨ti,ei,gi⟩:=ft i hi;refine⟨T,_,rfl,wF.of bf,rfl,_,_,rfl,_,_,rfl,rfl,?_⟩;refine⟨_,rfl,_,rfl,r,_,_,_,rfl,rfl,dw.of (sF _ _ er),at_of (j:=i) rfl (iw ei),ti,_,_,_,rfl,rfl,wF.of (sF _ _ gi),at_of (j:=0) rfl rfl,_,rfl,_,_,rfl,rfl,_,rfl,?_⟩
  have fin:∀k:Nat,k=LL p t (i+1)->∃v4 v5,[aa (V.ref a),aa (V.ref r),aa (V.int (t:Int)),aa (V.int (k:Int)),aa (V.int (i:Nat)),aa (V.ref b)]=[aa (V.ref a),aa (V.ref r),aa (V.int (t:Int)),aa (V.int (LL p t (i+1):Nat)),v4,v5]/\bH H (upd H' T (.tup [.int (i:Nat),.ref b])):=fun k hk=>by
   subst hk;exact⟨_,_,rfl,sF⟩
  have ll:=abb p t i;have lv:i9 p i t=(decide (bE p i<=t)&&decide (t<=dj p i)):=rfl;rw[lv]at ll;by_cases h1:bE p i<=t
  ·rw[qk (show((bE p i:Nat):Int)<=(t:Int)by omega)];refine dM ⟨_,rfl,_,rfl,r,_,_,_,rfl,rfl,dw.of (sF _ _ er),at_of (j:=i) rfl (iw ei),ti,_,_,_,rfl,rfl,wF.of (sF _ _ gi),at_of (j:=1) rfl rfl,_,_,rfl,rfl,_,rfl,?_⟩;rw[qk h1]at ll;by_cases h2:t<=dj p i
   ·rw[qk (show(t:Int)<=((dj p i:Nat):Int)by omega)];rw[qk h2,Bool.and_self,da rfl,iR hs]at ll;refine dM ⟨_,rfl,_,rfl,b,CS,db,_,_,rfl,sF _ _ g,S.cl,S.n3,iN,_,_,rfl,rfl,?_⟩;have e:((LL p t i:Nat):Int)+(st.length:Int)=((LL p t (i+1):Nat):Int):=by omega
    show∃v4 v5,[_,_,_,aa (V.int (((LL p t i:Nat):Int)+(st.length:Int))),_,_]=_/\_;rw[e];exact fin _ rfl
   rw[gX (show¬(t:Int)<=((dj p i:Nat):Int)by omega)];rw[gX h2,cQ (by decide)]at ll;exact cE (fin _ (by omega))
  rw[gX (show¬((bE p i:Nat):Int)<=(t:Int)by omega)];rw[gX h1,eD,cQ (by decide)]at ll;exact cE ⟨_,rfl,cE (fin _ (by omega))⟩
 rintro σ H' ⟨v4,v5,rfl,sm⟩;rw[aV,v.bl];exact⟨_,rfl,q H' sm⟩
theorem xN{f CS CP:Addr}{fd:bC}(F:iG K "length_taken_over" "length_taken_over" l3 f fd)(S:FG K CS)(G:FH K CP)(KW:mg "enumerate"=ab)(hmx:mg "max"=ab)
 (Cm:Fn P w K mg base eM 1 "may_take_over" Ti (Ks CS CP dF)):dy P w K mg base eM 2 f fd KD (S6 CS CP fun p t=>(OV p t p.length).foldl max 0):=by
 refine F.ok pZ fun fz A outer s H vs Q E hr h=>?_
 obtain⟨a,r,p,t,rfl,pa,pw,rg,q⟩:=h
 obtain⟨ts,er,ft⟩:=id rg
 obtain⟨dp,ls,lo,bs,os,v⟩:=pa.v
 have nd:=pZ.nd
 refine⟨_,bh (jB 3 nd cG)
  (bh (fg bW rfl (pN (by rfl) KW (aQ (cw (pv 0) rfl) bq)) (qA rfl (fq (o3 4 nd) (fq (o3 5 nd) mE)))
   (bj (fg bW rfl (fT (pv 5)) (o3 6 nd)
    (bj (d9 (xF (cS iY (dW vP (dW cW (pv 1) (pv 4) (fun _ _=>rfl)) cG (fun _ _=>rfl)) (pv 2) (dg _)) (sZ (jy (dJ Cm hr (by rfl) (aQ (pv 0) (aQ (pv 1) (aQ (pv 4) (aQ (pv 6) bq)))))))).pt
     (bj (jB 3 nd (dD (Ei rfl) (by rfl) hmx boot_max (aQ (pv 3) (aQ (cw (dW cW (cw (pv 0) rfl) (pv 6) (fun _ _=>rfl)) rfl) bq))))) cT)))))
  (bj (cf (pv 3)))),?_⟩
 refine⟨_,rfl,a,CP,dp,_,_,rfl,v.ha,G.cl,G.n2,Tn,lo,_,rfl,dw.of v.D6,ot (xs:=os.map V.ref) (fun i σ H'=>∃v4 v5 v6,σ=[aa (.ref a),aa (.ref r),aa (.int (t:Int)),aa (.int ((OV p t i).foldl max 0:Nat)),v4,v5,v6]/\bH H H') ⟨ab,ab,ab,rfl,fun _ _ e=>e⟩ (fun i σ H' _ ⟨_,_,_,_,s2⟩=>dw.of (s2 _ _ v.D6)) ?_ ?_⟩
 ·rintro i x σ H' T hx ⟨v4,v5,v6,rfl,sm⟩ hT
  obtain⟨st,o,hs,rfl,hi,g⟩:=v.af2 hx
  have sT:bH H' (upd H' T (.tup [.int (i:Nat),.ref o])):=bH.new hT
  have sF:=sm.trans sT
  obtain⟨ti,ei,gi⟩:=ft i hi
  have us:Dm p i=st.uses:=by unfold Dm;rw[hs];rfl
  refine⟨T,_,rfl,wF.of bf,rfl,_,_,rfl,_,_,rfl,rfl,?_⟩
  refine⟨_,rfl,o,rfl,⟨_,dw.of (sF _ _ g)⟩,f7 (K:=K) (a:=o) (xs:=tx st.uses) (fun j σ H2=>H2=upd H' T (.tup [.int (i:Nat),.ref o])/\∃v6,σ=[aa (.ref a),aa (.ref r),aa (.int (t:Int)),aa (.int ((OV p t i++LV p t i j).foldl max 0:Nat)),aa (.int (i:Nat)),aa (.ref o),v6]) ?_ ?_ ?_ ?_⟩
  ·refine⟨rfl,v6,?_⟩
   have:LV p t i 0=[]:=by unfold LV;split<;>simp
   rw[this,cp]
   rfl
  ·rintro j σ H2 _ ⟨rfl,_⟩
   exact dw.of (sF _ _ g)
  ·rintro j y σ H2 hj ⟨rfl,v6,rfl⟩
   obtain⟨u,hu,rfl⟩:=mO hj
   have ul:u<p.length:=mz (pw.uses i st hs u (br hu)) hi
   have on:LV p t i (j+1)=LV p t i j++if bE p i=t/\dF p i u=ae then[aU p u]else[]:=by
    unfold LV;rw[us];by_cases h1:bE p i=t
    ·rw[da h1,da h1,take_snoc hu,kO,cg];congr 1;by_cases h2:dF p i u=ae
     ·rw[da ⟨h1,h2⟩,fE h2];rfl
     rw[cQ fun z=>h2 z.2,gM h2];rfl
    rw[cQ h1,cQ h1,cQ fun z=>h1 z.1];rfl
   refine⟨_,rfl,_,rfl,r,_,_,_,rfl,rfl,dw.of (sF _ _ er),at_of (j:=i) rfl (iw ei),ti,_,_,_,rfl,rfl,wF.of (sF _ _ gi),at_of (j:=0) rfl rfl,_,rfl,rfl,_,rfl,?_⟩
   rw[yS]
   cases h1:(bE p i==t)with
   |false=>
    rw[cQ (fun z=>by rw[beq_iff_eq.mpr z.1]at h1;cases h1),cp]at on
    refine cE (cE ⟨rfl,aa (.int (u:Int)),?_⟩)
    rw[on]
    rfl
   |true=>
    refine dM ⟨_,rfl,_,rfl,_,rfl,_,rfl,a,r,p,i,u,rfl,pa.same sF,pw,rg.same sF,hi,ul,_,rfl,?_⟩
    cases h2:dF p i u with
    |false=>
     rw[cQ (fun z=>by rw[h2]at z;cases z.2),cp]at on
     refine cE ⟨rfl,aa (.int (u:Int)),?_⟩
     rw[on]
     rfl
    |true=>
     rw[da ⟨beq_iff_eq.mp h1,h2⟩]at on
     obtain⟨su,eu⟩:=uW ul
     obtain⟨b2,d2,k2,e2,g2⟩:=v.st u su eu
     refine dM ⟨_,rfl,_,rfl,a,CP,dp,_,_,rfl,sF _ _ v.ha,G.cl,G.n1,jO,_,rfl,ls,_,_,_,rfl,rfl,dw.of (sF _ _ v.l5),at_of (j:=u) rfl e2,b2,CS,d2,_,_,rfl,sF _ _ g2,S.cl,S.n3,iN,_,_,rfl,?_⟩
     refine⟨rfl,aa (.int (u:Int)),?_⟩
     rw[Ma,on,<-de,K3,iR eu]
     rfl
  rintro σ H2 ⟨rfl,v6,rfl⟩
  refine⟨aa (.int (i:Nat)),aa (.ref o),v6,?_,sF⟩
  rw[aa9,us,eA]
 rintro σ H' ⟨v4,v5,v6,rfl,sm⟩
 rw[aV,v.ol]
 exact⟨_,rfl,q H' sm⟩
theorem AB{f CS CP:Addr}{fd:bC}(F:iG K "needed_at_least" "needed_at_least" n8 f fd)(TY:mg "range"=ab)(hmx:mg "max"=ab)
 (Cl:Fn P w K mg base eM 3 "live_ranges" jV (Br CS CP))(Ce:Fn P w K mg base eM 1 "end_time" jV (QU CS CP))(C1:Fn P w K mg base eM 1 "live_length" KD (S6 CS CP fun p t=>LL p t p.length))
 (C2:Fn P w K mg base eM 2 "length_taken_over" KD (S6 CS CP fun p t=>(OV p t p.length).foldl max 0)):dy P w K mg base eM 4 f fd jV (S1 CS CP):=by
 refine F.ok rA fun fz A outer s H vs Q E hr h=>?_
 obtain⟨a,p,rfl,pa,pw,q⟩:=h
 have nd:=rA.nd
 refine⟨_,bh (jB 1 nd (dJ Cl hr (by rfl) (aQ (pv 0) bq)))
  (bh (jB 2 nd cG)
  (bh (fg bW rfl (uK (by rfl) TY (aQ (fZ j5 (dJ Ce (hr.mono (by decide)) (by rfl) (aQ (pv 0) bq)) cG) bq)) (o3 3 nd)
   (bh (jB 4 nd (fZ DN (dJ C1 (hr.mono (by decide)) (by rfl) (aQ (pv 0) (aQ (pv 1) (aQ (pv 3) bq)))) (dJ C2 (hr.mono (by decide)) (by rfl) (aQ (pv 0) (aQ (pv 1) (aQ (pv 3) bq))))))
   (bj (jB 2 nd (dD (Ei rfl) (by rfl) hmx boot_max (aQ (pv 2) (aQ (pv 4) bq)))))))
  (bj (cf (pv 2))))),?_⟩
 refine⟨_,rfl,a,p,rfl,pa,pw,fun r H1 s1 rg=>?_⟩
 refine⟨_,rfl,a,p,rfl,pa.same s1,pw,fun H2 s2=>⟨_,_,rfl,rfl,?_⟩⟩
 have te:i7 p<=25:=by
  have:=pw.j8;unfold i7;omega
 refine⟨_,rfl,by omega,by omega,rf (n:=i7 p+1) (fun i σ H'=>∃v3 v4,σ=[aa (.ref a),aa (.ref r),aa (.int ((((bw i).map (mK p)).foldl max 0:Nat):Int)),v3,v4]/\bH H2 H') ⟨ab,ab,rfl,fun _ _ e=>e⟩ ?_ ?_⟩
 ·rintro i σ H' hi ⟨v3,v4,rfl,sm⟩
  have ei:(0:Int)+(i:Int)=(i:Int):=by omega
  rw[ei]
  have sm0:=s2.trans sm
  refine⟨_,rfl,_,rfl,_,rfl,a,r,p,i,rfl,pa.same (s1.trans sm0),pw,rg.same sm0,fun H3 s3=>?_⟩
  refine⟨_,rfl,_,rfl,_,rfl,a,r,p,i,rfl,pa.same ((s1.trans sm0).trans s3),pw,rg.same (sm0.trans s3),fun H4 s4=>⟨_,_,rfl,rfl,?_⟩⟩
  obtain⟨n1,n2⟩:=aan pw i
  have e:((LL p i p.length:Nat):Int)-(((OV p i p.length).foldl max 0:Nat):Int)=((mK p i:Nat):Int):=by omega
  refine⟨_,rfl,_,rfl,_,_,rfl,aa (.int (i:Int)),aa (.int ((mK p i:Nat):Int)),?_,(sm.trans s3).trans s4⟩
  show[aa (V.ref a),aa (V.ref r),aa (V.int (if(((LL p i p.length:Nat):Int)-(((OV p i p.length).foldl max 0:Nat):Int))> ((((bw i).map (mK p)).foldl max 0:Nat):Int)then(((LL p i p.length:Nat):Int)-(((OV p i p.length).foldl max 0:Nat):Int))else((((bw i).map (mK p)).foldl max 0:Nat):Int))),aa (V.int (i:Int)),aa (V.int (((LL p i p.length:Nat):Int)-(((OV p i p.length).foldl max 0:Nat):Int)))]=_
  rw[e,Ma,<-K3,oh]
 rintro σ H' ⟨v3,v4,rfl,sm⟩
 exact⟨_,rfl,q H' ((s1.trans s2).trans sm)⟩
def iz(p:aO)(ns:List Int):Prop:=ns.length≠p.length\/ns.all (fun n=>decide (0<=n)&&decide (n<=10000))=af
instance (p:aO) (ns:List Int):Decidable (iz p ns):=inferInstanceAs (Decidable (_\/_))
inductive G5(K:aY)(CS CP CW:Addr)(vs:ao)(H:Hp)(Q:VK)(E:XK):Prop
 |mk (a l:Addr) (p:aO) (ns:List Int) (_:vs=[.ref a,.ref l]) (_:jz CS CP H a p) (_:dw K H l (ns.map V.int)) (_:if iz p ns then jv E H CW [("number",.int (-5))]else Q .j7 H)
theorem Fi{f CS CP CW:Addr}{fd:bC}(F:iG K "look_at_plan" "look_at_plan" rE f fd)(G:FH K CP)(hl:mg "len"=ab)(hO:∃t,mg "OFFSET_LIMIT"=aa (.int 10000 t))(M:Ec P w K mg base "WrongPlan" CW dS (iL K (-5))):
 dy P w K mg base (k7 P w) 4 f fd xH (G5 K CS CP CW):=by
 refine DV F wq fun fz A outer s H vs Q E hr h=>?_
 obtain⟨a,l,p,ns,rfl,pa,hn,q⟩:=h
 obtain⟨dp,ls,lo,bs,os,v⟩:=pa.v
 have nd:=wq.nd
 refine⟨_,bh (d9 (cS wz (dD cJ (by rfl) hl cx (aQ (pv 1) bq)) (dD cJ (by rfl) hl cx (aQ (cw (pv 0) rfl) bq)) (dg _)) (bj (kK k6 rfl (ug M (hr.mono (by decide)) (by rfl)))) cT)
  (bj (fg (Hy k6) rfl (fT (pv 1)) (o3 2 nd)
   (bj (d9 (KC (cS tm (pv 2) cG (dg _)) (DH (cS zX (pv 2) (iE (by rfl) hO) (dg _)))).pt (bj (kK k6 rfl (ug M (hr.mono (by decide)) (by rfl)))) cT)))),?_⟩
 refine⟨_,rfl,l,_,rfl,.inl hn,_,rfl,a,CP,dp,_,_,rfl,v.ha,G.cl,G.n1,jO,ls,_,rfl,.inl (dw.of v.l5),rfl,_,rfl,?_⟩
 have e:decide (V.int ((ns.map V.int).length:Int)=V.int ((bs.map V.ref).length:Int))=(ns.length==p.length):=by rw[yS,aV,aV,v.bl]
 rw[e]
 cases hlen:(ns.length==p.length)with
 |false=>
  have bad:iz p ns:=.inl fun z=>by rw[beq_iff_eq.mpr z]at hlen;cases hlen
  rw[da bad]at q
  exact dM (j4 M q)
 |true=>
  have hlen:=beq_iff_eq.mp hlen
  refine cE ⟨_,rfl,l,rfl,⟨_,hn⟩,f7 (K:=K) (a:=l) (xs:=ns.map V.int) (fun i σ H'=>H'=H/\(ns.take i).all (fun n=>decide (0<=n)&&decide (n<=10000))=ae/\∃v,σ=[aa (.ref a),aa (.ref l),v]) ⟨rfl,rfl,ab,rfl⟩ (fun i σ H' _ ⟨e,_⟩=>by rw[e];exact hn) ?_ ?_⟩
  ·rintro i x σ H' hx ⟨rfl,al,v2,rfl⟩
   obtain⟨n,hni,rfl⟩:∃n,ns[i]?=aa n/\x=.int n:=by
    rw[bL]at hx;cases e:ns[i]? with
    |none=>rw[e]at hx;cases hx
    |some n=>rw[e]at hx;exact⟨n,rfl,(bT hx).symm⟩
   have bad:¬(0<=n/\n<=10000)->jv E H' CW [("number",.int (-5))]:=fun hb=>by
    have bp:iz p ns:=.inr (by
     cases hz:ns.all (fun n=>decide (0<=n)&&decide (n<=10000))with
     |false=>rfl
     |true=>
      exfalso;have:=cY.mp hz n (br hni);rw[cM,decide_eq_true_eq,decide_eq_true_eq]at this;exact hb this)
    rw[da bp]at q;exact q
   refine⟨_,rfl,_,_,rfl,rfl,_,rfl,?_⟩
   by_cases h1:n<0
   ·rw[qk h1]
    exact dM (dM (j4 M (bad (by omega))))
   rw[gX h1]
   refine cE ⟨_,rfl,_,_,rfl,rfl,_,rfl,?_⟩
   by_cases h2:10000<n
   ·rw[qk h2]
    exact dM (j4 M (bad (by omega)))
   rw[gX h2]
   refine cE ⟨rfl,?_,_,rfl⟩
   rw[take_snoc hni,Jl,al]
   simp
   omega
  rintro σ H' ⟨rfl,al,v2,rfl⟩
  rw[aV,dA]at al
  rw[cQ (fun z:iz p ns=>by
   rcases z with z|z
   ·exact z hlen
   rw[al]at z;cases z)]at q
  exact q
def both(p:aO)(b c:Nat):Bool:=decide (0<aU p b)&&decide (0<aU p c)
inductive QZ(CS CP:Addr)(vs:ao)(H:Hp)(Q:VK)(z':XK):Prop
 |mk (a:Addr) (p:aO) (b c:Nat) (_:vs=[.ref a,.int (b:Int),.int (c:Int)]) (_:jz CS CP H a p) (_:b<p.length) (_:c<p.length) (_:Q (.bl (both p b c)) H)
inductive WI(K:aY)(CS CP:Addr)(R:aO->List Nat->Nat->Nat->Bool)(vs:ao)(H:Hp)(Q:VK)(z':XK):Prop
 |mk (a l:Addr) (p:aO) (q:List Nat) (b c:Nat) (_:vs=[.ref a,.ref l,.int (b:Int),.int (c:Int)]) (_:jz CS CP H a p) (_:dw K H l (tx q)) (_:q.length=p.length) (_:b<p.length) (_:c<p.length) (_:Q (.bl (R p q b c)) H)
def UT(p:aO)(q:List Nat)(b c:Nat):Bool:=iJ (aT q b) (aU p b) (aT q c) (aU p c)
inductive EH(K:aY)(CS CP:Addr)(R:aO->List Nat->Nat->Nat->Bool)(vs:ao)(H:Hp)(Q:VK)(z':XK):Prop
 |mk (a r l:Addr) (p:aO) (q:List Nat) (b c:Nat) (_:vs=[.ref a,.ref r,.ref l,.int (b:Int),.int (c:Int)]) (_:jz CS CP H a p) (_:um p) (_:yo H r p) (_:dw K H l (tx q)) (_:q.length=p.length) (_:b<p.length) (_:c<p.length) (_:Q (.bl (R p q b c)) H)
def Ar(p:aO)(q:List Nat)(b c:Nat):Bool:=jq p b c&&aT q b==aT q c
def rW(p:aO)(q:List Nat)(b c:Nat):Bool:=fP p b (aT q b) c (aT q c)
theorem uh{q:List Nat}{b:Nat}(h:b<q.length):(tx q)[b]?=aa (.int (aT q b:Nat)):=by
 unfold tx aT;rw[bL,bF h];rfl
theorem Yw(a b:Nat):decide ((a:Int)<=(b:Int))=decide (a<=b):=by rw[decide_eq_decide];omega
theorem zq{f CS CP:Addr}{fd:bC}(F:iG K "both_have_places" "both_have_places" mU f fd)(S:FG K CS)(G:FH K CP):dy P w K mg base eM 1 f fd ["program","a","b"] (QZ CS CP):=by
 refine F.ok zb fun fz A outer s H vs Q E hr h=>?_;obtain⟨a,p,b,c,rfl,pa,hb,hc,q⟩:=h;obtain⟨dp,ls,lo,bs,os,v⟩:=pa.v;obtain⟨sb,eb⟩:=uW hb;obtain⟨sc,ec⟩:=uW hc;obtain⟨b1,d1,k1,e1,g1⟩:=v.st b sb eb;obtain⟨b2,d2,k2,e2,g2⟩:=v.st c sc ec;refine⟨_,bj (cf (vN (jD zX (cw (dW cW (cw (pv 0) rfl) (pv 1) (fun _ _=>rfl)) rfl) cG (dg _)) (vM (jD zX (cw (dW cW (cw (pv 0) rfl) (pv 2) (fun _ _=>rfl)) rfl) cG (dg _))))),?_⟩;refine⟨_,rfl,a,CP,dp,_,_,rfl,v.ha,G.cl,G.n1,jO,_,rfl,ls,_,_,_,rfl,rfl,dw.of v.l5,at_of (j:=b) rfl e1,b1,CS,d1,_,_,rfl,g1,S.cl,S.n3,iN,_,_,rfl,rfl,_,rfl,?_⟩;unfold both at q;rw[iR eb,iR ec]at q;have ed:∀n:Nat,decide ((0:Int)<(n:Int))=decide (0<n):=fun n=>by rw[decide_eq_decide];omega
 rw[ed];cases h1:decide (0<sb.length)with
 |false=>
  rw[h1,eD]at q;exact cE q
 |true=>
  rw[h1,eI]at q;refine dM ⟨_,rfl,a,CP,dp,_,_,rfl,v.ha,G.cl,G.n1,jO,_,rfl,ls,_,_,_,rfl,rfl,dw.of v.l5,at_of (j:=c) rfl e2,b2,CS,d2,_,_,rfl,g2,S.cl,S.n3,iN,_,_,rfl,rfl,?_⟩;rw[<-ed]at q;exact q
theorem aai{f CS CP:Addr}{fd:bC}(F:iG K "meet" "meet" Q2 f fd)(Cb:Fn P w K mg base eM 1 "both_have_places" ["program","a","b"] (QZ CS CP)):dy P w K mg base eM 2 f fd OR (Ks CS CP fH):=by
 refine F.ok ZZ fun fz A outer s H vs Q E hr h=>?_;obtain⟨a,r,p,b,c,rfl,pa,pw,⟨ts,er,ft⟩,hb,hc,q⟩:=h;obtain⟨t1,e4,g4⟩:=ft b hb;obtain⟨t2,e5,g5⟩:=ft c hc
 have mt:fH p b c=(both p b c&&(decide (bE p b<=dj p c)&&decide (bE p c<=dj p b))):=by
  unfold fH both;rw[Bool.and_assoc]
 refine⟨_,bh (d9 (ue (jy (dJ Cb hr (by rfl) (aQ (pv 0) (aQ (pv 2) (aQ (pv 3) bq)))))) (bj (cf zW)) cT)
  (bj (cf (vN (jD BG (dW vP (dW cW (pv 1) (pv 2) (fun _ _=>rfl)) cG (fun _ _=>rfl)) (dW vP (dW cW (pv 1) (pv 3) (fun _ _=>rfl)) cG (fun _ _=>rfl)) (dg _))
   (vM (jD BG (dW vP (dW cW (pv 1) (pv 3) (fun _ _=>rfl)) cG (fun _ _=>rfl)) (dW vP (dW cW (pv 1) (pv 2) (fun _ _=>rfl)) cG (fun _ _=>rfl)) (dg _)))))),?_⟩
 refine⟨_,rfl,_,rfl,_,rfl,a,p,b,c,rfl,pa,hb,hc,_,rfl,?_⟩;cases h0:both p b c with
 |false=>
  rw[h0,eD]at mt;rw[mt]at q;exact dM q
 |true=>
  rw[h0,eI]at mt;refine cE ⟨_,rfl,_,rfl,r,_,_,_,rfl,rfl,dw.of er,at_of (j:=b) rfl (iw e4),t1,_,_,_,rfl,rfl,wF.of g4,at_of (j:=0) rfl rfl,_,rfl,_,rfl,r,_,_,_,rfl,rfl,dw.of er,at_of (j:=c) rfl (iw e5),t2,_,_,_,rfl,rfl,wF.of g5,at_of (j:=1) rfl rfl,_,_,rfl,rfl,_,rfl,?_⟩;rw[Yw];cases h1:decide (bE p b<=dj p c)with
  |false=>
   rw[h1,eD]at mt;rw[mt]at q;exact cE q
  |true=>
   rw[h1,eI]at mt;refine dM ⟨_,rfl,_,rfl,r,_,_,_,rfl,rfl,dw.of er,at_of (j:=c) rfl (iw e5),t2,_,_,_,rfl,rfl,wF.of g5,at_of (j:=0) rfl rfl,_,rfl,_,rfl,r,_,_,_,rfl,rfl,dw.of er,at_of (j:=b) rfl (iw e4),t1,_,_,_,rfl,rfl,wF.of g4,at_of (j:=1) rfl rfl,_,_,rfl,rfl,?_⟩;rw[mt,<-Yw]at q;exact q
theorem Rp{f CS CP:Addr}{fd:bC}(F:iG K "overlap" "overlap" DD f fd)(S:FG K CS)(G:FH K CP)(Cb:Fn P w K mg base eM 1 "both_have_places" ["program","a","b"] (QZ CS CP)):dy P w K mg base eM 2 f fd ["program","plan","a","b"] (WI K CS CP UT):=by
 refine F.ok Hg fun fz A outer s H vs Q E hr h=>?_;obtain⟨a,l,p,q,b,c,rfl,pa,hl,ql,hb,hc,k⟩:=h;obtain⟨dp,ls,lo,bs,os,v⟩:=pa.v;obtain⟨sb,eb⟩:=uW hb;obtain⟨sc,ec⟩:=uW hc;obtain⟨b1,d1,k1,e1,g1⟩:=v.st b sb eb;obtain⟨b2,d2,k2,e2,g2⟩:=v.st c sc ec;have ob:=uh (q:=q) (b:=b) (by omega);have oc:=uh (q:=q) (b:=c) (by omega);have nd:=Hg.nd
 have mt:UT p q b c=(both p b c&&(decide (aT q b<aT q c+aU p c)&&decide (aT q c<aT q b+aU p b))):=by
  unfold UT iJ both;rw[Bool.and_assoc]
 refine⟨_,bh (d9 (ue (jy (dJ Cb hr (by rfl) (aQ (pv 0) (aQ (pv 2) (aQ (pv 3) bq)))))) (bj (cf zW)) cT)
  (bh (jB 4 nd (fZ j5 (dW cW (pv 1) (pv 2) (fun _ _=>rfl)) (cw (dW cW (cw (pv 0) rfl) (pv 2) (fun _ _=>rfl)) rfl)))
  (bh (jB 5 nd (fZ j5 (dW cW (pv 1) (pv 3) (fun _ _=>rfl)) (cw (dW cW (cw (pv 0) rfl) (pv 3) (fun _ _=>rfl)) rfl)))
  (bj (cf (vN (jD tm (dW cW (pv 1) (pv 2) (fun _ _=>rfl)) (pv 5) (dg _)) (vM (jD tm (dW cW (pv 1) (pv 3) (fun _ _=>rfl)) (pv 4) (dg _)))))))),?_⟩
 refine⟨_,rfl,_,rfl,_,rfl,a,p,b,c,rfl,pa,hb,hc,_,rfl,?_⟩;cases h0:both p b c with
 |false=>
  rw[h0,eD]at mt;rw[mt]at k;exact dM k
 |true=>
  rw[h0,eI]at mt;refine cE ⟨_,rfl,_,rfl,l,_,_,_,rfl,rfl,hl,at_of (j:=b) rfl ob,_,rfl,a,CP,dp,_,_,rfl,v.ha,G.cl,G.n1,jO,_,rfl,ls,_,_,_,rfl,rfl,dw.of v.l5,at_of (j:=b) rfl e1,b1,CS,d1,_,_,rfl,g1,S.cl,S.n3,iN,_,_,rfl,rfl,?_⟩;refine⟨_,rfl,_,rfl,l,_,_,_,rfl,rfl,hl,at_of (j:=c) rfl oc,_,rfl,a,CP,dp,_,_,rfl,v.ha,G.cl,G.n1,jO,_,rfl,ls,_,_,_,rfl,rfl,dw.of v.l5,at_of (j:=c) rfl e2,b2,CS,d2,_,_,rfl,g2,S.cl,S.n3,iN,_,_,rfl,rfl,?_⟩;refine⟨_,rfl,_,rfl,l,_,_,_,rfl,rfl,hl,at_of (j:=b) rfl ob,_,rfl,_,_,rfl,rfl,_,rfl,?_⟩;rw[iR eb,iR ec]at mt;have x1:decide (((aT q b:Nat):Int)<((aT q c:Nat):Int)+(sc.length:Int))=decide (aT q b<aT q c+sc.length):=by rw[decide_eq_decide];omega
  have x2:decide (((aT q c:Nat):Int)<((aT q b:Nat):Int)+(sb.length:Int))=decide (aT q c<aT q b+sb.length):=by rw[decide_eq_decide];omega
  rw[x1];cases h1:decide (aT q b<aT q c+sc.length)with
  |false=>
   rw[h1,eD]at mt;rw[mt]at k;exact cE k
  |true=>
   rw[h1,eI]at mt;refine dM ⟨_,rfl,_,rfl,l,_,_,_,rfl,rfl,hl,at_of (j:=c) rfl oc,_,rfl,_,_,rfl,rfl,?_⟩;rw[mt,<-x2]at k;exact k
theorem UU{f CS CP:Addr}{fd:bC}(F:iG K "shares_by_taking_over" "shares_by_taking_over" j3 f fd)(Cm:Fn P w K mg base eM 1 "may_take_over" Ti (Ks CS CP dF)):
 dy P w K mg base eM 2 f fd BC (EH K CS CP Ar):=by
 refine F.ok tN fun fz A outer s H vs Q E hr h=>?_
 obtain⟨a,r,l,p,q,b,c,rfl,pa,pw,rg,hl,ql,hb,hc,k⟩:=h
 have ob:=uh (q:=q) (b:=b) (by omega)
 have oc:=uh (q:=q) (b:=c) (by omega)
 refine⟨_,bh (d9 (cS wz (dW cW (pv 2) (pv 3) (fun _ _=>rfl)) (dW cW (pv 2) (pv 4) (fun _ _=>rfl)) (dg _)) (bj (cf zW)) cT)
  (bj (cf (afY (dJ Cm hr (by rfl) (aQ (pv 0) (aQ (pv 1) (aQ (pv 3) (aQ (pv 4) bq))))) (vM (dJ Cm hr (by rfl) (aQ (pv 0) (aQ (pv 1) (aQ (pv 4) (aQ (pv 3) bq))))))))),?_⟩
 refine⟨_,rfl,_,rfl,l,_,_,_,rfl,rfl,hl,at_of (j:=b) rfl ob,_,rfl,_,rfl,l,_,_,_,rfl,rfl,hl,at_of (j:=c) rfl oc,rfl,_,rfl,?_⟩
 rw[yS]
 unfold Ar at k
 cases h1:(aT q b==aT q c)with
 |false=>
  rw[h1,Ll]at k
  exact dM k
 |true=>
  rw[h1,Bool.and_true]at k
  refine cE ⟨_,rfl,_,rfl,_,rfl,_,rfl,a,r,p,b,c,rfl,pa,pw,rg,hb,hc,_,rfl,?_⟩
  unfold jq at k
  cases h2:dF p b c with
  |true=>
   rw[h2,Bool.true_or]at k
   exact dM k
  |false=>
   rw[h2,N2]at k
   exact cE ⟨_,rfl,_,rfl,_,rfl,_,rfl,a,r,p,c,b,rfl,pa,pw,rg,hc,hb,k⟩
theorem Xx{f CS CP:Addr}{fd:bC}(F:iG K "clash" "clash" LJ f fd)(Cm:Fn P w K mg base eM 2 "meet" OR (Ks CS CP fH))(Co:Fn P w K mg base eM 2 "overlap" ["program","plan","a","b"] (WI K CS CP UT))
 (Cs:Fn P w K mg base eM 2 "shares_by_taking_over" BC (EH K CS CP Ar)):dy P w K mg base eM 3 f fd BC (EH K CS CP rW):=by
 refine F.ok W3 fun fz A outer s H vs Q E hr h=>?_
 obtain⟨a,r,l,p,q,b,c,rfl,pa,pw,rg,hl,ql,hb,hc,k⟩:=h
 have mt:rW p q b c=(fH p b c&&(UT p q b c&& !Ar p q b c)):=rfl
 refine⟨_,bh (d9 (KC (ue (jy (dJ Cm hr (by rfl) (aQ (pv 0) (aQ (pv 1) (aQ (pv 3) (aQ (pv 4) bq))))))) (DH (ue (jy (dJ Co hr (by rfl) (aQ (pv 0) (aQ (pv 2) (aQ (pv 3) (aQ (pv 4) bq))))))))).pt (bj (cf zW)) cT)
  (bj (cf (adh (dJ Cs hr (by rfl) (aQ (pv 0) (aQ (pv 1) (aQ (pv 2) (aQ (pv 3) (aQ (pv 4) bq))))))))),?_⟩
 refine⟨_,rfl,_,rfl,_,rfl,_,rfl,a,r,p,b,c,rfl,pa,pw,rg,hb,hc,_,rfl,?_⟩
 cases h1:fH p b c with
 |false=>
  rw[h1,eD]at mt
  rw[mt]at k
  exact dM (dM k)
 |true=>
  rw[h1,eI]at mt
  refine cE ⟨_,rfl,_,rfl,_,rfl,_,rfl,a,l,p,q,b,c,rfl,pa,hl,ql,hb,hc,_,rfl,?_⟩
  cases h2:UT p q b c with
  |false=>
   rw[h2,eD]at mt
   rw[mt]at k
   exact dM k
  |true=>
   rw[h2,eI]at mt
   refine cE ⟨_,rfl,_,rfl,_,rfl,_,rfl,_,rfl,a,r,l,p,q,b,c,rfl,pa,pw,rg,hl,ql,hb,hc,_,rfl,?_⟩
   rw[<-mt]
   exact k
theorem Hz(n:Nat)(f:Nat×Nat->Bool):(Vaarrl.pairs n).find? f=(bw n).findSome? fun a=>((bw n).find? fun b=>decide (a<b)&&f (a,b)).map fun b=>(a,b):=by
 unfold Vaarrl.pairs;rw[List.find?_flatMap];congr 1;funext a;rw[List.find?_map,List.find?_filter]
 have e:(fun b=>decide (decide (a<b)=ae/\(f∘fun b=>(a,b)) b=ae))=fun b=>decide (a<b)&&f (a,b):=by
  funext b;rw[eN];simp
 rw[e]
theorem Aa{α β:Type}:∀(l:List α)(g:α->Option β),(∀x∈l,g x=ab)->l.findSome? g=ab
 |[],_,_=>rfl
 |x::l,g,h=>by
  rw[Bl,h x (bO ..)];exact Aa l g fun y hy=>h y (bD _ hy)
theorem EX{α β:Type}{r:β}:∀(l:List α)(g:α->Option β)(i:Nat)(z:α),l[i]?=aa z->g z=aa r->(∀j y,j<i->l[j]?=aa y->g y=ab)->l.findSome? g=aa r
 |[],_,_,_,h,_,_=>by simp at h
 |x::l,g,0,z,h,e,_=>by
  simp at h;subst h;rw[Bl,e]
 |x::l,g,i+1,z,h,e,f=>by
  rw[Bl,f 0 x (by omega) rfl];exact EX l g i z (by simpa using h) e fun j y hj hy=>f (j+1) y (by omega) (by simpa using hy)
theorem aaL{p:aO}{q:List Nat}(h:∀a b,a<b->b<p.length->rW p q a b=af):eP p q=ab:=by
 unfold eP;rw[Hz];refine Aa _ _ fun a ha=>?_
 have:((bw p.length).find? fun b=>decide (a<b)&&fP p a (aT q a) b (aT q b))=ab:=by
  rw[kM];intro b hb;by_cases Yf:a<b
  ·have:=h a b Yf (cn.mp hb);unfold rW at this;rw[this];simp
  simp[Yf]
 rw[this];rfl
theorem aaK{p:aO}{q:List Nat}{a b:Nat}(Yf:a<b)(hb:b<p.length)(h:rW p q a b=ae)(h1:∀a' b',a'<a->a'<b'->b'<p.length->rW p q a' b'=af)(h2:∀b',a<b'->b'<b->rW p q a b'=af):eP p q=aa (a,b):=by
 unfold eP;rw[Hz];refine EX _ _ a a (fA (by omega)) ?_ fun j y hj hy=>?_
 ·have:((bw p.length).find? fun b=>decide (a<b)&&fP p a (aT q a) b (aT q b))=aa b:=by
   rw[List.find?_range_eq_some];refine⟨?_,cn.mpr hb,fun j hj=>?_⟩
   ·unfold rW at h;simp[Yf,h]
   by_cases haj:a<j
   ·have:=h2 j haj hj;unfold rW at this;simp[this]
   simp[haj]
  rw[this];rfl
 rw[fA (by omega)]at hy;cases hy
 have:((bw p.length).find? fun b=>decide (j<b)&&fP p j (aT q j) b (aT q b))=ab:=by
  rw[kM];intro b' Po;by_cases Yf:j<b'
  ·have:=h1 j b' hj Yf (cn.mp Po);unfold rW at this;simp[this]
  simp[Yf]
 rw[this];rfl
def Iy(p:aO)(q:List Nat):List Nat:=match eP p q with
 |none=>[]
 |some x=>[x.1,x.2]
inductive afG(K:aY)(CS CP:Addr)(R:aO->List Nat->Hp->VK->Prop)(vs:ao)(H:Hp)(Q:VK)(z':XK):Prop
 |mk (a l:Addr) (p:aO) (q:List Nat) (_:vs=[.ref a,.ref l]) (_:jz CS CP H a p) (_:um p) (_:dw K H l (tx q)) (_:q.length=p.length) (_:R p q H Q)
def acZ(K:aY)(CS CP:Addr):Sp:=afG K CS CP fun p q H Q=>U2 H Q (Iy p q)
def QW(K:aY)(CS CP:Addr):Sp:=afG K CS CP fun p q H Q=>∀H',bH H H'->Q (.int (i8 p q:Nat)) H'
def RM(p:aO)(q:List Nat)(i:Nat):Nat:=(bw i).foldl (fun n a=>if aU p a=0 then n else max n (aT q a+aU p a)) 0
theorem Nr(p:aO)(q:List Nat)(i:Nat):RM p q (i+1)=if aU p i=0 then RM p q i else max (RM p q i) (aT q i+aU p i):=by
 unfold RM;rw[fe,hV];rfl
theorem HL{f CS CP:Addr}{fd:bC}(F:iG K "first_clash" "first_clash" tX f fd)(TY:mg "range"=ab)(hl:mg "len"=ab)(Cl:Fn P w K mg base eM 3 "live_ranges" jV (Br CS CP))
 (Cc:Fn P w K mg base eM 3 "clash" BC (EH K CS CP rW)):dy P w K mg base eM 4 f fd xH (acZ K CS CP):=by
 refine F.ok xj fun fz A outer s H vs Q E hr h=>?_
 obtain⟨a,l,p,q,rfl,pa,pw,hq,ql,k⟩:=h
 have fw:=pw.j8
 have nd:=xj.nd
 refine⟨_,bh (jB 2 nd (dJ Cl hr (by rfl) (aQ (pv 0) bq)))
  (bh (fg bW rfl (uK (by rfl) TY (aQ (dD cJ (by rfl) hl cx (aQ (pv 1) bq)) bq)) (o3 3 nd)
   (bj (fg bW rfl (UQ (by rfl) TY (aQ (fZ j5 (pv 3) cG) (aQ (dD cJ (by rfl) hl cx (aQ (pv 1) bq)) bq))) (o3 4 nd)
    (bj (d9 (jy (dJ Cc hr (by rfl) (aQ (pv 0) (aQ (pv 2) (aQ (pv 1) (aQ (pv 3) (aQ (pv 4) bq))))))) (bj (cf (eB (aQ (pv 3) (aQ (pv 4) bq))))) cT)))))
  (bj (cf (eB bq)))),?_⟩
 refine⟨_,rfl,a,p,rfl,pa,pw,fun r H1 s1 rg=>?_⟩
 have Ik:=s1.seq hq
 have ln:((tx q).length:Int)=(p.length:Int):=by rw[eA,ql]
 refine⟨_,rfl,l,_,rfl,.inl Ik,_,rfl,by omega,by omega,rf (n:=((tx q).length:Int).toNat) (fun i σ H'=>H'=H1/\(∀a' b',a'<i->a'<b'->b'<p.length->rW p q a' b'=af)/\∃v3 v4,σ=[aa (.ref a),aa (.ref l),aa (.ref r),v3,v4]) ⟨rfl,fun a' b' z=>by omega,ab,ab,rfl⟩ ?_ ?_⟩
 ·rintro i σ H' hi ⟨rfl,no,v3,v4,rfl⟩
  have hi:i<p.length:=by omega
  have ei:(0:Int)+(i:Int)=(i:Int):=by omega
  rw[ei]
  refine⟨_,rfl,_,_,rfl,rfl,_,rfl,l,_,rfl,.inl Ik,_,_,rfl,⟨by omega,by omega,by omega,by omega⟩,rf (n:=(((tx q).length:Int)-((i:Int)+1)).toNat) (fun j σ H2=>H2=H'/\(∀b',i<b'->b'<i+1+j->rW p q i b'=af)/\∃v4,σ=[aa (.ref a),aa (.ref l),aa (.ref r),aa (.int (i:Int)),v4]) ⟨rfl,fun b' z1 z2=>by omega,v4,rfl⟩ ?_ ?_⟩
  ·rintro j σ H2 hj ⟨rfl,U1,v5,rfl⟩
   have hb:i+1+j<p.length:=by omega
   have ej:(i:Int)+1+(j:Int)=((i+1+j:Nat):Int):=by omega
   rw[ej]
   refine⟨_,rfl,_,rfl,_,rfl,_,rfl,_,rfl,a,r,l,p,q,i,i+1+j,rfl,pa.same s1,pw,rg,Ik,ql,by omega,hb,_,rfl,?_⟩
   cases hc:rW p q i (i+1+j)with
   |true=>
    refine dM ⟨_,rfl,_,rfl,by show 2<=bz;decide,fun d hd=>k d _ (s1.free hd) (s1.trans (bH.new hd)) ?_⟩
    rw[bf]
    unfold Iy
    rw[aaK (by omega) hb hc (fun a' b' z1 z2 z3=>no a' b' z1 z2 z3) fun b' z1 z2=>U1 b' z1 z2]
    rfl
   |false=>
    refine cE ⟨rfl,fun b' z1 z2=>?_,_,rfl⟩
    by_cases e:b'=i+1+j
    ·rw[e]
     exact hc
    exact U1 b' z1 (by omega)
  rintro σ H2 ⟨rfl,U1,v5,rfl⟩
  refine⟨rfl,fun a' b' z1 z2 z3=>?_,_,_,rfl⟩
  by_cases e:a'=i
  ·subst e
   exact U1 b' z2 (by omega)
  exact no a' b' (by omega) z2 z3
 rintro σ H' ⟨rfl,no,v3,v4,rfl⟩
 have e:eP p q=ab:=aaL fun a b Yf hb=>no a b (by omega) Yf hb
 refine⟨by show 0<=bz;decide,fun d hd=>k d _ (s1.free hd) (s1.trans (bH.new hd)) ?_⟩
 rw[bf]
 unfold Iy
 rw[e]
 rfl
theorem Ri{f CS CP:Addr}{fd:bC}(F:iG K "room_of" "room_of" DC f fd)(S:FG K CS)(G:FH K CP)(KW:mg "enumerate"=ab)(hmx:mg "max"=ab):dy P w K mg base eM 1 f fd xH (QW K CS CP):=by
 refine F.ok Hf fun fz A outer s H vs Q E hr h=>?_;obtain⟨a,l,p,q,rfl,pa,pw,hq,ql,k⟩:=h;obtain⟨dp,ls,lo,bs,os,v⟩:=pa.v;have nd:=Hf.nd
 refine⟨_,bh (jB 2 nd cG)
  (bh (fg bW rfl (pN (by rfl) KW (aQ (cw (pv 0) rfl) bq)) (qA rfl (fq (o3 3 nd) (fq (o3 4 nd) mE)))
   (bj (d9 (cS zX (cw (pv 4) rfl) cG (dg _)) (bj (jB 2 nd (dD (Ei rfl) (by rfl) hmx boot_max (aQ (pv 2) (aQ (fZ j5 (dW cW (pv 1) (pv 3) (fun _ _=>rfl)) (cw (pv 4) rfl)) bq))))) cT)))
  (bj (cf (pv 2)))),?_⟩
 refine⟨_,rfl,a,CP,dp,_,_,rfl,v.ha,G.cl,G.n1,jO,ls,_,rfl,dw.of v.l5,ot (xs:=bs.map V.ref) (fun i σ H'=>Ue fun v3 v4=>σ=[aa (.ref a),aa (.ref l),aa (.int (RM p q i:Nat)),v3,v4]/\bH H H') ⟨ab,ab,rfl,fun _ _ e=>e⟩ (fun i σ H' _ ⟨_,_,_,s2⟩=>dw.of (s2 _ _ v.l5)) ?_ ?_⟩
 ·rintro i x σ H' T hx ⟨v3,v4,rfl,sm⟩ hT;obtain⟨st,b,db,lb,hs,rfl,hi,g⟩:=v.ref hx;have sT:bH H' (upd H' T (.tup [.int (i:Nat),.ref b])):=bH.new hT;have sF:=sm.trans sT;have oi:=uh (q:=q) (b:=i) (by omega);have rs:=Nr p q i;rw[iR hs]at rs;refine⟨T,_,rfl,wF.of bf,rfl,_,_,rfl,_,_,rfl,rfl,?_⟩;refine⟨_,rfl,b,CS,db,_,_,rfl,sF _ _ g,S.cl,S.n3,iN,_,_,rfl,rfl,_,rfl,?_⟩;by_cases h0:st.length=0
  ·rw[gX (show¬(0:Int)<(st.length:Int)by omega)];rw[da h0]at rs;rw[rs];exact cE ⟨_,_,rfl,sF⟩
  rw[qk (show(0:Int)<(st.length:Int)by omega)];rw[cQ h0]at rs;refine dM ⟨_,rfl,_,rfl,_,rfl,l,_,_,_,rfl,rfl,sF.seq hq,at_of (j:=i) rfl oi,_,rfl,b,CS,db,_,_,rfl,sF _ _ g,S.cl,S.n3,iN,_,_,rfl,rfl,_,_,rfl,?_⟩;refine⟨aa (.int (i:Nat)),aa (.ref b),?_,sF⟩;have e:((aT q i:Nat):Int)+(st.length:Int)=((aT q i+st.length:Nat):Int):=by omega
  rw[rs,<-Ma,<-e];rfl
 rintro σ H' ⟨v3,v4,rfl,sm⟩;rw[aV,v.bl];exact⟨_,rfl,k H' sm⟩
theorem aeC:ip "set"=aa (.type "set"):=by decide+kernel
theorem P2:ip "range"=aa (.type "range"):=by decide+kernel
def m7(p:aO)(q ds:List Nat):List Nat:=0::ds.flatMap fun d=>[aT q d,aT q d+aU p d]
theorem UY(p:aO)(q ds:List Nat)(d:Nat):m7 p q (ds++[d])=m7 p q ds++[aT q d,aT q d+aU p d]:=by
 unfold m7;rw[sv];simp
theorem BP(p:aO)(q:List Nat):∀ds:List Nat,(m7 p q ds).length=1+2*ds.length
 |[]=>rfl
 |d::ds=>by
  have:=BP p q ds;unfold m7 at this⊢;rw[iW,cK,bR,cK,cK];rw[cK]at this;simp only[cK,List.length_nil];omega
inductive QY(K:aY)(CS CP:Addr)(vs:ao)(H:Hp)(Q:VK)(z':XK):Prop
 |mk (a l d:Addr) (p:aO) (q ds:List Nat) (_:vs=[.ref a,.ref l,.ref d]) (_:jz CS CP H a p) (_:dw K H l (tx q)) (_:q.length=p.length) (_:dw K H d (tx ds)) (_:(∀x∈ds,x<p.length)) (_:ds.length<=24) (_:∀(b:Addr)(ms:List Nat)(H':Hp),H b=ab->bH H H'->H' b=aa (.lst (tx ms))->ms.Pairwise (· <·)->(∀k,k∈ms↔k∈m7 p q ds)->Q (.ref b) H')
inductive WR(K:aY)(CS CP:Addr)(vs:ao)(H:Hp)(Q:VK)(z':XK):Prop
 |mk (a r l d:Addr) (p:aO) (q ds:List Nat) (c:Nat) (_:vs=[.ref a,.ref r,.ref l,.int (c:Int),.ref d]) (_:jz CS CP H a p) (_:um p) (_:yo H r p) (_:dw K H l (tx q)) (_:q.length=p.length) (_:dw K H d (tx ds)) (_:(∀x∈ds,x<p.length)) (_:c<p.length) (_:Q (.bl (ds.any fun x=>rW p q c x)) H)
theorem txI(l:List Nat):tx l=(l.map fun(n:Nat)=>(n:Int)).map V.int:=by unfold tx;rw[dC];rfl
theorem zk{f CS CP:Addr}{fd:bC}(F:iG K "possible_offsets" "possible_offsets" mQ f fd)(S:FG K CS)(G:FH K CP)(hso:mg "sorted"=ab)(hse:mg "set"=ab):dy P w K mg base eM 1 f fd ["program","plan","placed"] (QY K CS CP):=by
 refine F.ok qK fun fz A outer s H vs Q E hr h=>?_;obtain⟨a,l,d,p,q,ds,rfl,pa,hq,ql,hd,dl,j8,k⟩:=h;obtain⟨dp,ls,lo,bs,os,v⟩:=pa.v;have nd:=qK.nd
 refine⟨_,bh (jB 3 nd (eB (aQ cG bq)))
  (bh (fg bW rfl (fT (pv 2)) (o3 4 nd)
   (bj (dN (mq cj gu gd pF (pv 3) (aQ (eB (aQ (dW cW (pv 1) (pv 4) (fun _ _=>rfl)) (aQ (fZ j5 (dW cW (pv 1) (pv 4) (fun _ _=>rfl)) (cw (dW cW (cw (pv 0) rfl) (pv 4) (fun _ _=>rfl)) rfl)) bq))) bq)))))
  (bj (cf (dD (RX rfl) (by rfl) hso boot_sorted (aQ (pE (aeA rfl) (by rfl) hse aeC (aQ (pv 3) bq)) bq))))),?_⟩
 refine⟨by show 1<=bz;decide,fun o ho=>?_⟩;have s1:bH H (upd H o (.lst [V.int 0])):=bH.new ho;refine⟨_,rfl,d,rfl,⟨_,s1.seq hd⟩,f7 (K:=K) (a:=d) (xs:=tx ds) (fun i σ H'=>∃v4,σ=[aa (.ref a),aa (.ref l),aa (.ref d),aa (.ref o),v4]/\H' o=aa (.lst (tx (m7 p q (ds.take i))))/\bH H H') ⟨ab,rfl,bf,s1⟩ (fun i σ H' _ ⟨_,_,_,s2⟩=>s2.seq hd) ?_ ?_⟩
 ·rintro i y σ H' hi ⟨v4,rfl,EV,sm⟩;obtain⟨x,hx,rfl⟩:=mO hi;have xl:=dl x (br hx);obtain⟨sx,ex⟩:=uW xl;obtain⟨b1,d1,k1,e1,g1⟩:=v.st x sx ex;have ox:=uh (q:=q) (b:=x) (by omega);refine⟨_,rfl,.inl ⟨rfl,_,dw.of EV⟩,_,rfl,_,rfl,l,_,_,_,rfl,rfl,sm.seq hq,at_of (j:=x) rfl ox,_,rfl,_,rfl,l,_,_,_,rfl,rfl,sm.seq hq,at_of (j:=x) rfl ox,_,rfl,a,CP,dp,_,_,rfl,sm _ _ v.ha,G.cl,G.n1,jO,_,rfl,ls,_,_,_,rfl,rfl,dw.of (sm _ _ v.l5),at_of (j:=x) rfl e1,b1,CS,d1,_,_,rfl,sm _ _ g1,S.cl,S.n3,iN,_,_,rfl,rfl,by show 2<=bz;decide,fun n hn=>?_⟩;have no:o≠n:=bP EV hn;refine⟨o,n,_,_,rfl,rfl,by rw[bB no];exact EV,bf,?_,?_⟩
  ·rw[eA,BP,dX,bZ];show _+2<=_;omega
  refine⟨_,rfl,?_,bH.put ho (sm.trans (bH.new hn))⟩;rw[bf,take_snoc hx,UY,iR ex];unfold tx;rw[cg];have e:((aT q x:Nat):Int)+(sx.length:Int)=((aT q x+sx.length:Nat):Int):=by omega
  show aa (HO.lst (_++[V.int ((aT q x:Nat):Int),V.int (((aT q x:Nat):Int)+(sx.length:Int))]))=_;rw[e];rfl
 rintro σ H' ⟨v4,rfl,EV,sm⟩;rw[eA,dA]at EV;refine⟨_,rfl,o,(m7 p q ds).map fun(n:Nat)=>(n:Int),rfl,dw.of (by rw[EV,txI]),by rw[aV,BP];omega,fun t ht=>?_⟩;refine⟨t,(m7 p q ds).map fun(n:Nat)=>(n:Int),rfl,bf,by rw[aV,BP];omega,fun ms b so mem hb=>?_⟩;have st:bH H' (upd H' t (ZY P w t ((m7 p q ds).map fun(n:Nat)=>(n:Int)))):=bH.new ht
 have nn:∀m∈ms,∃n:Nat,m=(n:Int):=fun m hm=>by
  obtain⟨n,_,e⟩:=di.mp ((mem m).mp hm);exact⟨n,e.symm⟩
 have em:(ms.map Int.toNat).map (fun(n:Nat)=>(n:Int))=ms:=by
  rw[dC];conv=>rhs;rw[<-qN ms]
  refine dk fun m hm=>?_;obtain⟨n,rfl⟩:=nn m hm;rfl
 refine k b (ms.map Int.toNat) _ ((sm.trans st).free hb) ((sm.trans st).trans (bH.new hb)) (by rw[bf,txI,em]) ?_ fun j=>?_
 ·rw[jT];refine EB (fun{x y} hx hy h=>?_) so;obtain⟨n,rfl⟩:=nn x hx;obtain⟨m,rfl⟩:=nn y hy;simp only[pJ];omega
 rw[di];constructor
 ·rintro⟨m,hm,rfl⟩;obtain⟨n,hn,e⟩:=di.mp ((mem m).mp hm);rw[<-e];exact hn
 intro hj;exact⟨(j:Int),(mem _).mpr (di.mpr ⟨j,hj,rfl⟩),by simp⟩
theorem zp{f CS CP:Addr}{fd:bC}(F:iG K "clashes_with_any" "clashes_with_any" mT f fd)(Cc:Fn P w K mg base eM 3 "clash" BC (EH K CS CP rW)):
 dy P w K mg base eM 4 f fd UO (WR K CS CP):=by
 refine F.ok qM fun fz A outer s H vs Q E hr h=>?_
 obtain⟨a,r,l,d,p,q,ds,c,rfl,pa,pw,rg,hq,ql,hd,dl,hc,k⟩:=h
 have nd:=qM.nd
 refine⟨_,bh (fg bW rfl (fT (pv 4)) (o3 5 nd)
  (bj (d9 (jy (dJ Cc hr (by rfl) (aQ (pv 0) (aQ (pv 1) (aQ (pv 2) (aQ (pv 3) (aQ (pv 5) bq))))))) (bj (cf zW)) cT)))
  (bj (cf zW)),?_⟩
 refine⟨_,rfl,d,rfl,⟨_,hd⟩,f7 (K:=K) (a:=d) (xs:=tx ds) (fun i σ H'=>H'=H/\((ds.take i).any fun x=>rW p q c x)=af/\∃v5,σ=[aa (.ref a),aa (.ref r),aa (.ref l),aa (.int (c:Int)),aa (.ref d),v5]) ⟨rfl,rfl,ab,rfl⟩ (fun i σ H' _ ⟨e,_⟩=>by rw[e];exact hd) ?_ ?_⟩
 ·rintro i y σ H' hi ⟨rfl,no,v5,rfl⟩
  obtain⟨x,hx,rfl⟩:=mO hi
  have xl:=dl x (br hx)
  refine⟨_,rfl,_,rfl,_,rfl,_,rfl,_,rfl,a,r,l,p,q,c,x,rfl,pa,pw,rg,hq,ql,hc,xl,_,rfl,?_⟩
  cases hx2:rW p q c x with
  |true=>
   rw[show(ds.any fun x=>rW p q c x)=ae from fj.mpr ⟨x,br hx,hx2⟩]at k
   exact dM k
  |false=>
   refine cE ⟨rfl,?_,_,rfl⟩
   rw[take_snoc hx,yx,no]
   simp[hx2]
 rintro σ H' ⟨rfl,no,v5,rfl⟩
 rw[eA,dA]at no
 rw[no]at k
 exact k
theorem D1(good:Nat->Bool):∀(k o t:Nat),o<=t->t<o+k->good t=ae->(∀x,o<=x->x<t->good x=af)->kZ good k o=t
 |0,o,t,h1,h2,_,_=>by omega
 |k+1,o,t,h1,h2,hg,no=>by
  unfold kZ;by_cases e:o=t
  ·subst e;rw[da hg]
  rw[cQ (by rw[no o (bu _) (by omega)];decide)];exact D1 good k (o+1) t (by omega) (by omega) hg fun x hx1 hx2=>no x (by omega) hx2
def good(p:aO)(q:List Nat)(c:Nat)(ds:List Nat)(o:Nat):Bool:=ds.all fun d=>!fP p c o d (aT q d)
def JJ(p:aO)(q:List Nat)(c:Nat)(ds:List Nat):Nat:=if aU p c=0 then 0 else kZ (good p q c ds) lV 0
theorem tG{p:aO}{c o d t:Nat}:fP p c o d t=ae↔fH p c d=ae/\0<aU p c/\0<aU p d/\o<t+aU p d/\t<o+aU p c/\¬(jq p c d=ae/\o=t):=by
 unfold fP iJ;simp only[cM,decide_eq_true_eq,vd,Bool.and_eq_false_imp,beq_eq_false_iff_ne,ne_eq];constructor
 ·rintro⟨h1,⟨h2,h3,h4,h5⟩,h6⟩;exact⟨h1,h2,h3,h4,h5,fun z=>h6 z.1 z.2⟩
 rintro⟨h1,h2,h3,h4,h5,h6⟩;exact⟨h1,⟨h2,h3,h4,h5⟩,fun z y=>h6 ⟨z,y⟩⟩
theorem ya{p:aO}{q:List Nat}{c:Nat}{ds:List Nat}{o:Nat}:good p q c ds o=ae↔∀d∈ds,fP p c o d (aT q d)=af:=by
 unfold good;rw[cY];exact⟨fun h d hd=>by simpa using h d hd,fun h d hd=>by simpa using h d hd⟩
theorem Vk{p:aO}{q:List Nat}{c:Nat}{ds:List Nat}{o:Nat}(h:good p q c ds (o+1)=ae)(n:(o+1)∉m7 p q ds):good p q c ds o=ae:=by
 rw[ya]at h⊢;intro d hd;cases hc:fP p c o d (aT q d)with
 |false=>rfl
 |true=>
  exfalso;obtain⟨c1,c2,c3,c4,c5,c6⟩:=tG.mp hc;have hn:¬fP p c (o+1) d (aT q d)=ae:=by rw[h d hd];decide
  rw[tG]at hn
  have i1:aT q d∈m7 p q ds:=by
   unfold m7;exact bD _ (ki.mpr ⟨d,hd,bO ..⟩)
  have i2:aT q d+aU p d∈m7 p q ds:=by
   unfold m7;exact bD _ (ki.mpr ⟨d,hd,bD _ (bO ..)⟩)
  have n1:o+1≠aT q d:=fun z=>n (z▸i1);have n2:o+1≠aT q d+aU p d:=fun z=>n (z▸i2);exact hn ⟨c1,c2,c3,by omega,by omega,fun z=>n1 z.2⟩
theorem D7{p:aO}{q:List Nat}{c:Nat}{ds:List Nat}:∀o,good p q c ds o=ae->∃t,t<=o/\t∈m7 p q ds/\good p q c ds t=ae
 |0,h=>⟨0,bu _,by unfold m7;exact bO ..,h⟩
 |o+1,h=>by
  by_cases hm:(o+1)∈m7 p q ds
  ·exact⟨o+1,bu _,hm,h⟩
  obtain⟨t,h1,h2,h3⟩:=D7 o (Vk h hm);exact⟨t,by omega,h2,h3⟩
theorem Tw{p:aO}{q ds:List Nat}{B:Nat}(hB:∀d∈ds,aT q d+aU p d<=B):∀t∈m7 p q ds,t<=B:=fun t ht=>by
 unfold m7 at ht;rcases bQ.mp ht with e|e
 ·omega
 obtain⟨d,hd,h⟩:=ki.mp e;have:=hB d hd;rcases bQ.mp h with z|z
 ·omega
 rw[bU.mp z];exact this
theorem Pq{p:aO}{q ds:List Nat}{c B:Nat}(hB:∀d∈ds,aT q d+aU p d<=B):good p q c ds B=ae:=by
 rw[ya];intro d hd;cases hc:fP p c B d (aT q d)with
 |false=>rfl
 |true=>
  have:=(tG.mp hc).2.2.2.1;have:=hB d hd;omega
theorem adB{p:aO}{q ds ms:List Nat}{c B i o:Nat}(hB:∀d∈ds,aT q d+aU p d<=B)(b4:B<4000)(so:ms.Pairwise (· <·))(mem:∀k,k∈ms↔k∈m7 p q ds)(hi:ms[i]?=aa o)(hg:good p q c ds o=ae)(no:∀j x,j<i->ms[j]?=aa x->good p q c ds x=af):JJ p q c ds=o:=by
 have om:o∈ms:=br hi
 have below:∀x,x<o->good p q c ds x=af:=fun x hx=>by
  cases hgx:good p q c ds x with
  |false=>rfl
  |true=>
   obtain⟨t,t1,t2,t3⟩:=D7 x hgx;obtain⟨j,hj⟩:=cz ((mem t).mpr t2)
   have ji:j<i:=by
    rcases lL j i with z|z|z
    ·exact z
    ·rw[z,hi]at hj;cases hj;omega
    obtain⟨l1,e1⟩:=aZ.mp hi;obtain⟨l2,e2⟩:=aZ.mp hj;have:=fU.mp so i j l1 l2 z;omega
   rw[no j t ji hj]at t3;cases t3
 unfold JJ;by_cases h0:aU p c=0
 ·rw[da h0]
  have g0:good p q c ds 0=ae:=by
   rw[ya];intro d _;cases hc:fP p c 0 d (aT q d)with
   |false=>rfl
   |true=>
    have:=(tG.mp hc).2.1;omega
  rcases oG o with z|z
  ·exact z.symm
  rw[below 0 z]at g0;cases g0
 rw[cQ h0];refine D1 _ _ 0 o (cC _) ?_ hg fun x _ hx=>below x hx;have:=Tw hB o ((mem o).mp om);unfold lV;omega
theorem adC{p:aO}{q ds ms:List Nat}{c B:Nat}(hB:∀d∈ds,aT q d+aU p d<=B)(mem:∀k,k∈ms↔k∈m7 p q ds):∃o∈ms,good p q c ds o=ae:=by
 obtain⟨t,_,t2,t3⟩:=D7 B (Pq (c:=c) hB);exact⟨t,(mem t).mpr t2,t3⟩
theorem yP{q:List Nat}{c d o:Nat}(h:c<q.length):aT (q.set c o) d=if d=c then o else aT q d:=by
 unfold aT;rw[Zg];by_cases e:c=d
 ·subst e;rw[da rfl,da rfl,da h];rfl
 rw[cQ e,cQ (dh e)]
theorem YR{p:aO}{q ds:List Nat}{c o:Nat}(hc:c<q.length)(nd:∀d∈ds,d≠c):(ds.any fun x=>rW p (q.set c o) c x)= !good p q c ds o:=by
 have key:∀d∈ds,rW p (q.set c o) c d=fP p c o d (aT q d):=fun d hd=>by
  unfold rW;rw[yP hc,yP hc,da rfl,cQ (nd d hd)]
 cases hg:good p q c ds o with
 |true=>
  show _=af;rw[hX];intro d hd;rw[key d hd,ya.mp hg d hd];decide
 |false=>
  show _=ae;cases ha:(ds.any fun x=>rW p (q.set c o) c x)with
  |true=>rfl
  |false=>
   have:good p q c ds o=ae:=ya.mpr fun d hd=>by
    have:=hX.mp ha d hd;rw[key d hd]at this;simpa using this
   rw[this]at hg;cases hg
def qG(l:Addr)(H H':Hp):Prop:=∀b o,b≠l->H b=aa o->H' b=aa o
inductive S5(CS CP:Addr)(vs:ao)(H:Hp)(Q:VK)(z':XK):Prop
 |mk (a r l d:Addr) (p:aO) (q ds:List Nat) (c:Nat) (H0:Hp) (_:vs=[.ref a,.ref r,.ref l,.int (c:Int),.ref d]) (_:bH H0 H) (_:H0 l=ab) (_:jz CS CP H0 a p) (_:um p) (_:yo H0 r p) (_:H l=aa (.lst (tx q))) (_:q.length=p.length) (_:H d=aa (.lst (tx ds))) (_:d≠l) (_:(∀x∈ds,x<p.length/\x≠c)) (_:c<p.length) (_:ds.length<=24) (_:(∀x∈ds,aT q x+aU p x<=2000)) (_:∀H',qG l H H'->H' l=aa (.lst (tx (q.set c (JJ p q c ds))))->Q .j7 H')
theorem Xu{f CS CP:Addr}{fd:bC}(F:iG K "place" "place" LI f fd)(Cp:Fn P w K mg base eM 1 "possible_offsets" ["program","plan","placed"] (QY K CS CP))(Cc:Fn P w K mg base eM 4 "clashes_with_any" UO (WR K CS CP)):
 dy P w K mg base eM 5 f fd UO (S5 CS CP):=by
 refine F.ok OA fun fz A outer s H vs Q E hr h=>?_
 obtain⟨a,r,l,d,p,q,ds,c,H0,rfl,s0,nl,pa,pw,rg,hq,ql,hd,Vu,dl,hc,j8,hB,k⟩:=h
 have nd:=OA.nd
 refine⟨_,bh (jB 5 nd (dJ Cp (hr.mono (by decide)) (by rfl) (aQ (pv 0) (aQ (pv 2) (aQ (pv 4) bq)))))
  (bj (fg bW rfl (fT (pv 5)) (o3 6 nd)
   (bh (DJ (pv 6) (DK (pv 2) (pv 3) set_list))
   (bj (d9 (ue (jy (dJ Cc hr (by rfl) (aQ (pv 0) (aQ (pv 1) (aQ (pv 2) (aQ (pv 3) (aQ (pv 4) bq)))))))) (bj Tf) cT))))),?_⟩
 refine⟨_,rfl,_,rfl,_,rfl,a,l,d,p,q,ds,rfl,pa.same s0,dw.of hq,ql,dw.of hd,fun x hx=>(dl x hx).1,j8,fun b ms H1 nb s1 hb so mem=>?_⟩
 have nbl:b≠l:=fun z=>by rw[z,hq]at nb;cases nb
 refine⟨_,rfl,b,rfl,⟨_,dw.of hb⟩,f7 (K:=K) (a:=b) (xs:=tx ms) (fun i σ H'=>Ue fun v6 q'=>σ=[aa (.ref a),aa (.ref r),aa (.ref l),aa (.int (c:Int)),aa (.ref d),aa (.ref b),v6]/\qG l H1 H'/\H' l=aa (.lst (tx q'))/\(∀o,q'.set c o=q.set c o)/\q'.length=p.length/\∀j x,j<i->ms[j]?=aa x->good p q c ds x=af)
  ⟨ab,q,rfl,fun _ _ _ e=>e,s1 _ _ hq,fun _=>rfl,ql,fun j x hj=>by omega⟩ (fun i σ H' _ ⟨_,_,_,bt,_⟩=>dw.of (bt _ _ nbl hb)) ?_ ?_⟩
 ·rintro i y σ H' hi ⟨v6,q',rfl,bt,hl,sq,ql',no⟩
  obtain⟨o,ho,rfl⟩:=mO hi
  refine⟨_,rfl,_,rfl,_,rfl,l,_,_,c,rfl,rfl,hl,by rw[eA,ql'];exact yR hc,?_⟩
  rw[Lp,sq]
  have Je:qG l H1 (upd H' l (.lst (tx (q.set c o)))):=fun x u nx e=>by rw[bB nx];exact bt x u nx e
  have s2:bH H0 (upd H' l (.lst (tx (q.set c o)))):=fun x u e=>Je x u (bP e nl) (s1 _ _ (s0 _ _ e))
  refine⟨_,rfl,_,rfl,_,rfl,_,rfl,_,rfl,a,r,l,d,p,q.set c o,ds,c,rfl,pa.same s2,pw,rg.same s2,dw.of bf,by rw[fO,ql],dw.of (Je _ _ Vu (s1 _ _ hd)),fun x hx=>(dl x hx).1,hc,_,rfl,?_⟩
  rw[YR (by omega) fun x hx=>(dl x hx).2]
  cases hg:good p q c ds o with
  |true=>
   refine dM (k _ (fun x u nx e=>Je x u nx (s1 _ _ e)) ?_)
   rw[bf,adB hB (by decide) so mem ho hg no]
  |false=>
   refine cE ⟨_,q.set c o,rfl,Je,bf,fun o2=>by rw[List.set_set],by rw[fO,ql],fun j x hj hx=>?_⟩
   by_cases e:j=i
   ·subst e
    rw[ho]at hx
    cases hx
    exact hg
   exact no j x (by omega) hx
 rintro σ H' ⟨v6,q',rfl,bt,hl,sq,ql',no⟩
 exfalso
 obtain⟨o,om,og⟩:=adC (c:=c) hB mem
 obtain⟨j,hj⟩:=cz om
 rw[no j o (by rw[eA];exact(aZ.mp hj).1) hj]at og
 cases og
theorem D0(g:Nat->Bool):∀(k o t:Nat),o<=t->t<o+k->g t=ae->kZ g k o<=t
 |0,o,t,h1,h2,_=>by omega
 |k+1,o,t,h1,h2,hg=>by
  unfold kZ;split
  ·exact h1
  rename_i hn;have:o≠t:=fun z=>hn (z▸hg);exact D0 g k (o+1) t (by omega) (by omega) hg
theorem adA{p:aO}{q ds:List Nat}{c B:Nat}(hB:∀d∈ds,aT q d+aU p d<=B)(b4:B<4000):JJ p q c ds<=B:=by
 unfold JJ;split
 ·exact cC _
 exact D0 _ _ 0 B (cC _) (by unfold lV;omega) (Pq hB)
def qC(q ds:List Nat):List (Nat×Nat):=ds.map fun d=>(d,aT q d)
theorem Q7(p:aO)(a:Nat)(r:List Nat)(q ds:List Nat)(ha:a<q.length)(na:a∉ds):jG p (a::r) (qC q ds)=jG p r (qC (q.set a (JJ p q a ds)) (ds++[a])):=by
 show jG p r (qC q ds++[(a,if aU p a=0 then 0 else kZ (fun o=>(qC q ds).all fun x=>!fP p a o x.1 x.2) lV 0)])=_
 have e1:(fun o=>(qC q ds).all fun x=>!fP p a o x.1 x.2)=good p q a ds:=by
  funext o;unfold qC good;rw[QA];rfl
 rw[e1];congr 1;unfold qC;rw[cg];congr 1
 ·refine dk fun d hd=>?_;rw[yP ha,cQ (show¬d=a from fun z=>na (z▸hd))]
 show[(a,JJ p q a ds)]=[(a,aT (q.set a (JJ p q a ds)) a)];rw[yP ha,da rfl]
theorem Vq{q ds:List Nat}{a:Nat}(h:a∈ds):((qC q ds).find? fun x=>x.1==a)=aa (a,aT q a):=by
 induction ds with
 |nil=>cases h
 |cons d ds ih=>
  show((d,aT q d)::qC q ds).find? _=_;by_cases e:d=a
  ·subst e;simp
  rw[kN (by simp[e])];exact ih ((bQ.mp h).resolve_left (dh e))
theorem UN{p:aO}{q ds:List Nat}(ql:q.length=p.length)(all:∀a,a<p.length->a∈ds):iB p (qC q ds)=q:=by
 unfold iB;refine jt (by simp[ql]) fun i h1 h2=>?_;simp only[l7,nX];rw[Vq (all i (by omega))];unfold aT;simp[h2]
inductive G3(K:aY)(CS CP:Addr)(vs:ao)(H:Hp)(Q:VK)(z':XK):Prop
 |mk (a o:Addr) (p:aO) (od:List Nat) (_:vs=[.ref a,.ref o]) (_:jz CS CP H a p) (_:um p) (_:dw K H o (tx od)) (_:od.Perm (bw p.length)) (_:U2 H Q (iB p (jG p od [])))
def WH(CS CP:Addr):Sp:=Oy CS CP fun p H Q=>U2 H Q (cP p)
def Kt(CS CP:Addr):Sp:=Oy CS CP fun p H Q=>U2 H Q (iB p (jG p (bw p.length) []))
theorem OL(n:Nat):(cA n [V.int 0]).flatten=tx (cA n 0):=by
 induction n with
 |zero=>rfl
 |succ n ih=>
  rw[fY,lI,ih,fY];rfl
def sumTo(p:aO)(a:Nat):Nat:=((bw a).map (aU p)).foldl (fun n x=>n+x) 0
theorem Ao(p:aO)(a:Nat):sumTo p (a+1)=sumTo p a+aU p a:=by
 unfold sumTo;rw[fe,cg];exact Oi _ _ _
theorem HG{f CS CP:Addr}{fd:bC}(F:iG K "placed_plan" "placed_plan" tR f fd)(hl:mg "len"=ab)(Cl:Fn P w K mg base eM 3 "live_ranges" jV (Br CS CP))(Cp:Fn P w K mg base eM 5 "place" UO (S5 CS CP)):
 dy P w K mg base eM 6 f fd ["program","order"] (G3 K CS CP):=by
 refine F.ok xc fun fz A outer s H vs Q E hr h=>?_
 obtain⟨a,o,p,od,rfl,pa,pw,ho,pm,k⟩:=h
 have fw:=pw.j8
 have odl:od.length=p.length:=by rw[pm.length_eq,b8]
 have nod:od.Nodup:=pm.nodup_iff.mpr wI
 have nd:=xc.nd
 refine⟨_,bh (jB 2 nd (dJ Cl (hr.mono (by decide)) (by rfl) (aQ (pv 0) bq)))
  (bh (jB 3 nd (fZ Rb (eB (aQ cG bq)) (dD cJ (by rfl) hl cx (aQ (pv 1) bq))))
  (bh (jB 4 nd (eB bq))
  (bh (fg bW rfl (fT (pv 1)) (o3 5 nd)
   (bh (dN (dJ Cp hr (by rfl) (aQ (pv 0) (aQ (pv 2) (aQ (pv 3) (aQ (pv 5) (aQ (pv 4) bq)))))))
   (bj (dN (mq cj c9 c8 iO (pv 4) (aQ (pv 5) bq))))))
  (bj (cf (pv 3)))))),?_⟩
 refine⟨_,rfl,a,p,rfl,pa,pw,fun r H1 s1 rg=>?_⟩
 have el:((tx od).length:Int)=(p.length:Int):=by rw[eA,odl]
 refine⟨by show 1<=bz;decide,fun x hx=>⟨_,rfl,o,_,rfl,.inl ((s1.trans (bH.new hx)).seq ho),x,_,_,rfl,rfl,bf,(by rw[el];omega),(by rw[el];omega),(by rw[el,bZ];show 1*_<=_;omega),fun l uw=>?_⟩⟩
 generalize hH0:upd H1 x (.lst [V.int 0])=H0 at uw
 have s0:bH H H0:=by rw[<-hH0];exact s1.trans (bH.new hx)
 have er:(cA ((tx od).length:Int).toNat [V.int 0]).flatten=tx (cA p.length 0):=by
  rw[el];exact OL _
 rw[er]
 refine⟨by show 0<=bz;decide,fun d hd=>?_⟩
 have sl:bH H0 (upd H0 l (.lst (tx (cA p.length 0)))):=bH.new uw
 have Vu:d≠l:=fun z=>by rw[z,bf]at hd;cases hd
 have hdH:H0 d=ab:=sl.free hd
 refine⟨_,rfl,o,rfl,⟨_,((s0.trans sl).trans (bH.new hd)).seq ho⟩,f7 (K:=K) (a:=o) (xs:=tx od) (fun i σ H'=>Ue fun v5 q=>σ=[aa (.ref a),aa (.ref o),aa (.ref r),aa (.ref l),aa (.ref d),v5]/\bH H0 H'/\H' l=aa (.lst (tx q))/\q.length=p.length/\H' d=aa (.lst (tx (od.take i)))/\jG p od []=jG p (od.drop i) (qC q (od.take i))/\∀y∈od.take i,aT q y+aU p y<=64*i) ?_ ?_ ?_ ?_⟩
 ·refine⟨ab,cA p.length 0,rfl,sl.trans (bH.new hd),by rw[bB Vu.symm,bf],iu,bf,rfl,fun y hy=>by cases hy⟩
 ·rintro i σ H' _ ⟨v5,q,_,sm,_⟩
  exact(s0.trans sm).seq ho
 ·rintro i y σ H' hi ⟨v5,q,rfl,sm,hlq,ql,hdq,pl,bd⟩
  obtain⟨c,hc,rfl⟩:=mO hi
  have cl:c<p.length:=by
   have:=pm.mem_iff.mp (br hc);exact cn.mp this
  have il:=(aZ.mp hc).1
  have nin:c∉od.take i:=fun z=>by
   obtain⟨j,hj⟩:=cz z;have jl:=(aZ.mp hj).1;rw[dX]at jl;rw[nI (by omega)]at hj;obtain⟨l1,e1⟩:=aZ.mp hj;obtain⟨l2,e2⟩:=aZ.mp hc;have:=(Gz nod).mp (e1.trans e2.symm);omega
  refine⟨_,rfl,_,rfl,_,rfl,_,rfl,_,rfl,a,r,l,d,p,q,od.take i,c,H0,rfl,sm,uw,pa.same s0,pw,rg.same (by rw[<-hH0];exact bH.new hx),hlq,ql,hdq,Vu,?_,cl,by rw[dX];omega,fun y hy=>by have:=bd y hy;omega,fun H2 bt hl3=>?_⟩
  ·intro y hy
   refine⟨?_,fun z=>nin (z▸hy)⟩
   exact cn.mp (pm.mem_iff.mp (Aj hy))
  have hd2:=bt _ _ Vu hdq
  refine⟨_,rfl,.inl ⟨rfl,_,dw.of hd2⟩,_,rfl,d,_,_,rfl,rfl,hd2,by rw[eA,dX,bZ];omega,?_⟩
  refine⟨_,q.set c (JJ p q c (od.take i)),rfl,fun b u e=>?_,by rw[bB Vu.symm];exact hl3,by rw[fO,ql],by rw[bf,Dp,take_snoc hc],?_,?_⟩
  ·rw[bB (bP e hdH)]
   exact bt b u (bP e uw) (sm b u e)
  ·rw[pl,d5 il,take_snoc hc]
   have ec:od[i]=c:=(aZ.mp hc).2
   rw[ec,Q7 p c _ q _ (by omega) nin]
  intro y hy
  rw[take_snoc hc]at hy
  rw[yP (by omega)]
  have lw:JJ p q c (od.take i)<=64*i:=adA bd (by omega)
  have lc:aU p c<=64:=by
   obtain⟨sx,ex⟩:=uW cl;rw[iR ex];exact pw.len sx (br ex)
  by_cases e:y=c
  ·subst e
   rw[da rfl]
   omega
  rw[cQ e]
  rcases d7.mp hy with z|z
  ·have:=bd y z
   omega
  exact absurd (bU.mp z) e
 rintro σ H' ⟨v5,q,rfl,sm,hlq,ql,hdq,pl,bd⟩
 refine⟨_,rfl,k l H' (s0.free uw) (s0.trans sm) ?_⟩
 rw[eA,dA,GB]at pl
 rw[hlq,pl]
 show aa (HO.lst (tx q))=aa (HO.lst (tx (iB p (qC q od))))
 rw[UN ql fun x hx=>pm.mem_iff.mpr (cn.mpr hx)]
theorem O2{f CS CP:Addr}{fd:bC}(F:iG K "plan_one_behind_another" "plan_one_behind_another" jx f fd)(S:FG K CS)(G:FH K CP):dy P w K mg base eM 1 f fd jV (WH CS CP):=by
 refine F.ok lj fun fz A outer s H vs Q E hr h=>?_;obtain⟨a,p,rfl,pa,pw,q⟩:=h;obtain⟨dp,ls,lo,bs,os,v⟩:=pa.v;have fw:=pw.j8;have nd:=lj.nd
 refine⟨_,bh (jB 1 nd (eB bq))
  (bh (jB 2 nd cG)
  (bh (fg bW rfl (fT (cw (pv 0) rfl)) (o3 3 nd)
   (bh (dN (mq cj c9 c8 iO (pv 1) (aQ (pv 2) bq)))
   (bj (rM (i:=2) nd rfl (ux rfl) (cw (pv 3) rfl) qB))))
  (bj (cf (pv 1))))),?_⟩
 refine⟨by show 0<=bz;decide,fun l hl=>?_⟩;have s1:bH H (upd H l (.lst [])):=bH.new hl
 refine⟨_,rfl,a,CP,dp,_,_,rfl,s1 _ _ v.ha,G.cl,G.n1,jO,ls,rfl,⟨_,dw.of (s1 _ _ v.l5)⟩,f7 (K:=K) (a:=ls) (xs:=bs.map V.ref) (fun i σ H'=>∃v3,σ=[aa (.ref a),aa (.ref l),aa (.int (sumTo p i:Nat)),v3]/\H' l=aa (.lst (tx ((bw i).map (sumTo p))))/\bH H H')
  ⟨ab,rfl,bf,s1⟩ (fun i σ H' _ ⟨_,_,_,s2⟩=>dw.of (s2 _ _ v.l5)) ?_ ?_⟩
 ·rintro i x σ H' hx ⟨v3,rfl,NR,s2⟩;obtain⟨st,b,db,lb,hs,rfl,hi,g⟩:=v.ref hx
  have nlb:b≠l:=fun z=>by
   have:=s2 _ _ g;rw[z,NR]at this;cases this
  refine⟨_,rfl,.inl ⟨rfl,_,dw.of NR⟩,_,rfl,l,_,_,rfl,rfl,NR,by rw[eA,aV,b8,bZ];omega,?_⟩;refine⟨_,rfl,_,rfl,b,CS,db,_,_,rfl,by rw[bB nlb];exact s2 _ _ g,S.cl,S.n3,iN,_,_,rfl,rfl,?_⟩;refine⟨aa (.ref b),?_,by rw[bf,Dp,oh],bH.put hl s2⟩
  have e:((sumTo p i:Nat):Int)+(st.length:Int)=((sumTo p (i+1):Nat):Int):=by
   rw[Ao,iR hs];omega
  rw[<-e];rfl
 rintro σ H' ⟨v3,rfl,NR,s2⟩;rw[aV,v.bl]at NR;exact⟨_,rfl,q l H' hl s2 NR⟩
theorem DP{f CS CP:Addr}{fd:bC}(F:iG K "plan_in_order" "plan_in_order" qu f fd)(G:FH K CP)(hl:mg "len"=ab)(TY:mg "range"=ab)(NP:mg "list"=ab)(Cp:Fn P w K mg base eM 6 "placed_plan" ["program","order"] (G3 K CS CP)):
 dy P w K mg base eM 7 f fd jV (Kt CS CP):=by
 refine F.ok Dz fun fz A outer s H vs Q E hr h=>?_
 obtain⟨a,p,rfl,pa,pw,q⟩:=h
 obtain⟨dp,ls,lo,bs,os,v⟩:=pa.v
 have fw:=pw.j8
 refine⟨_,bj (cf (dJ Cp hr (by rfl) (aQ (pv 0) (aQ (pE (RY rfl) (by rfl) NP Nh (aQ (pE PU (by rfl) TY P2 (aQ (dD cJ (by rfl) hl cx (aQ (cw (pv 0) rfl) bq)) bq)) bq)) bq)))),?_⟩
 refine⟨_,rfl,_,rfl,a,CP,dp,_,_,rfl,v.ha,G.cl,G.n1,jO,ls,_,rfl,.inl (dw.of v.l5),(bs.map V.ref).length,rfl,fun g hg=>?_⟩
 refine⟨g,(bs.map V.ref).length,rfl,bf,by rw[aV,v.bl];omega,fun o ho=>?_⟩
 have s1:bH H (upd H g (.Z3 0 ((bs.map V.ref).length:Int))):=bH.new hg
 have s2:=s1.trans (bH.new (o:=.lst ((bw (bs.map V.ref).length).map fun(i:Nat)=>V.int (i:Int))) ho)
 have el:(bs.map V.ref).length=p.length:=by rw[aV,v.bl]
 rw[el]at s2⊢
 refine⟨a,o,p,bw p.length,rfl,pa.same s2,pw,dw.of bf,gO _,fun l H' nl sm e=>q l H' (s2.free nl) (s2.trans sm) e⟩
def iT(H H':Hp):Prop:=∀b o,H b=aa o->(∀ps,o≠ .F4 ps)->H' b=aa o
theorem iT.trans{H H1 H2:Hp}(a:iT H H1)(b:iT H1 H2):iT H H2:=fun x o e n=>b x o (a x o e n) n
theorem iT.of{H H':Hp}(s:bH H H'):iT H H':=fun b o e _=>s b o e
theorem iT.ofT{T:Addr}{H H':Hp}(t:∃ps,H T=aa (.F4 ps))(b:IQ T H H'):iT H H':=fun x o e n=>b x o (fun z=>by
 obtain⟨ps,h⟩:=t;rw[z,h]at e;cases e;exact n _ rfl) e
theorem jz.BB{CS CP:Addr}{H H':Hp}{a:Addr}{p:aO}(h:jz CS CP H a p)(s:iT H H'):jz CS CP H' a p:=by
 obtain⟨dx,ls,lo,bs,os,h1,h2,h3,h4,h5⟩:=h;refine⟨dx,ls,lo,bs,os,s _ _ h1 (fun _ z=>by cases z),s _ _ h2 (fun _ z=>by cases z),Paired.sI h3 fun b x hx=>?_,s _ _ h4 (fun _ z=>by cases z),Paired.sI h5 fun b x hx=>s _ _ hx fun _ z=>by cases z⟩;obtain⟨dx,lb,e1,e2⟩:=hx;exact⟨dx,lb,s _ _ e1 (fun _ z=>by cases z),s _ _ e2 fun _ z=>by cases z⟩
theorem okC{x qual:Str}{st:Stmt}{f c:Addr}{fd:bC}{N ps:ak}{k:Nat}{sp:Sp}(F:iG K x qual st f fd)(S:bV N ps (bA st))(hc:fd.code=.ref c)(len:∀vs H Q E,sp vs H Q E->vs.length=ps.length)
 (Im:∀(A:cZ)(outer:List Env)(s:a9)(H:Hp)(vs:ao)(Q:VK)(E:XK),gG k (A.deeper (AY qual (bA st) s.heap.objs.size f (.ref c)))->sp vs H Q E->
  ∃t,Nt (MY eM P w K mg base N qual (bA st) f (.ref c) A outer s H E).nox (jY st) t/\t {nx:=fun _ H'=>Q .j7 H',rt:=Q} (start N vs) H):dy P w K mg base eM (k+1) f fd ps sp:=by
 obtain⟨oc,od,kV,doc,pm,an,fz,ct,Xs,rfl,lk,NS⟩:=F.ex
 have e:fz=.ref c:=hc
 subst e
 refine Yn lk NS S len fun A outer s H vs Q E hr VW=>?_
 obtain⟨t,h,q⟩:=Im A outer s H vs Q E hr VW
 exact⟨t,h.nox,q⟩
theorem Aq{α:Type}(r:α->α->Prop)(as:∀a b,r a b->r b a->False):∀{l m:List α},l.Perm m->l.Pairwise r->m.Pairwise r->l=m
 |[],m,p,_,_=>by rw[List.nil_perm.mp p]
 |a::l,[],p,_,_=>by simp at p
 |a::l,b::m,p,h1,h2=>by
  have e:a=b:=by
   rcases bQ.mp (p.mem_iff.mp (bO ..))with z|z
   ·exact z
   rcases bQ.mp (p.mem_iff.mpr (bO ..))with y|y
   ·exact y.symm
   exact(as a b ((dG.mp h1).1 b y) ((dG.mp h2).1 a z)).elim
  subst e;rw[Aq r as ((List.perm_cons a).mp p) (dG.mp h1).2 (dG.mp h2).2]
theorem Kp{α:Type}{r:α->α->Prop}(f:α->Int):∀{l:List α},(∀c,(l.filter fun x=>f x==c).Pairwise r)->l.Pairwise fun a b=>f a=f b->r a b
 |[],_=>kq
 |a::l,h=>by
  refine dG.mpr ⟨fun b hb e=>?_,Kp f fun c=>?_⟩
  ·have:=h (f a);rw[fE (by simp)]at this;exact(dG.mp this).1 b (cI.mpr ⟨hb,by simp[e]⟩)
  exact(h c).sublist ((List.sublist_cons_self a l).filter _)
def BW(p:aO)(a b:Nat):Prop:=aU p b<aU p a\/(aU p a=aU p b/\a<b)
theorem Ho(p:aO)(a:Nat):∀l:List Nat,(∀x∈l,x<a)->l.Pairwise (BW p)->(oM p a l).Perm (a::l)/\(oM p a l).Pairwise (BW p)
 |[],_,_=>⟨gO _,oH _ _⟩
 |b::l,h,s=>by
  obtain⟨s1,s2⟩:=dG.mp s;unfold oM;by_cases hb:aU p b<aU p a
  ·rw[da hb];refine⟨gO _,dG.mpr ⟨fun x hx=>?_,s⟩⟩;rcases bQ.mp hx with e|e
   ·subst e;exact .inl hb
   have:=s1 x e;unfold BW at this;exact .inl (by omega)
  rw[cQ hb];obtain⟨i1,i2⟩:=Ho p a l (fun x hx=>h x (bD _ hx)) s2;refine⟨(i1.cons b).trans (FW ..),dG.mpr ⟨fun x hx=>?_,i2⟩⟩;rcases bQ.mp (i1.mem_iff.mp hx)with e|e
  ·subst e;have:=h b (bO ..);unfold BW;omega
  exact s1 x e
theorem ym(p:aO):∀n,((bw n).foldl (fun l a=>oM p a l) []).Perm (bw n)/\((bw n).foldl (fun l a=>oM p a l) []).Pairwise (BW p)
 |0=>⟨gO _,kq⟩
 |n+1=>by
  obtain⟨i1,i2⟩:=ym p n;rw[fe,hV];show(oM p n _).Perm _/\_;obtain⟨j1,j2⟩:=Ho p n _ (fun x hx=>cn.mp (i1.mem_iff.mp hx)) i2;exact⟨j1.trans ((i1.cons n).trans (List.perm_append_singleton n _).symm),j2⟩
theorem Jm(kz:List Int)(c:Int):((kz.zip ((bw kz.length).map fun(i:Nat)=>(i:Int))).filter fun p=>p.1==c).Pairwise fun a b=>a.2<b.2:=by
 refine List.Pairwise.sublist List.filter_sublist ?_;rw[fU];intro i j hi hj hij;simp only[List.getElem_zip,l7,nX];omega
theorem U9{p:aO}{ns:List Int}(h:Si (((bw p.length).map fun a=>((aU p a:Nat):Int)).map fun k=>-k) ns):ns=(wR p).map fun(n:Nat)=>(n:Int):=by
 obtain⟨qs,q1,q2,q3,q4⟩:=h;have kl:(((bw p.length).map fun a=>((aU p a:Nat):Int)).map fun k=>-k).length=p.length:=by simp
 rw[kl]at q1
 have mem:∀z∈qs,∃a:Nat,a<p.length/\z=(-((aU p a:Nat):Int),(a:Int)):=fun z hz=>by
  have:=q1.mem_iff.mp hz;obtain⟨i,hi⟩:=cz this;rw[mC]at hi;obtain⟨h1,h2⟩:=hi
  have il:i<p.length:=by
   have:=(aZ.mp h2).1;simpa using this
  rw[dC,bL,fA il]at h1;rw[bL,fA il]at h2;refine⟨i,il,?_⟩;obtain⟨z1,z2⟩:=z;simp only[jH,Option.some.injEq,Function.comp]at h1 h2;rw[<-h1,<-h2]
 have st:=Kp (r:=fun a b:Int×Int=>a.2<b.2) (fun x:Int×Int=>x.1) (l:=qs) fun c=>by
  rw[q4 c];exact Jm _ c
 have pw:qs.Pairwise fun a b=>a.1<b.1\/(a.1=b.1/\a.2<b.2):=by
  refine(q3.and st).imp fun{a b} h=>?_;rcases EC h.1 with z|z
  ·exact .inl z
  exact .inr ⟨z,h.2 z⟩
 obtain⟨b1,b2⟩:=ym p p.length
 have e:ns.map Int.toNat=wR p:=by
  refine Aq (BW p) (fun a b h1 h2=>by unfold BW at h1 h2;omega) (EA ?_ b1.symm) ?_ b2
  ·rw[q2,dC];refine(q1.map _).trans (List.Perm.of_eq ?_);refine jt (by simp) fun i h1 h2=>?_;simp
  rw[q2,dC,jT];refine EB (fun{x y} hx hy h=>?_) pw;obtain⟨a,_,ea⟩:=mem x hx;obtain⟨b,_,eb⟩:=mem y hy;subst ea eb;show BW p ((a:Int).toNat) ((b:Int).toNat);unfold BW;simp only[pJ];simp only at h;omega
 rw[<-e,dC];conv=>lhs;rw[<-qN ns]
 refine dk fun z hz=>?_;rw[q2]at hz;obtain⟨y,hy,ey⟩:=di.mp hz;obtain⟨a,_,ea⟩:=mem y hy;rw[<-ey,ea];rfl
abbrev Mj:Pos:=⟨174,44,174,75⟩
abbrev XU:Str:=("plan_longest_first"++".<locals>.")++"<lambda>"
inductive WL(CS CP T:Addr)(vs:ao)(H:Hp)(Q:VK)(z':XK):Prop
 |mk (a:Addr) (p:aO) (_:vs=[.ref a]) (_:jz CS CP H a p) (_:um p) (_:iZ H T Mj XU) (_:∀(l:Addr)(H':Hp),H l=ab->IQ T H H'->iZ H' T Mj XU->H' l=aa (.lst (tx (iB p (jG p (wR p) []))))->Q (.ref l) H')
theorem wN{f c T CS CP:Addr}{fd:bC}(F:iG K "plan_longest_first" "plan_longest_first" lr f fd)(NS:fd.code=.ref c)(hk:pH K c T=ae)(B:Nw mg base)(S:FG K CS)(G:FH K CP)(hl:mg "len"=ab)(TY:mg "range"=ab)(hso:mg "sorted"=ab)
 (Cp:Fn P w K mg base eM 6 "placed_plan" ["program","order"] (G3 K CS CP)):dy P w K mg base eM 7 f fd jV (WL CS CP T):=by
 refine okC F oY NS (fun vs H Q E h=>?_) (fun A outer s H vs Q E hr h=>?_)
 ·obtain⟨a,p,rfl,_⟩:=h
  rfl
 obtain⟨a,p,rfl,pa,pw,tab,q⟩:=h
 obtain⟨dp,ls,lo,bs,os,v⟩:=pa.v
 have fw:=pw.j8
 have nd:=oY.nd
 refine⟨_,bh (Q5 (i:=1) nd rfl (ZC rfl) (KH (own:=[("statement",3)]) (g:=zZ 3) (tt:=UB) (te:=ZN K (Am 3) "length") rfl nd (fT (cw (pv 0) rfl)) (rZ (by rfl)) (fun s H C cl fp=>o3 3 nd) (fun s H C cl fp=>Gb) (fun s H C cl fp=>cw (pv 3) rfl)))
  (bh (jB 2 nd (Xk (i:=1) (cy:=s.heap.objs.size+1) (T:=T) rfl hr (by rfl) hso (pE PU (by rfl) TY P2 (aQ (dD cJ (by rfl) hl cx (aQ (pv 1) bq)) bq)) B rfl hk rfl rfl rfl rfl rfl (fun _ _ _ _=>rfl) rfl rfl (by decide) rfl rfl rfl (by decide) (by decide) (by decide)))
  (bj (cf (dJ Cp hr (by rfl) (aQ (pv 0) (aQ (pv 2) bq)))))),?_⟩
 refine⟨_,rfl,a,CP,dp,_,_,rfl,v.ha,G.cl,G.n1,jO,ls,rfl,⟨_,dw.of v.l5⟩,fun D hD=>?_⟩
 refine BX (xs:=bs.map V.ref) (fun i G=>bH H G/\G D=aa (.lst (tx ((bw i).map (aU p))))) ⟨bH.new hD,bf⟩ ?_ ?_ ?_
 ·rintro i G _ ⟨sg,_⟩
  exact dw.of (sg _ _ v.l5)
 ·rintro i x G hx ⟨sg,hG⟩
  obtain⟨st,b,db,lb,hs,rfl,hi,g⟩:=v.ref hx
  refine⟨rfl,?_⟩
  unfold UB
  refine dM ⟨_,rfl,b,CS,db,_,_,rfl,sg _ _ g,S.cl,S.n3,iN,_,hG,by rw[eA,aV,b8,bZ];omega,bH.put hD sg,?_⟩
  rw[bf,Dp,<-iR hs,oh]
 rintro G1 ⟨sg,hG⟩
 rw[aV,v.bl]at hG
 have wK:=tab.same sg
 have ek:tx ((bw p.length).map (aU p))=((bw p.length).map fun a=>((aU p a:Nat):Int)).map V.int:=by
  unfold tx;rw[dC,dC];rfl
 have el:(tx ((bw p.length).map (aU p))).length=p.length:=by rw[eA,aV,b8]
 refine⟨_,rfl,D,_,rfl,.inl (dw.of hG),(tx ((bw p.length).map (aU p))).length,rfl,fun g hg=>?_⟩
 have s2:bH G1 (upd G1 g (.Z3 0 ((tx ((bw p.length).map (aU p))).length:Int))):=bH.new hg
 refine⟨g,D,(bw p.length).map fun a=>((aU p a:Nat):Int),rfl,?_,by rw[aV,b8];omega,rfl,dw.of (by rw[<-ek];exact s2 _ _ hG),wK.same s2,fun ns o H3 Og bt no ho srt=>?_⟩
 ·rw[bf,el,aV,b8]
 have en:=U9 srt
 have sN:iT G1 H3:=(iT.of s2).trans (iT.ofT (let⟨ps,e,_,_⟩:=wK.same s2;⟨ps,e⟩) bt)
 have pa3:=(pa.same sg).BB sN
 obtain⟨b1,_⟩:=ym p p.length
 refine⟨_,rfl,_,rfl,a,o,p,wR p,rfl,pa3,pw,dw.of (by rw[ho,en,txI]),b1,fun l H4 nl s4 e4=>?_⟩
 refine q l H4 ?_ (fun b u nb e=>s4 _ _ (bt b u nb (s2 _ _ (sg _ _ e)))) (Og.same s4) e4
 cases hH:H l with
 |none=>rfl
 |some u=>
  by_cases lT:l=T
  ·obtain⟨ps,eT,_⟩:=Og
   rw[lT,eT]at nl
   cases nl
  rw[bt l u lT (s2 _ _ (sg _ _ hH))]at nl
  cases nl
theorem G9{p:aO}{q:List Nat}{a b:Nat}:fV p q a b=ae↔0<aU p a/\jq p a b=ae/\aT q a=aT q b:=by
 unfold fV;simp only[cM,decide_eq_true_eq,beq_iff_eq]
theorem Km{p:aO}{a b:Nat}(h:jq p a b=ae):aU p a=aU p b:=by
 unfold jq at h;rcases yC _ _|>.mp h with z|z
 ·obtain⟨s,hs,_,_,_,hl,_⟩:=w8 z;rw[iR hs];exact hl
 obtain⟨s,hs,_,_,_,hl,_⟩:=w8 z;rw[iR hs];exact hl.symm
theorem yJ{p:aO}{q:List Nat}{a b:Nat}(h:fV p q a b=ae):fV p q b a=ae:=by
 rw[G9]at h⊢;obtain⟨h1,h2,h3⟩:=h;refine⟨by rw[<-Km h2];exact h1,?_,h3.symm⟩;unfold jq at h2⊢;rw[Bool.or_comm];exact h2
inductive r9(p:aO)(q:List Nat)(a:Nat):Nat->Prop
 |self:r9 p q a a
 |step {x y:Nat}:r9 p q a x->y<p.length->fV p q x y=ae->r9 p q a y
theorem r9.lt{p:aO}{q:List Nat}{a x:Nat}(ha:a<p.length)(h:r9 p q a x):x<p.length:=by
 cases h with
 |self=>exact ha
 |step _ h _=>exact h
theorem r9.trans{p:aO}{q:List Nat}{a b c:Nat}(h1:r9 p q a b)(h2:r9 p q b c):r9 p q a c:=by
 induction h2 with
 |self=>exact h1
 |step _ hy hs ih=>exact .step ih hy hs
theorem r9.symm{p:aO}{q:List Nat}{a b:Nat}(ha:a<p.length)(h:r9 p q a b):r9 p q b a:=by
 induction h with
 |self=>exact .self
 |step hx hy hs ih=>exact(r9.step .self (r9.lt ha hx) (yJ hs)).trans ih
theorem r9.len{p:aO}{q:List Nat}{a b:Nat}(h:r9 p q a b):aU p b=aU p a:=by
 induction h with
 |self=>rfl
 |step _ _ hs ih=>rw[<-ih,Km (G9.mp hs).2.1]
def Nu(p:aO)(q:List Nat)(g:List Nat):Prop:=∀x∈g,∀y,y<p.length->fV p q x y=ae->y∈g
theorem IG{p:aO}{q g:List Nat}{a:Nat}(ha:a∈g)(c:Nu p q g):∀x,r9 p q a x->x∈g:=fun x h=>by
 induction h with
 |self=>exact ha
 |step _ hy hs ih=>exact c _ ih _ hy hs
def uU(p:aO)(q g:List Nat):List Nat:=(bw p.length).filter fun a=>g.contains a||g.any fun b=>fV p q a b
theorem uQ{p:aO}{q g:List Nat}{x:Nat}:x∈uU p q g↔x<p.length/\(x∈g\/∃b∈g,fV p q x b=ae):=by
 unfold uU;rw[cI,cn,yC,dP,fj]
theorem Pp{p:aO}{q g:List Nat}(gl:∀x∈g,x<p.length)(h:∀x∈uU p q g,x∈g):Nu p q g:=fun x hx y hy hs=>h y (uQ.mpr ⟨hy,.inr ⟨x,hx,yJ hs⟩⟩)
theorem uN{l m:List Nat}(h:l.Nodup)(s:∀x∈l,x∈m):l.length<=m.length:=jU h s
theorem Ms{p:aO}{q:List Nat}:∀(k:Nat)(g:List Nat),g.Nodup->(∀x∈g,x<p.length)->p.length<=g.length+k->Nu p q (rk p q k g):=by
 intro k;induction k with
 |zero=>
  intro g nd gl h
  have all:∀y,y<p.length->y∈g:=fun y hy=>by
   by_cases hm:y∈g
   ·exact hm
   exfalso
   have:=uN (l:=y::g) (m:=bw p.length) (iX.mpr ⟨hm,nd⟩) fun x hx=>by
    rcases bQ.mp hx with e|e
    ·rw[e];exact cn.mpr hy
    exact cn.mpr (gl x e)
   rw[cK,b8]at this;omega
  exact fun x _ y hy _=>all y hy
 |succ k ih=>
  intro g nd gl h;show Nu p q (rk p q k (uU p q g));have nd2:(uU p q g).Nodup:=oK _ wI;have gl2:∀x∈uU p q g,x<p.length:=fun x hx=>(uQ.mp hx).1;have sub:∀x∈g,x∈uU p q g:=fun x hx=>uQ.mpr ⟨gl x hx,.inl hx⟩;by_cases hc:∀x∈uU p q g,x∈g
  ·have cl:=Pp gl hc
   have tM:∀(k:Nat)(m:List Nat),(∀x,x∈m↔x∈g)->∀x,x∈rk p q k m↔x∈g:=fun k=>by
    induction k with
    |zero=>exact fun m hm=>hm
    |succ k ih2=>
     intro m hm;refine ih2 _ fun x=>?_;show x∈uU p q m↔_;rw[uQ];constructor
     ·rintro⟨hx,z|⟨b,hb,hs⟩⟩
      ·exact(hm x).mp z
      exact cl b ((hm b).mp hb) x hx (yJ hs)
     exact fun z=>⟨gl x z,.inl ((hm x).mpr z)⟩
   have e:=tM k (uU p q g) fun x=>⟨hc x,sub x⟩;exact fun x hx y hy hs=>(e y).mpr (cl x ((e x).mp hx) y hy hs)
  refine ih _ nd2 gl2 ?_;have hc:∃x,x∈uU p q g/\x∉g:=eS fun z=>hc fun x hx=>eS fun y=>z ⟨x,hx,y⟩;obtain⟨x,hx,nx⟩:=hc
  have:=uN (l:=x::g) (m:=uU p q g) (iX.mpr ⟨nx,nd⟩) fun y hy=>by
   rcases bQ.mp hy with e|e
   ·rw[e];exact hx
   exact sub y e
  rw[cK]at this;omega
theorem Vg{p:aO}{q:List Nat}{a:Nat}:∀(k:Nat)(g:List Nat),(∀x∈g,r9 p q a x)->∀x∈rk p q k g,r9 p q a x:=by
 intro k;induction k with
 |zero=>exact fun g h=>h
 |succ k ih=>
  intro g h;refine ih _ fun x hx=>?_;obtain⟨hl,z|⟨b,hb,hs⟩⟩:=uQ.mp (show x∈uU p q g from hx)
  ·exact h x z
  exact .step (h b hb) hl (yJ hs)
theorem Vi{p:aO}{q:List Nat}:∀(k:Nat)(g:List Nat)(x:Nat),x<p.length->x∈g->x∈rk p q k g:=by
 intro k;induction k with
 |zero=>exact fun g x _ h=>h
 |succ k ih=>exact fun g x hl h=>ih _ x hl (uQ.mpr ⟨hl,.inl h⟩)
theorem kL{p:aO}{q:List Nat}{a:Nat}(ha:a<p.length)(x:Nat):x∈gU p q a↔r9 p q a x:=by
 unfold gU;constructor
 ·exact Vg _ _ (fun y hy=>by rw[bU.mp hy];exact .self) x
 exact IG (Vi _ _ a ha (bU.mpr rfl)) (Ms _ _ (by simp) (fun y hy=>by rw[bU.mp hy];exact ha) (by simp)) x
theorem Vh{p:aO}{q:List Nat}:∀(k:Nat)(g:List Nat),(rk p q (k+1) g).Pairwise (· <·):=by
 intro k;induction k with
 |zero=>exact fun g=>oK _ Qx
 |succ k ih=>exact fun g=>ih _
theorem K0{p:aO}{q:List Nat}{a:Nat}(ha:a<p.length):(gU p q a).Pairwise (· <·):=by
 unfold gU;obtain⟨k,hk⟩:∃k,p.length=k+1:=⟨p.length-1,by omega⟩;rw[hk];exact Vh k [a]
theorem RJ{p:aO}{q:List Nat}{a:Nat}(ha:a<p.length):(gU p q a).head?=aa a↔∀x,r9 p q a x->a<=x:=by
 have inc:=K0 (q:=q) ha;have am:=(kL (q:=q) ha a).mpr .self;cases hg:gU p q a with
 |nil=>rw[hg]at am;cases am
 |cons b r=>
  rw[hg]at inc am;have bm:r9 p q a b:=(kL ha b).mp (by rw[hg];exact bO ..);constructor
  ·intro e x hx;have e:b=a:=by simpa using e
   subst e;have:x∈b::r:=by rw[<-hg];exact(kL ha x).mpr hx
   rcases bQ.mp this with z|z
   ·omega
   exact du ((dG.mp inc).1 x z)
  intro h;have h1:=h b bm;rcases bQ.mp am with z|z
  ·rw[z];rfl
  have:=(dG.mp inc).1 a z;omega
inductive S7(K:aY)(CS CP:Addr)(vs:ao)(H:Hp)(Q:VK)(z':XK):Prop
 |mk (a r l:Addr) (p:aO) (q:List Nat) (c:Nat) (_:vs=[.ref a,.ref r,.ref l,.int (c:Int)]) (_:jz CS CP H a p) (_:um p) (_:yo H r p) (_:dw K H l (tx q)) (_:q.length=p.length) (_:c<p.length) (_:∀(m:Addr)(g:List Nat)(H':Hp),H m=ab->bH H H'->H' m=aa (.lst (tx g))->g.Nodup->g.head?=aa c->(∀x,x∈g↔r9 p q c x)->Q (.ref m) H')
theorem Rh{f CS CP:Addr}{fd:bC}(F:iG K "sits_on" "sits_on" DB f fd)(S:FG K CS)(G:FH K CP)(Cs:Fn P w K mg base eM 2 "shares_by_taking_over" BC (EH K CS CP Ar)):
 dy P w K mg base eM 3 f fd BC (EH K CS CP fV):=by
 refine F.ok Q1 fun fz A outer s H vs Q E hr h=>?_
 obtain⟨a,r,l,p,q,b,c,rfl,pa,pw,rg,hl,ql,hb,hc,k⟩:=h
 obtain⟨dp,ls,lo,bs,os,v⟩:=pa.v
 obtain⟨sb,eb⟩:=uW hb
 obtain⟨b1,d1,k1,e1,g1⟩:=v.st b sb eb
 refine⟨_,bj (cf (vN (jD zX (cw (dW cW (cw (pv 0) rfl) (pv 3) (fun _ _=>rfl)) rfl) cG (dg _)) (vM (dJ Cs hr (by rfl) (aQ (pv 0) (aQ (pv 1) (aQ (pv 2) (aQ (pv 3) (aQ (pv 4) bq))))))))),?_⟩
 refine⟨_,rfl,a,CP,dp,_,_,rfl,v.ha,G.cl,G.n1,jO,_,rfl,ls,_,_,_,rfl,rfl,dw.of v.l5,at_of (j:=b) rfl e1,b1,CS,d1,_,_,rfl,g1,S.cl,S.n3,iN,_,_,rfl,rfl,_,rfl,?_⟩
 have ed:decide ((0:Int)<(sb.length:Int))=decide (0<sb.length):=by rw[decide_eq_decide];omega
 rw[ed]
 have es:fV p q b c=(decide (0<sb.length)&&Ar p q b c):=by
  unfold fV Ar;rw[iR eb]
 rw[es]at k
 cases h1:decide (0<sb.length)with
 |false=>
  rw[h1,eD]at k
  exact cE k
 |true=>
  rw[h1,eI]at k
  exact dM ⟨_,rfl,_,rfl,_,rfl,_,rfl,_,rfl,a,r,l,p,q,b,c,rfl,pa,pw,rg,hl,ql,hb,hc,k⟩
theorem O4{f CS CP:Addr}{fd:bC}(F:iG K "group_of" "group_of" Av f fd)(hl:mg "len"=ab)(TY:mg "range"=ab)(Cs:Fn P w K mg base eM 3 "sits_on" BC (EH K CS CP fV)):
 dy P w K mg base eM 4 f fd ["program","ranges","plan","number"] (S7 K CS CP):=by
 refine F.ok EK fun fz A outer s H vs Q E hr h=>?_
 obtain⟨a,r,l,p,q,c,rfl,pa,pw,rg,hq,ql,hc,k⟩:=h
 have fw:=pw.j8
 have nd:=EK.nd
 refine⟨_,bh (jB 4 nd (eB (aQ (pv 3) bq)))
  (bh (jB 5 nd cG)
  (bh (oj bW (cS tm (pv 5) (dD cJ (by rfl) hl cx (aQ (pv 4) bq)) (dg _))
   (bh (fg bW rfl (uK (by rfl) TY (aQ (dD cJ (by rfl) hl cx (aQ (pv 2) bq)) bq)) (o3 6 nd)
    (bj (d9 (xF (cS qR (pv 6) (pv 4) (by rfl)) (sZ (jy (dJ Cs hr (by rfl) (aQ (pv 0) (aQ (pv 1) (aQ (pv 2) (aQ (dW cW (pv 4) (pv 5) (fun _ _=>rfl)) (aQ (pv 6) bq))))))))).pt
     (bj (dN (mq cj c9 c8 iO (pv 4) (aQ (pv 6) bq)))) cT)))
   (bj (rM (i:=5) nd rfl (ux rfl) cG qB))))
  (bj (cf (pv 4))))),?_⟩
 refine⟨_,rfl,by show 1<=bz;decide,fun m hm=>?_⟩
 have s1:bH H (upd H m (.lst [V.int (c:Int)])):=bH.new hm
 have gl:∀g:List Nat,g.Nodup->(∀x∈g,r9 p q c x)->g.length<=p.length:=fun g n h=>by
  have:=uN (m:=bw p.length) n fun x hx=>cn.mpr (r9.lt hc (h x hx));rw[b8]at this;exact this
 refine⟨fun mm σ H'=>Ex3 fun lk g v6=>mm=p.length-lk/\σ=[aa (.ref a),aa (.ref r),aa (.ref l),aa (.int (c:Int)),aa (.ref m),aa (.int ((lk:Nat):Int)),v6]/\bH H H'/\H' m=aa (.lst (tx g))/\g.Nodup/\g.head?=aa c/\(∀x∈g,r9 p q c x)/\lk<=g.length/\∀i x,i<lk->g[i]?=aa x->∀y,y<p.length->fV p q x y=ae->y∈g,⟨_,0,[c],ab,rfl,rfl,s1,bf,by simp,rfl,fun x hx=>by rw[bU.mp hx];exact .self,by simp,fun i x hi=>by omega⟩,?_⟩
 rintro mm σ H' ⟨lk,g,v6,rfl,rfl,sm,hg,gn,gh,gr,lkg,cl⟩
 refine⟨_,rfl,_,rfl,m,_,rfl,.inl (dw.of hg),_,_,rfl,rfl,_,rfl,?_⟩
 have ao3:=gl g gn gr
 by_cases h1:lk<g.length
 ·rw[qk (show((lk:Nat):Int)<((tx g).length:Int)by rw[eA];omega)]
  obtain⟨x0,hx0⟩:∃x0,g[lk]?=aa x0:=⟨_,bF h1⟩
  have x0l:x0<p.length:=r9.lt hc (gr x0 (br hx0))
  have en:((tx q).length:Int)=(p.length:Int):=by rw[eA,ql]
  refine dM ⟨fun σ' G=>Ue fun g' v6=>σ'=[aa (.ref a),aa (.ref r),aa (.ref l),aa (.int (c:Int)),aa (.ref m),aa (.int ((lk+1:Nat):Int)),v6]/\bH H G/\G m=aa (.lst (tx g'))/\g'.Nodup/\g'.head?=aa c/\(∀x∈g',r9 p q c x)/\lk+1<=g'.length/\∀i x,i<lk+1->g'[i]?=aa x->∀y,y<p.length->fV p q x y=ae->y∈g',fun σ' G ⟨g',v6,z1,z2⟩=>⟨p.length-(lk+1),by omega,lk+1,g',v6,rfl,z1,z2⟩,?_⟩
  refine⟨_,rfl,l,_,rfl,.inl (sm.seq hq),_,rfl,by rw[en];omega,by rw[en];omega,rf (n:=((tx q).length:Int).toNat) (fun j σ H2=>Ue fun ex v6=>σ=[aa (.ref a),aa (.ref r),aa (.ref l),aa (.int (c:Int)),aa (.ref m),aa (.int ((lk:Nat):Int)),v6]/\bH H H2/\H2 m=aa (.lst (tx (g++ex)))/\(g++ex).Nodup/\(∀x∈g++ex,r9 p q c x)/\∀y,y<j->fV p q x0 y=ae->y∈g++ex) ?_ ?_ ?_⟩
  ·refine⟨[],v6,rfl,sm,by rw[cp];exact hg,by rw[cp];exact gn,by rw[cp];exact gr,fun y hy=>by omega⟩
  ·rintro j σ H2 hj ⟨ex,v6,rfl,EI,hg2,gn2,gr2,cl2⟩
   have hj:j<p.length:=by omega
   have ej:(0:Int)+(j:Int)=(j:Int):=by omega
   rw[ej]
   have hx1:(g++ex)[lk]?=aa x0:=by rw[eX h1];exact hx0
   refine⟨_,rfl,_,rfl,m,_,rfl,.inl (dw.of hg2),rfl,Mv _,_,rfl,?_⟩
   have hh:(if ae=ae then !ve (.int (j:Int)) (tx (g++ex))else ve (.int (j:Int)) (tx (g++ex)))= !((g++ex).contains j):=by rw[da rfl,X5]
   rw[hh]
   cases zY:(g++ex).contains j with
   |true=>
    refine cE (cE ⟨ex,_,rfl,EI,hg2,gn2,gr2,fun y hy hs=>?_⟩)
    by_cases e:y=j
    ·subst e
     exact dP.mp zY
    exact cl2 y (by omega) hs
   |false=>
    have nj:j∉g++ex:=fun z=>by rw[dP.mpr z]at zY;cases zY
    refine dM ⟨_,rfl,_,rfl,_,rfl,_,rfl,_,rfl,m,_,_,_,rfl,rfl,dw.of hg2,at_of (j:=lk) rfl (show _=aa (V.int (x0:Int))from ?_),_,rfl,a,r,l,p,q,x0,j,rfl,pa.same EI,pw,rg.same EI,EI.seq hq,ql,x0l,hj,_,rfl,?_⟩
    ·unfold tx
     rw[bL,hx1]
     rfl
    cases hs0:fV p q x0 j with
    |false=>
     refine cE ⟨ex,_,rfl,EI,hg2,gn2,gr2,fun y hy hs=>?_⟩
     by_cases e:y=j
     ·subst e
      rw[hs0]at hs
      cases hs
     exact cl2 y (by omega) hs
    |true=>
     have l2:=gl _ gn2 gr2
     refine dM ⟨_,rfl,.inl ⟨rfl,_,dw.of hg2⟩,_,rfl,m,_,_,rfl,rfl,hg2,by rw[eA,bZ];omega,?_⟩
     refine⟨ex++[j],_,rfl,bH.put hm EI,by rw[bf,Dp,de],?_,?_,?_⟩
     ·rw[<-de,vb]
      exact⟨gn2,by simp,fun x hx y hy e=>nj (by rw[bU.mp hy]at e;exact e▸hx)⟩
     ·intro x hx
      rw[<-de]at hx
      rcases d7.mp hx with z|z
      ·exact gr2 x z
      rw[bU.mp z]
      exact .step (gr x0 (br hx0)) hj hs0
     intro y hy hs
     rw[<-de]
     by_cases e:y=j
     ·subst e
      exact dY _ (bU.mpr rfl)
     exact fK _ (cl2 y (by omega) hs)
  rintro σ H2 ⟨ex,v6,rfl,EI,hg2,gn2,gr2,cl2⟩
  refine⟨_,rfl,_,_,rfl,rfl,?_⟩
  refine⟨g++ex,v6,by rfl,EI,hg2,gn2,?_,gr2,by rw[bR];omega,fun i x hi hx y hy hs=>?_⟩
  ·cases g with
   |nil=>cases gh
   |cons z g=>exact gh
  by_cases e:i=lk
  ·subst e
   rw[eX h1,hx0]at hx
   cases hx
   exact cl2 y (by omega) hs
  rw[eX (by omega)]at hx
  exact fK _ (cl i x (by omega) hx y hy hs)
 rw[gX (show¬((lk:Nat):Int)<((tx g).length:Int)by rw[eA];omega)]
 refine cE ⟨_,rfl,k m g H' hm sm hg gn gh fun x=>⟨gr x,?_⟩⟩
 have cm:c∈g:=by
  cases g with
  |nil=>cases gh
  |cons z g=>
   cases gh;exact bO ..
 refine IG cm (fun x hx y hy hs=>?_) x
 obtain⟨i,hi⟩:=cz hx
 exact cl i x (by have:=(aZ.mp hi).1;omega) hi y hy hs
end SR
end
section
namespace SR
open PySem PySem.Spec PyProof.Rows L2 XL sP
variable{P:bY}{w:cX}{K:aY}{mg:aj}{base:Heap}
def uk(p:aO)(q:List Nat)(a:Nat):Bool:=(gU p q a).head?==aa a
theorem vQ{p:aO}{q:List Nat}{a:Nat}(ha:a<p.length):uk p q a=ae↔∀x,r9 p q a x->a<=x:=by
 unfold uk;rw[beq_iff_eq];exact RJ ha
def KY(p:aO)(q:List Nat)(i:Nat):List Nat:=(bw i).filter (uk p q)
theorem least{p:aO}{q:List Nat}{i:Nat}(hi:i<p.length):∃m,r9 p q i m/\uk p q m=ae/\m<=i:=by
 have im:=(kL (q:=q) hi i).mpr .self;have inc:=K0 (q:=q) hi;cases hg:gU p q i with
 |nil=>rw[hg]at im;cases im
 |cons m r=>
  rw[hg]at inc im;have rm:r9 p q i m:=(kL hi m).mp (by rw[hg];exact bO ..)
  have low:∀x,r9 p q i x->m<=x:=fun x hx=>by
   have:x∈m::r:=by rw[<-hg];exact(kL hi x).mpr hx
   rcases bQ.mp this with z|z
   ·omega
   exact du ((dG.mp inc).1 x z)
  exact⟨m,rm,(vQ (r9.lt hi rm)).mpr fun x hx=>low x (rm.trans hx),low i .self⟩
theorem Yd{p:aO}{q:List Nat}{i:Nat}(hi:i<p.length):uk p q i=ae↔¬∃h∈KY p q i,r9 p q h i:=by
 constructor
 ·rintro hh ⟨h,hm,hr⟩;have hl:=cn.mp (cI.mp hm).1;have:=(vQ hi).mp hh h (hr.symm (by omega));omega
 intro no;obtain⟨m,rm,hm,le⟩:=least (q:=q) hi;rcases jh m i with z|z
 ·exact(no ⟨m,cI.mpr ⟨cn.mpr z,hm⟩,rm.symm hi⟩).elim
 have e:m=i:=by omega
 rw[<-e];exact hm
def B4(q:List Nat)(a b:Nat):Prop:=aT q a<aT q b\/(aT q a=aT q b/\a<b)
theorem EM(q:List Nat)(a:Nat):∀l:List Nat,a∉l->l.Pairwise (B4 q)->(nB q a l).Perm (a::l)/\(nB q a l).Pairwise (B4 q)
 |[],_,_=>⟨gO _,oH _ _⟩
 |b::l,h,s=>by
  obtain⟨s1,s2⟩:=dG.mp s;have nab:a≠b:=fun z=>h (z▸bO ..);unfold nB;by_cases hb:aT q a<aT q b\/(aT q a=aT q b/\a<b)
  ·rw[da hb];refine⟨gO _,dG.mpr ⟨fun x hx=>?_,s⟩⟩;rcases bQ.mp hx with e|e
   ·subst e;exact hb
   have:=s1 x e;unfold B4 at this⊢;omega
  rw[cQ hb];obtain⟨i1,i2⟩:=EM q a l (fun z=>h (bD _ z)) s2;refine⟨(i1.cons b).trans (FW ..),dG.mpr ⟨fun x hx=>?_,i2⟩⟩;rcases bQ.mp (i1.mem_iff.mp hx)with e|e
  ·subst e;unfold B4;omega
  exact s1 x e
theorem Pr(q:List Nat):∀(l r:List Nat),(∀x∈l,x∉r)->l.Nodup->r.Pairwise (B4 q)->(l.foldl (fun r a=>nB q a r) r).Perm (l++r)/\(l.foldl (fun r a=>nB q a r) r).Pairwise (B4 q)
 |[],r,_,_,s=>⟨gO _,s⟩
 |a::l,r,h,nd,s=>by
  obtain⟨i1,i2⟩:=EM q a r (h a (bO ..)) s;obtain⟨n1,n2⟩:=iX.mp nd
  obtain⟨j1,j2⟩:=Pr q l (nB q a r) (fun x hx z=>by
   rcases bQ.mp (i1.mem_iff.mp z)with e|e
   ·exact n1 (e▸hx)
   exact h x (bD _ hx) e) n2 i2
  exact⟨j1.trans ((i1.append_left l).trans ZE),j2⟩
theorem B2(p:aO)(q:List Nat):(eJ p q).Perm (KY p q p.length)/\(eJ p q).Pairwise (B4 q):=by
 obtain⟨i1,i2⟩:=Pr q (KY p q p.length) [] (fun x _ z=>by cases z) (oK _ wI) kq;rw[cp]at i1;exact⟨i1,i2⟩
def yr(p:aO)(q:List Nat)(h:Nat)(m:List Nat):Prop:=m.Nodup/\m.head?=aa h/\∀x,x∈m↔r9 p q h x
theorem Pk{m:List Nat}{h:Nat}(e:m.head?=aa h):m.headD 0=h/\0<m.length:=by
 cases m with
 |nil=>cases e
 |cons a m=>
  cases e;exact⟨rfl,by simp⟩
theorem HA{α β γ:Type}{F:α->β->Prop}{f:α->γ}{g:β->γ}(h:∀a b,F a b->f a=g b):∀{l:List α}{m:List β},fM F l m->l.map f=m.map g
 |_,_,.nil=>rfl
 |_,_,.cons r t=>by rw[dE,dE,h _ _ r,HA h t]
theorem yN{α β:Type}{F:α->β->Prop}:∀{l:List α}{m:List β},l.length=m.length->(∀(i:Nat)(a:α)(b:β),l[i]?=aa a->m[i]?=aa b->F a b)->fM F l m
 |[],[],_,_=>.nil
 |[],_::_,h,_=>by cases h
 |_::_,[],h,_=>by cases h
 |a::l,b::m,h,f=>.cons (f 0 a b rfl rfl) (yN (by simpa using h) fun i a b ha hb=>f (i+1) a b (by simpa using ha) (by simpa using hb))
theorem JN{p:aO}{q:List Nat}{gs:ag}{ms:List (List Nat)}{zs:List ((Int×Int)×Addr)}(ql:q.length=p.length)(gl:gs.length=ms.length)(pr:fM (fun m h=>yr p q h m) ms (KY p q p.length))(pm:zs.Perm ((ms.map (Fs (q.map fun(n:Nat)=>(n:Int)))).zip gs))(so:zs.Pairwise fun a b=>leP a.1 b.1):
 fM (fun g h=>∃(m:List Nat)(i:Nat),gs[i]?=aa g/\ms[i]?=aa m/\yr p q h m) (zs.map (·.2)) (eJ p q):=by
 obtain⟨h1,h2⟩:=B2 p q
 have hl:∀h∈KY p q p.length,h<p.length:=fun h hh=>cn.mp (cI.mp hh).1
 let key:Nat->Int×Int:=fun h=>(((aT q h:Nat):Int),(h:Int))
 have gk:∀(m:List Nat)(h:Nat),h<p.length->m.head?=aa h->Fs (q.map fun(n:Nat)=>(n:Int)) m=key h:=fun m h zy hm=>by
  unfold Fs;rw[(Pk hm).1];show(_,_)=(_,_);congr 1;rw[List.getD_eq_getElem?_getD,bL];unfold aT;rw[bF (by omega)];rfl
 have ek:ms.map (Fs (q.map fun(n:Nat)=>(n:Int)))=(KY p q p.length).map key:=by
  have:fM (fun m h=>yr p q h m/\h<p.length) ms (KY p q p.length):=by
   refine yN (dO pr) fun i a b ha hb=>⟨?_,hl b (br hb)⟩;obtain⟨b',Po,F⟩:=lD pr ha;rw[hb]at Po;cases Po;exact F
  exact HA (fun m h z=>gk m h z.2 z.1.2.1) this
 have lk:(ms.map (Fs (q.map fun(n:Nat)=>(n:Int)))).length=gs.length:=by rw[aV,gl]
 have ez:zs.map (·.1)=(eJ p q).map key:=by
  refine Aq (fun a b:Int×Int=>a.1<b.1\/(a.1=b.1/\a.2<b.2)) (fun a b x y=>by omega) ?_ ?_ ?_
  ·refine(pm.map (·.1)).trans ?_;rw[ZF (by omega),ek];exact(h1.map key).symm
  ·have nd:(zs.map (·.1)).Nodup:=by
    refine((pm.map (·.1)).nodup_iff).mpr ?_;rw[ZF (by omega),ek];refine List.Pairwise.map _ (fun a b h=>?_) (show(KY p q p.length).Nodup from oK _ wI);intro z;have:(a:Int)=(b:Int):=congrArg Prod.snd z;exact h (by omega)
   have s2:(zs.map (·.1)).Pairwise leP:=jT.mpr so;refine(s2.and nd).imp fun{a b} h=>?_;obtain⟨h1,h2⟩:=h;rcases h1 with z|⟨z1,z2⟩
   ·exact .inl z
   refine .inr ⟨z1,?_⟩;rcases EC z2 with y|y
   ·exact y
   exact(h2 (Prod.ext z1 y)).elim
  rw[jT];refine h2.imp fun{a b} h=>?_;unfold B4 at h;show((aT q a:Nat):Int)<((aT q b:Nat):Int)\/(((aT q a:Nat):Int)=((aT q b:Nat):Int)/\(a:Int)<(b:Int));omega
 refine yN ?_ fun i g h hg hh=>?_
 ·have:=congrArg Jc ez
  rw[aV,aV]at this
  rw[aV]
  exact this
 rw[bL]at hg
 cases hz:zs[i]? with
 |none=>rw[hz]at hg;cases hg
 |some z=>
  rw[hz]at hg
  have eg:z.2=g:=bT hg
  have e1:z.1=key h:=by
   have:=congrArg (fun l=>l[i]?) ez;simp only[bL,hz,hh,jH]at this;exact bT this
  obtain⟨j,hj⟩:=cz (pm.mem_iff.mp (br hz))
  rw[mC]at hj
  obtain⟨j1,j2⟩:=hj
  rw[bL]at j1
  cases hm:ms[j]? with
  |none=>rw[hm]at j1;cases j1
  |some m=>
   rw[hm]at j1
   have j1:Fs (q.map fun(n:Nat)=>(n:Int)) m=z.1:=bT j1
   obtain⟨h',hh',G⟩:=lD pr hm
   have e2:=gk m h' (hl h' (br hh')) G.2.1
   rw[j1,e1]at e2
   have e3:(h:Int)=(h':Int):=congrArg Prod.snd e2
   have e4:h=h':=by omega
   subst e4
   exact⟨m,j,by rw[<-eg];exact j2,hm,G⟩
abbrev yQ:Pos:=⟨197,30,197,70⟩
abbrev KO:Str:=("groups_in_order"++".<locals>.")++"<lambda>"
inductive WO(K:aY)(CS CP T:Addr)(vs:ao)(H:Hp)(Q:VK)(z':XK):Prop
 |mk (a r l:Addr) (p:aO) (q:List Nat) (_:vs=[.ref a,.ref r,.ref l]) (_:jz CS CP H a p) (_:um p) (_:yo H r p) (_:dw K H l (tx q)) (_:q.length=p.length) (_:iZ H T yQ KO) (_:∀(g:Addr)(gs:ag)(H':Hp),H g=ab->IQ T H H'->iZ H' T yQ KO->H' g=aa (.lst (gs.map V.ref))->fM (fun b h=>H b=ab/\∃m,H' b=aa (.lst (tx m))/\yr p q h m) gs (eJ p q)->Q (.ref g) H')
theorem B3(p:aO)(q:List Nat)(i:Nat):KY p q (i+1)=if uk p q i=ae then KY p q i++[i]else KY p q i:=by
 unfold KY;rw[fe,kO];by_cases h:uk p q i=ae
 ·rw[da h,fE h];rfl
 rw[cQ h,gM h];exact cp _
theorem T3{p:aO}{q:List Nat}{h:Nat}{m:List Nat}(hl:h<p.length)(g:yr p q h m):m.length<=p.length:=by
 have:=uN (m:=bw p.length) g.1 fun x hx=>cn.mpr (r9.lt hl ((g.2.2 x).mp hx));rw[b8]at this;exact this
theorem AD{f c T CS CP:Addr}{fd:bC}(F:iG K "groups_in_order" "groups_in_order" n9 f fd)(NS:fd.code=.ref c)(hk:pH K c T=ae)(B:Nw mg base)(hl:mg "len"=ab)(TY:mg "range"=ab)(hso:mg "sorted"=ab)
 (Cg:Fn P w K mg base eM 4 "group_of" ["program","ranges","plan","number"] (S7 K CS CP)):dy P w K mg base eM 5 f fd ["program","ranges","plan"] (WO K CS CP T):=by
 refine okC F rB NS (fun vs H Q E h=>?_) (fun A outer s H vs Q E hr h=>?_)
 ·obtain⟨a,r,l,p,q,rfl,_⟩:=h
  rfl
 obtain⟨a,r,l,p,q,rfl,pa,pw,rg,hq,ql,tab,k⟩:=h
 have fw:=pw.j8
 have hu:=Ph hr
 have nd:=rB.nd
 refine⟨_,bh (jB 3 nd (eB bq))
  (bh (jB 4 nd BF)
  (bh (fg bW rfl (uK (by rfl) TY (aQ (dD cJ (by rfl) hl cx (aQ (pv 2) bq)) bq)) (o3 5 nd)
   (bj (d9 (DI (DL hu (pv 5) (pv 4)))
    (bh (jB 6 nd (dJ Cg hr (by rfl) (aQ (pv 0) (aQ (pv 1) (aQ (pv 2) (aQ (pv 5) bq))))))
    (bh (dN (mq cj c9 c8 iO (pv 3) (aQ (pv 6) bq)))
    (bj (fg bW rfl (fT (pv 6)) (o3 7 nd)
     (bj (LQ hu (pv 4) (pv 7) zW rfl)))))) cT)))
  (bj (cf (Xl (i:=2) (cy:=s.heap.objs.size+1) (T:=T) rfl hr (by rfl) hso (pv 3) B rfl hk rfl rfl rfl rfl rfl (fun _ _ _ _=>rfl) rfl rfl (by decide) rfl rfl rfl (by decide) (by decide) (by decide)))))),?_⟩
 refine⟨by show 0<=bz;decide,fun g hg=>?_⟩
 intro d hd
 have s1:bH H (upd H g (.lst [])):=bH.new hg
 have dH:H d=ab:=s1.free hd
 have ngd:g≠d:=fun z=>by rw[<-z,bf]at hd;cases hd
 have s2:bH H (upd (upd H g (.lst [])) d (.dK [])):=s1.trans (bH.new hd)
 have en:((tx q).length:Int)=(p.length:Int):=by rw[eA,ql]
 refine⟨_,rfl,l,_,rfl,.inl (s2.seq hq),_,rfl,by rw[en];omega,by rw[en];omega,rf (n:=((tx q).length:Int).toNat) (fun i σ H'=>Ex6 fun(v5 v6 v7:Option V)(gs:ag)(ms:List (List Nat))(ef:List (Key×V))=>σ=[aa (.ref a),aa (.ref r),aa (.ref l),aa (.ref g),aa (.ref d),v5,v6,v7]/\bH H H'/\H' g=aa (.lst (gs.map V.ref))/\H' d=aa (.dK ef)/\
  fM (fun b m=>H b=ab/\H' b=aa (.lst (tx m))/\b≠g) gs ms/\fM (fun m h=>yr p q h m) ms (KY p q i)/\(∀x:Nat,(l9 ef (cN (x:Int))).isSome=ae↔∃h∈KY p q i,r9 p q h x)/\ef.length<=24*i) ?_ ?_ ?_⟩
 ·refine⟨ab,ab,ab,[],[],[],rfl,s2,by rw[bB ngd,bf];rfl,bf,.nil,.nil,fun x=>⟨fun z=>(by cases z),fun⟨h,hh,_⟩=>(by cases hh)⟩,by simp⟩
 ·rintro i σ H' hi ⟨v5,v6,v7,gs,ms,ef,rfl,sm,hgs,hkv,pr,pg,kd,kl⟩
  have hi:i<p.length:=by omega
  have ei:(0:Int)+(i:Int)=(i:Int):=by omega
  rw[ei]
  refine⟨_,rfl,_,rfl,d,_,rfl,zC.k (k:=cN (i:Int)) hkv,_,rfl,?_⟩
  have hn:=Yd (q:=q) hi
  cases hv:(l9 ef (cN (i:Int))).isSome with
  |true=>
   have nh:¬uk p q i=ae:=fun z=>hn.mp z ((kd i).mp hv)
   refine cE ⟨_,v6,v7,gs,ms,ef,rfl,sm,hgs,hkv,pr,?_,?_,by omega⟩
   ·rw[B3,cQ nh]
    exact pg
   rw[B3,cQ nh]
   exact kd
  |false=>
   have hh:uk p q i=ae:=hn.mpr fun z=>by rw[(kd i).mpr z]at hv;cases hv
   refine dM ⟨_,rfl,_,rfl,_,rfl,_,rfl,a,r,l,p,q,i,rfl,pa.same sm,pw,rg.same sm,sm.seq hq,ql,hi,fun mm m H1 nm sM hm mn mh mr=>?_⟩
   have sH1:=sm.trans sM
   have gi:yr p q i m:=⟨mn,mh,mr⟩
   have ml:=T3 hi gi
   have nmg:mm≠g:=fun z=>by rw[z,hgs]at nm;cases nm
   have mmH:H mm=ab:=sm.free nm
   have gl:gs.length<=i:=by
    have h1:=dO pr;have h2:=dO pg;have h3:(KY p q i).length<=(bw i).length:=qj ..;rw[b8]at h3;omega
   refine⟨_,rfl,.inl ⟨rfl,_,dw.of (sM _ _ hgs)⟩,_,rfl,g,_,_,rfl,rfl,sM _ _ hgs,by rw[aV,bZ];omega,?_⟩
   have sm3:bH H (upd H1 g (.lst (gs.map V.ref++[.ref mm]))):=bH.put hg sH1
   have hd3:(upd H1 g (.lst (gs.map V.ref++[.ref mm]))) d=aa (.dK ef):=by
    rw[bB (dh ngd)];exact sM _ _ hkv
   have hm3:(upd H1 g (.lst (gs.map V.ref++[.ref mm]))) mm=aa (.lst (tx m)):=by rw[bB nmg];exact hm
   have pr3:fM (fun b m=>H b=ab/\(upd H1 g (.lst (gs.map V.ref++[.ref mm]))) b=aa (.lst (tx m))/\b≠g) (gs++[mm]) (ms++[m]):=m6 (Paired.sI pr fun b u z=>⟨z.1,by rw[bB z.2.2];exact sM _ _ z.2.1,z.2.2⟩) (.cons ⟨mmH,hm3,nmg⟩ .nil)
   refine⟨_,rfl,mm,rfl,⟨_,dw.of hm3⟩,f7 (K:=K) (a:=mm) (xs:=tx m) (fun j σ H2=>Ue fun(v7:Option V)(NN:List (Key×V))=>σ=[aa (.ref a),aa (.ref r),aa (.ref l),aa (.ref g),aa (.ref d),aa (.int (i:Int)),aa (.ref mm),v7]/\bH H H2/\H2 g=aa (.lst ((gs++[mm]).map V.ref))/\H2 d=aa (.dK NN)/\fM (fun b m=>H b=ab/\H2 b=aa (.lst (tx m))/\b≠g) (gs++[mm]) (ms++[m])/\H2 mm=aa (.lst (tx m))/\NN.length<=24*i+j/\∀x:Nat,(l9 NN (cN (x:Int))).isSome=ae↔(∃h∈KY p q i,r9 p q h x)\/x∈m.take j) ?_ ?_ ?_ ?_⟩
   ·refine⟨v7,ef,rfl,sm3,by rw[bf,cg];rfl,hd3,pr3,hm3,by omega,fun x=>?_⟩
    rw[kd x]
    exact⟨.inl,fun z=>z.resolve_right (by simp)⟩
   ·rintro j σ H2 _ ⟨_,_,_,_,_,_,_,z,_⟩
    exact dw.of z
   ·rintro j x σ H2 hx ⟨v7,NN,rfl,sm4,hg4,hd4,pr4,hm4,kl4,kd4⟩
    obtain⟨n,hn4,rfl⟩:=mO hx
    have jl:=(aZ.mp hn4).1
    refine⟨_,rfl,_,rfl,d,_,rfl,Sk.k (k:=cN (n:Int)) hd4 (by rw[bZ];omega),?_⟩
    have keep:∀{b:Addr}{us:ao},H2 b=aa (.lst us)->(upd H2 d (.dK (putK NN (cN (n:Int)) (.bl ae)))) b=aa (.lst us):=fun{b us} h1=>by
     rw[bB (lE h1 hd4 (by intro z;cases z))];exact h1
    refine⟨_,_,rfl,bH.put dH sm4,keep hg4,bf,Paired.sI pr4 fun b u z=>⟨z.1,keep z.2.1,z.2.2⟩,keep hm4,?_,fun y=>?_⟩
    ·have:=xZ NN (cN (n:Int)) (V.bl ae)
     omega
    rw[Oa,take_snoc hn4,d7,bU]
    by_cases e:y=n
    ·subst e
     rw[da rfl]
     exact⟨fun _=>.inr (.inr rfl),fun _=>rfl⟩
    rw[cQ (show¬(cN (y:Int):Key)=cN (n:Int)from fun z=>e (by have:=qi z;omega)),kd4 y]
    constructor
    ·rintro(z|z)
     ·exact .inl z
     exact .inr (.inl z)
    rintro(z|z|z)
    ·exact .inl z
    ·exact .inr z
    exact(e z).elim
   rintro σ H2 ⟨v7,NN,rfl,sm4,hg4,hd4,pr4,hm4,kl4,kd4⟩
   rw[eA]at kl4 kd4
   refine⟨_,_,v7,gs++[mm],ms++[m],NN,rfl,sm4,hg4,hd4,pr4,?_,fun x=>?_,by omega⟩
   ·rw[B3,da hh]
    exact m6 pg (.cons gi .nil)
   rw[B3,da hh,kd4 x,Qw (bu _),mr x]
   constructor
   ·rintro(⟨h,hh,z⟩|z)
    ·exact⟨h,fK _ hh,z⟩
    exact⟨i,dY _ (bU.mpr rfl),z⟩
   rintro⟨h,hh,z⟩
   rcases d7.mp hh with y|y
   ·exact .inl ⟨h,y,z⟩
   rw[bU.mp y]at z
   exact .inr z
 rintro σ H' ⟨v5,v6,v7,gs,ms,ef,rfl,sm,hgs,hkv,pr,pg,kd,kl⟩
 have ep:((tx q).length:Int).toNat=p.length:=by omega
 rw[ep]at pg
 have gl:gs.length<=p.length:=by
  have h1:=dO pr;have h2:=dO pg;have h3:(KY p q p.length).length<=(bw p.length).length:=qj ..;rw[b8]at h3;omega
 have wK:=tab.same sm
 refine⟨_,rfl,g,l,gs,q.map fun(n:Nat)=>(n:Int),ms,rfl,dw.of hgs,by omega,rfl,?_,by rw[aV];omega,?_,wK,fun zs D H2 aik bt nD hD pm so=>?_⟩
 ·rw[<-txI]
  exact sm.seq hq
 ·refine yN (dO pr) fun i b m hb hm=>?_
  obtain⟨m',Mp,z1,z2,z3⟩:=lD pr hb
  rw[hm]at Mp
  cases Mp
  obtain⟨h,hh,G⟩:=lD pg hm
  obtain⟨e1,e2⟩:=Pk G.2.1
  refine⟨dw.of z2,e2,?_⟩
  rw[e1,aV,ql]
  exact cn.mp (cI.mp (br hh)).1
 have gp:=JN ql (dO pr) pg pm so
 have aam:∀{b:Addr}{us:ao},H' b=aa (.lst us)->b≠T:=fun{b us} e z=>by
  obtain⟨ps,eT,_⟩:=wK;rw[z,eT]at e;cases e
 refine k D (zs.map (·.2)) H2 (sm.free nD) (fun b u nb e=>bt b u nb (sm _ _ e)) aik hD (Paired.sI gp fun b h z=>?_)
 obtain⟨m,i,y1,y2,y3⟩:=z
 obtain⟨m',Mp,z1,z2,z3⟩:=lD pr y1
 rw[y2]at Mp
 cases Mp
 exact⟨z1,m,bt _ _ (aam z2) z2,y3⟩
def goodG(p:aO)(q ms ds:List Nat)(o:Nat):Bool:=ds.all fun d=>ms.all fun b=>!(fH p b d&&iJ o (aU p b) (aT q d) (aU p d))
def lowG(p:aO)(q:List Nat)(L:Nat)(ms ds:List Nat):Nat:=if L=0 then 0 else kZ (goodG p q ms ds) lV 0
theorem DM{o m t n:Nat}:iJ o m t n=ae↔0<m/\0<n/\o<t+n/\t<o+m:=by
 unfold iJ;simp only[cM,decide_eq_true_eq]
theorem uV{p:aO}{q ms ds:List Nat}{o:Nat}:goodG p q ms ds o=ae↔∀d∈ds,∀b∈ms,fH p b d=ae->¬iJ o (aU p b) (aT q d) (aU p d)=ae:=by
 unfold goodG;rw[cY];constructor
 ·intro h d hd b hb h1 h2;have:=cY.mp (h d hd) b hb;rw[h1,h2]at this;cases this
 intro h d hd;rw[cY];intro b hb;cases h1:fH p b d with
 |false=>rfl
 |true=>
  cases h2:iJ o (aU p b) (aT q d) (aU p d)with
  |false=>rfl
  |true=>exact(h d hd b hb h1 h2).elim
theorem adt{p:aO}{q ds:List Nat}{d:Nat}(hd:d∈ds):aT q d∈m7 p q ds/\aT q d+aU p d∈m7 p q ds:=by
 unfold m7;exact⟨bD _ (ki.mpr ⟨d,hd,bO ..⟩),bD _ (ki.mpr ⟨d,hd,bD _ (bO ..)⟩)⟩
theorem RK{p:aO}{q ms ds:List Nat}{o:Nat}(h:goodG p q ms ds (o+1)=ae)(n:(o+1)∉m7 p q ds):goodG p q ms ds o=ae:=by
 rw[uV]at h⊢;intro d hd b hb h1 h2;refine h d hd b hb h1 ?_;rw[DM]at h2⊢;have n2:o+1≠aT q d+aU p d:=fun z=>n (z▸(adt hd).2);omega
theorem AH{p:aO}{q ms ds:List Nat}:∀o,goodG p q ms ds o=ae->∃t,t<=o/\t∈m7 p q ds/\goodG p q ms ds t=ae
 |0,h=>⟨0,bu _,by unfold m7;exact bO ..,h⟩
 |o+1,h=>by
  by_cases hm:(o+1)∈m7 p q ds
  ·exact⟨o+1,bu _,hm,h⟩
  obtain⟨t,h1,h2,h3⟩:=AH o (RK h hm);exact⟨t,by omega,h2,h3⟩
theorem K1{p:aO}{q ms ds:List Nat}{B:Nat}(hB:∀d∈ds,aT q d+aU p d<=B):goodG p q ms ds B=ae:=by
 rw[uV];intro d hd b hb h1 h2;have:=(DM.mp h2).2.2.1;have:=hB d hd;omega
theorem aas{p:aO}{q ms ds:List Nat}{L B:Nat}(hB:∀d∈ds,aT q d+aU p d<=B)(b4:B<4000):lowG p q L ms ds<=B:=by
 unfold lowG;split
 ·exact cC _
 exact D0 _ _ 0 B (cC _) (by unfold lV;omega) (K1 hB)
theorem aau{p:aO}{q gs ds ms:List Nat}{B:Nat}(hB:∀d∈ds,aT q d+aU p d<=B)(mem:∀k,k∈ms↔k∈m7 p q ds):∃o∈ms,goodG p q gs ds o=ae:=by
 obtain⟨t,_,t2,t3⟩:=AH B (K1 (ms:=gs) hB);exact⟨t,(mem t).mpr t2,t3⟩
theorem aat{p:aO}{q gs ds ms:List Nat}{L B i o:Nat}(gL:∀b∈gs,aU p b=L)(hB:∀d∈ds,aT q d+aU p d<=B)(b4:B<4000)(so:ms.Pairwise (· <·))(mem:∀k,k∈ms↔k∈m7 p q ds)(hi:ms[i]?=aa o)(hg:goodG p q gs ds o=ae)(no:∀(j x:Nat),j<i->ms[j]?=aa x->goodG p q gs ds x=af):lowG p q L gs ds=o:=by
 have om:o∈ms:=br hi
 have below:∀x,x<o->goodG p q gs ds x=af:=fun x hx=>by
  cases hgx:goodG p q gs ds x with
  |false=>rfl
  |true=>
   obtain⟨t,t1,t2,t3⟩:=AH x hgx;obtain⟨j,hj⟩:=cz ((mem t).mpr t2)
   have ji:j<i:=by
    rcases lL j i with z|z|z
    ·exact z
    ·rw[z,hi]at hj;cases hj;omega
    obtain⟨l1,e1⟩:=aZ.mp hi;obtain⟨l2,e2⟩:=aZ.mp hj;have:=fU.mp so i j l1 l2 z;omega
   rw[no j t ji hj]at t3;cases t3
 unfold lowG;by_cases h0:L=0
 ·rw[da h0]
  have g0:goodG p q gs ds 0=ae:=by
   rw[uV];intro d _ b hb _ h2;have:=(DM.mp h2).1;rw[gL b hb]at this;omega
  rcases oG o with z|z
  ·exact z.symm
  rw[below 0 z]at g0;cases g0
 rw[cQ h0];refine D1 _ _ 0 o (cC _) ?_ hg fun x _ hx=>below x hx;have:=Tw hB o ((mem o).mp om);unfold lV;omega
def EU(p:aO)(q ms ds:List Nat):Bool:=ms.any fun b=>ds.any fun x=>fH p b x&&UT p q b x
theorem Wj{p:aO}{q q1 ms ds:List Nat}{o:Nat}(h1:∀b∈ms,aT q1 b=o)(h2:∀d∈ds,aT q1 d=aT q d):EU p q1 ms ds= !goodG p q ms ds o:=by
 cases hg:goodG p q ms ds o with
 |true=>
  show _=af;unfold EU;rw[hX];intro b hb;rw[ZG,hX];intro d hd z;obtain⟨z1,z2⟩:=cM _ _|>.mp z
  unfold UT at z2;rw[h1 b hb,h2 d hd]at z2;exact uV.mp hg d hd b hb z1 z2
 |false=>
  show _=ae;cases ha:EU p q1 ms ds with
  |true=>rfl
  |false=>
   have:goodG p q ms ds o=ae:=uV.mpr fun d hd b hb z1 z2=>by
    unfold EU at ha;have h3:=hX.mp ha b hb;rw[ZG,hX]at h3;refine h3 d hd ?_;unfold UT;rw[h1 b hb,h2 d hd,z1,z2];rfl
   rw[this]at hg;cases hg
inductive abF(K:aY)(CS CP:Addr)(vs:ao)(H:Hp)(Q:VK)(z':XK):Prop
 |mk (a r l m d:Addr) (p:aO) (q ms ds:List Nat) (_:vs=[.ref a,.ref r,.ref l,.ref m,.ref d]) (_:jz CS CP H a p) (_:um p) (_:yo H r p) (_:dw K H l (tx q)) (_:q.length=p.length) (_:dw K H m (tx ms)) (_:dw K H d (tx ds)) (_:(∀x∈ms,x<p.length)) (_:(∀x∈ds,x<p.length)) (_:Q (.bl (EU p q ms ds)) H)
inductive Ox(CS CP:Addr)(vs:ao)(H:Hp)(Q:VK)(z':XK):Prop
 |mk (a r l m d:Addr) (p:aO) (q ms ds:List Nat) (L:Nat) (H0:Hp) (_:vs=[.ref a,.ref r,.ref l,.ref m,.ref d]) (_:bH H0 H) (_:H0 l=ab) (_:jz CS CP H0 a p) (_:um p) (_:yo H0 r p) (_:H l=aa (.lst (tx q))) (_:q.length=p.length) (_:H m=aa (.lst (tx ms))) (_:m≠l) (_:H d=aa (.lst (tx ds))) (_:d≠l) (_:(∀x∈ds,x<p.length/\x∉ms)) (_:(∀x∈ms,x<p.length/\aU p x=L)) (_:ds.length<=24) (_:(∀x∈ds,aT q x+aU p x<=2000)) (_:∀(q':List Nat)(H':Hp),qG l H H'->H' l=aa (.lst (tx q'))->q'.length=p.length->(∀x,aT q' x=if x∈ms then lowG p q L ms ds else aT q x)->Q .j7 H')
theorem DS{f CS CP:Addr}{fd:bC}(F:iG K "is_in_the_way" "is_in_the_way" qw f fd)(Cm:Fn P w K mg base eM 2 "meet" OR (Ks CS CP fH))(Co:Fn P w K mg base eM 2 "overlap" ["program","plan","a","b"] (WI K CS CP UT)):
 dy P w K mg base eM 3 f fd UP (abF K CS CP):=by
 refine F.ok uG fun fz A outer s H vs Q E hr h=>?_
 obtain⟨a,r,l,m,d,p,q,ms,ds,rfl,pa,pw,rg,hq,ql,hm,hd,ml,dl,k⟩:=h
 have nd:=uG.nd
 refine⟨_,bh (fg bW rfl (fT (pv 3)) (o3 5 nd)
  (bj (fg bW rfl (fT (pv 4)) (o3 6 nd)
   (bj (d9 (xF (jy (dJ Cm hr (by rfl) (aQ (pv 0) (aQ (pv 1) (aQ (pv 5) (aQ (pv 6) bq)))))) (sZ (jy (dJ Co hr (by rfl) (aQ (pv 0) (aQ (pv 2) (aQ (pv 5) (aQ (pv 6) bq)))))))).pt (bj (cf zW)) cT)))))
  (bj (cf zW)),?_⟩
 refine⟨_,rfl,m,rfl,⟨_,hm⟩,f7 (K:=K) (a:=m) (xs:=tx ms) (fun i σ H'=>H'=H/\EU p q (ms.take i) ds=af/\∃v5 v6,σ=[aa (.ref a),aa (.ref r),aa (.ref l),aa (.ref m),aa (.ref d),v5,v6]) ⟨rfl,rfl,ab,ab,rfl⟩ (fun i σ H' _ ⟨e,_⟩=>by rw[e];exact hm) ?_ ?_⟩
 ·rintro i y σ H' hi ⟨rfl,no,v5,v6,rfl⟩
  obtain⟨b,hb,rfl⟩:=mO hi
  have bl:=ml b (br hb)
  refine⟨_,rfl,d,rfl,⟨_,hd⟩,f7 (K:=K) (a:=d) (xs:=tx ds) (fun j σ H2=>H2=H'/\((ds.take j).any fun x=>fH p b x&&UT p q b x)=af/\∃v6,σ=[aa (.ref a),aa (.ref r),aa (.ref l),aa (.ref m),aa (.ref d),aa (.int (b:Int)),v6]) ⟨rfl,rfl,v6,rfl⟩ (fun i σ H' _ ⟨e,_⟩=>by rw[e];exact hd) ?_ ?_⟩
  ·rintro j y σ H2 hj ⟨rfl,U1,v6,rfl⟩
   obtain⟨x,hx,rfl⟩:=mO hj
   have xl:=dl x (br hx)
   have found:(fH p b x&&UT p q b x)=ae->EU p q ms ds=ae:=fun z=>fj.mpr ⟨b,br hb,fj.mpr ⟨x,br hx,z⟩⟩
   refine⟨_,rfl,_,rfl,_,rfl,_,rfl,a,r,p,b,x,rfl,pa,pw,rg,bl,xl,_,rfl,?_⟩
   cases h1:fH p b x with
   |false=>
    refine cE (cE ⟨rfl,?_,_,rfl⟩)
    rw[take_snoc hx,yx,U1]
    simp[h1]
   |true=>
    refine dM ⟨_,rfl,_,rfl,_,rfl,_,rfl,a,l,p,q,b,x,rfl,pa,hq,ql,bl,xl,_,rfl,?_⟩
    cases h2:UT p q b x with
    |false=>
     refine cE ⟨rfl,?_,_,rfl⟩
     rw[take_snoc hx,yx,U1]
     simp[h1,h2]
    |true=>
     rw[found (by rw[h1,h2];rfl)]at k
     exact dM k
  rintro σ H2 ⟨rfl,U1,v6,rfl⟩
  rw[eA,dA]at U1
  refine⟨rfl,?_,_,_,rfl⟩
  unfold EU at no⊢
  rw[take_snoc hb,yx,no]
  simp[U1]
 rintro σ H' ⟨rfl,no,v5,v6,rfl⟩
 rw[eA,dA]at no
 rw[no]at k
 exact k
theorem HH{f CS CP:Addr}{fd:bC}(F:iG K "place_group" "place_group" tS f fd)(Cp:Fn P w K mg base eM 1 "possible_offsets" ["program","plan","placed"] (QY K CS CP))(Cc:Fn P w K mg base eM 3 "is_in_the_way" UP (abF K CS CP)):
 dy P w K mg base eM 4 f fd UP (Ox CS CP):=by
 refine F.ok xf fun fz A outer s H vs Q E hr h=>?_
 obtain⟨a,r,l,m,d,p,q,gs,ds,L,H0,rfl,s0,nl,pa,pw,rg,hq,ql,hm,mnl,hd,Vu,dl,gl,j8,hB,k⟩:=h
 have nd:=xf.nd
 refine⟨_,bh (jB 5 nd (dJ Cp (hr.mono (by decide)) (by rfl) (aQ (pv 0) (aQ (pv 2) (aQ (pv 4) bq)))))
  (bj (fg bW rfl (fT (pv 5)) (o3 6 nd)
   (bh (fg bW rfl (fT (pv 3)) (o3 7 nd) (bj (DJ (pv 6) (DK (pv 2) (pv 7) set_list))))
   (bj (d9 (ue (jy (dJ Cc hr (by rfl) (aQ (pv 0) (aQ (pv 1) (aQ (pv 2) (aQ (pv 3) (aQ (pv 4) bq)))))))) (bj Tf) cT))))),?_⟩
 refine⟨_,rfl,_,rfl,_,rfl,a,l,d,p,q,ds,rfl,pa.same s0,dw.of hq,ql,dw.of hd,fun x hx=>(dl x hx).1,j8,fun b ms H1 nb s1 hb so mem=>?_⟩
 have nbl:b≠l:=fun z=>by rw[z,hq]at nb;cases nb
 refine⟨_,rfl,b,rfl,⟨_,dw.of hb⟩,f7 (K:=K) (a:=b) (xs:=tx ms) (fun i σ H'=>Ex3 fun v6 v7 q'=>σ=[aa (.ref a),aa (.ref r),aa (.ref l),aa (.ref m),aa (.ref d),aa (.ref b),v6,v7]/\qG l H1 H'/\H' l=aa (.lst (tx q'))/\q'.length=p.length/\(∀x,x∉gs->aT q' x=aT q x)/\∀(j x:Nat),j<i->ms[j]?=aa x->goodG p q gs ds x=af)
  ⟨ab,ab,q,rfl,fun _ _ _ e=>e,s1 _ _ hq,ql,fun _ _=>rfl,fun j x hj=>by omega⟩ (fun i σ H' _ ⟨_,_,_,_,bt,_⟩=>dw.of (bt _ _ nbl hb)) ?_ ?_⟩
 ·rintro i y σ H' hi ⟨v6,v7,q',rfl,bt,hl,ql',sq,no⟩
  obtain⟨o,ho,rfl⟩:=mO hi
  have Mp:=bt _ _ mnl (s1 _ _ hm)
  refine⟨_,rfl,m,rfl,⟨_,dw.of Mp⟩,f7 (K:=K) (a:=m) (xs:=tx gs) (fun j σ H2=>Ue fun v7 q2=>σ=[aa (.ref a),aa (.ref r),aa (.ref l),aa (.ref m),aa (.ref d),aa (.ref b),aa (.int (o:Int)),v7]/\qG l H1 H2/\H2 l=aa (.lst (tx q2))/\q2.length=p.length/\∀x,aT q2 x=if x∈gs.take j then o else aT q' x)
   ⟨v7,q',rfl,bt,hl,ql',fun x=>by simp⟩ (fun i σ H' _ ⟨_,_,_,bt,_⟩=>dw.of (bt _ _ mnl (s1 _ _ hm))) ?_ ?_⟩
  ·rintro j y σ H2 hj ⟨v7,q2,rfl,Je,uw,ql2,sq2⟩
   obtain⟨c,hc,rfl⟩:=mO hj
   have cl:=(gl c (br hc)).1
   refine⟨_,rfl,_,rfl,_,rfl,l,_,_,c,rfl,rfl,uw,by rw[eA,ql2];exact yR cl,?_⟩
   rw[Lp]
   refine⟨_,q2.set c o,rfl,fun x u nx e=>by rw[bB nx];exact Je x u nx e,bf,by rw[fO,ql2],fun x=>?_⟩
   rw[yP (by omega),take_snoc hc,sq2 x]
   by_cases e:x=c
   ·rw[da e,da (dY _ (bU.mpr e))]
   rw[cQ e]
   by_cases e2:x∈gs.take j
   ·rw[da e2,da (fK _ e2)]
   rw[cQ e2,cQ (fun z=>(d7.mp z).elim e2 fun y=>e (bU.mp y))]
  rintro σ H2 ⟨v7,q2,rfl,Je,uw,ql2,sq2⟩
  rw[eA,dA]at sq2
  have s2:bH H0 H2:=fun x u e=>Je x u (bP e nl) (s1 _ _ (s0 _ _ e))
  have sqd:∀x,x∉gs->aT q2 x=aT q x:=fun x hx=>by rw[sq2 x,cQ hx];exact sq x hx
  refine⟨_,rfl,_,rfl,_,rfl,_,rfl,_,rfl,a,r,l,m,d,p,q2,gs,ds,rfl,pa.same s2,pw,rg.same s2,dw.of uw,ql2,dw.of (Je _ _ mnl (s1 _ _ hm)),dw.of (Je _ _ Vu (s1 _ _ hd)),fun x hx=>(gl x hx).1,fun x hx=>(dl x hx).1,_,rfl,?_⟩
  rw[Wj (q:=q) (o:=o) (fun x hx=>by rw[sq2 x,da hx]) fun x hx=>sqd x (dl x hx).2]
  cases hg:goodG p q gs ds o with
  |true=>
   refine dM (k q2 _ (fun x u nx e=>Je x u nx (s1 _ _ e)) uw ql2 fun x=>?_)
   rw[aat (fun x hx=>(gl x hx).2) hB (by decide) so mem ho hg no]
   by_cases e:x∈gs
   ·rw[sq2 x,da e,da e]
   rw[cQ e]
   exact sqd x e
  |false=>
   refine cE ⟨_,_,q2,rfl,Je,uw,ql2,sqd,fun j x hj hx=>?_⟩
   by_cases e:j=i
   ·subst e
    rw[ho]at hx
    cases hx
    exact hg
   exact no j x (by omega) hx
 rintro σ H' ⟨v6,v7,q',rfl,bt,hl,ql',sq,no⟩
 exfalso
 obtain⟨o,om,og⟩:=aau (gs:=gs) hB mem
 obtain⟨j,hj⟩:=cz om
 rw[no j o (by rw[eA];exact(aZ.mp hj).1) hj]at og
 cases og
theorem yo.BB{H H':Hp}{r:Addr}{p:aO}(h:yo H r p)(s:iT H H'):yo H' r p:=
 let⟨ts,e,f⟩:=h
 ⟨ts,s _ _ e (fun _ z=>by cases z),fun i hi=>let⟨t,a,b⟩:=f i hi;⟨t,a,s _ _ b fun _ z=>by cases z⟩⟩
def Qb(p:aO)(q:List Nat)(i:Nat)(ds:List Nat):Prop:=ds.Nodup/\∀x,x∈ds↔∃h∈(eJ p q).take i,r9 p q h x
theorem EW(p:aO)(q:List Nat):(eJ p q).Nodup:=(B2 p q).2.imp fun{a b} h e=>by
 subst e;unfold B4 at h;omega
theorem uT{p:aO}{q:List Nat}{h:Nat}(hh:h∈eJ p q):h<p.length/\uk p q h=ae:=by
 have:=(B2 p q).1.mem_iff.mp hh;unfold KY at this;exact⟨cn.mp (cI.mp this).1,(cI.mp this).2⟩
theorem Vd(p:aO)(q:List Nat):(eJ p q).length<=p.length:=by
 have:=uN (m:=bw p.length) (EW p q) fun x hx=>cn.mpr (uT hx).1;rw[b8]at this;exact this
theorem Yc{p:aO}{q:List Nat}{h h' x:Nat}(a:h∈eJ p q)(b:h'∈eJ p q)(r:r9 p q h x)(r':r9 p q h' x):h=h':=by
 obtain⟨a1,a2⟩:=uT a;obtain⟨b1,b2⟩:=uT b;have c1:=(vQ a1).mp a2 h' (r.trans (r'.symm b1));have c2:=(vQ b1).mp b2 h (r'.trans (r.symm a1));omega
theorem KI{p:aO}{q ds:List Nat}{i h x:Nat}(g:Qb p q i ds)(hi:(eJ p q)[i]?=aa h)(r:r9 p q h x):x∉ds:=fun z=>by
 obtain⟨h',hm,r'⟩:=(g.2 x).mp z;have e:=Yc (br hi) (Aj hm) r r';subst e;obtain⟨j,hj⟩:=cz hm;have jl:=(aZ.mp hj).1;rw[dX]at jl;rw[nI (by omega)]at hj;obtain⟨l1,e1⟩:=aZ.mp hj;obtain⟨l2,e2⟩:=aZ.mp hi;have:=(Gz (EW p q)).mp (e1.trans e2.symm);omega
theorem Yh{p:aO}{q ds m:List Nat}{i h:Nat}(g:Qb p q i ds)(hi:(eJ p q)[i]?=aa h)(gm:yr p q h m):Qb p q (i+1) (ds++m):=by
 refine⟨?_,fun x=>?_⟩
 ·rw[vb];exact⟨g.1,gm.1,fun x hx y hy e=>KI g hi ((gm.2.2 y).mp hy) (e▸hx)⟩
 rw[d7,g.2 x,gm.2.2 x,take_snoc hi];constructor
 ·rintro(⟨h',hm,z⟩|z)
  ·exact⟨h',fK _ hm,z⟩
  exact⟨h,dY _ (bU.mpr rfl),z⟩
 rintro⟨h',hm,z⟩;rcases d7.mp hm with y|y
 ·exact .inl ⟨h',y,z⟩
 rw[bU.mp y]at z;exact .inr z
def IP(q1 ds:List Nat)(dn:List (Nat×Nat)):Prop:=∀x o,(x,o)∈dn↔x∈ds/\o=aT q1 x
theorem Vj{p:aO}{q q1 ds m:List Nat}{h:Nat}{dn:List (Nat×Nat)}(hl:h<p.length)(gm:yr p q h m)(dd:IP q1 ds dn):
 (fun o=>dn.all fun x=>(gU p q h).all fun b=>!(fH p b x.1&&iJ o (aU p b) x.2 (aU p x.1)))=goodG p q1 m ds:=by
 funext o
 rw[eN]
 unfold goodG
 simp only[cY]
 constructor
 ·intro z d hd b hb
  exact z (d,aT q1 d) ((dd _ _).mpr ⟨hd,rfl⟩) b ((kL hl b).mpr ((gm.2.2 b).mp hb))
 rintro z ⟨d,t⟩ hd b hb
 obtain⟨h1,rfl⟩:=(dd d t).mp hd
 exact z d h1 b ((gm.2.2 b).mpr ((kL hl b).mp hb))
theorem Vt{p:aO}{q q1 q2 ds m:List Nat}{h o:Nat}{dn:List (Nat×Nat)}(hl:h<p.length)(gm:yr p q h m)(dis:∀x∈ds,x∉m)(dd:IP q1 ds dn)(h2:∀x,aT q2 x=if x∈m then o else aT q1 x):
 IP q2 (ds++m) (dn++(gU p q h).map fun b=>(b,o)):=fun x t=>by
 rw[d7,d7,dd x t,h2 x,di]
 constructor
 ·rintro(⟨a,e⟩|⟨b,hb,e⟩)
  ·exact⟨.inl a,by rw[cQ (dis x a)];exact e⟩
  cases e
  have:x∈m:=(gm.2.2 x).mpr ((kL hl x).mp hb)
  exact⟨.inr this,by rw[da this]⟩
 rintro⟨a|a,e⟩
 ·rw[cQ (dis x a)]at e
  exact .inl ⟨a,e⟩
 rw[da a]at e
 exact .inr ⟨x,(kL hl x).mpr ((gm.2.2 x).mp a),by rw[e]⟩
theorem Q6{p:aO}{q1 ds:List Nat}{dn:List (Nat×Nat)}(ql:q1.length=p.length)(all:∀a,a<p.length->a∈ds)(dd:IP q1 ds dn):iB p dn=q1:=by
 unfold iB;refine jt (by simp[ql]) fun i h1 h2=>?_;simp only[l7,nX];have zY:(i,aT q1 i)∈dn:=(dd _ _).mpr ⟨all i (by omega),rfl⟩;cases hf:dn.find? fun x=>x.1==i with
 |none=>
  have:=kM.mp hf _ zY;simp at this
 |some y=>
  obtain⟨a,o⟩:=y;have ea:a=i:=by simpa using yw hf
  subst ea;obtain⟨_,e⟩:=(dd a o).mp (mB hf);show o=_;rw[e];unfold aT;simp[h2]
theorem aaG{p:aO}{q ds:List Nat}(g:Qb p q (eJ p q).length ds):∀a,a<p.length->a∈ds:=fun a ha=>by
 obtain⟨m,rm,hm,_⟩:=least (q:=q) ha;have ml:=r9.lt ha rm;refine(g.2 a).mpr ⟨m,?_,rm.symm ha⟩;rw[dA];refine(B2 p q).1.mem_iff.mpr (cI.mpr ⟨cn.mpr ml,hm⟩)
inductive Oz(K:aY)(CS CP T:Addr)(vs:ao)(H:Hp)(Q:VK)(z':XK):Prop
 |mk (a l:Addr) (p:aO) (q:List Nat) (_:vs=[.ref a,.ref l]) (_:jz CS CP H a p) (_:um p) (_:dw K H l (tx q)) (_:q.length=p.length) (_:iZ H T yQ KO) (_:∀(g:Addr)(H':Hp),H g=ab->IQ T H H'->iZ H' T yQ KO->H' g=aa (.lst (tx (kX p q)))->Q (.ref g) H')
theorem HI{f T CS CP:Addr}{fd:bC}(F:iG K "packed_plan" "packed_plan" tT f fd)(hl:mg "len"=ab)(Cl:Fn P w K mg base eM 3 "live_ranges" jV (Br CS CP))(Cg:Fn P w K mg base eM 5 "groups_in_order" ["program","ranges","plan"] (WO K CS CP T))(Cp:Fn P w K mg base eM 4 "place_group" UP (Ox CS CP)):
 dy P w K mg base eM 6 f fd xH (Oz K CS CP T):=by
 refine F.ok xg fun fz A outer s H vs Q E hr h=>?_
 obtain⟨a,l,p,q,rfl,pa,pw,hq,ql,tab,k⟩:=h
 have fw:=pw.j8
 have nd:=xg.nd
 refine⟨_,bh (jB 2 nd (dJ Cl (hr.mono (by decide)) (by rfl) (aQ (pv 0) bq)))
  (bh (jB 3 nd (fZ Rb (eB (aQ cG bq)) (dD cJ (by rfl) hl cx (aQ (pv 1) bq))))
  (bh (jB 4 nd (eB bq))
  (bh (fg bW rfl (fT (dJ Cg hr (by rfl) (aQ (pv 0) (aQ (pv 2) (aQ (pv 1) bq))))) (o3 5 nd)
   (bh (dN (dJ Cp (hr.mono (by decide)) (by rfl) (aQ (pv 0) (aQ (pv 2) (aQ (pv 3) (aQ (pv 5) (aQ (pv 4) bq)))))))
   (bj (dN (mq cj gu gd pF (pv 4) (aQ (pv 5) bq))))))
  (bj (cf (pv 3)))))),?_⟩
 refine⟨_,rfl,a,p,rfl,pa,pw,fun r H1 s1 rg=>?_⟩
 have el:((tx q).length:Int)=(p.length:Int):=by rw[eA,ql]
 refine⟨by show 1<=bz;decide,fun x hx=>⟨_,rfl,l,_,rfl,.inl ((s1.trans (bH.new hx)).seq hq),x,_,_,rfl,rfl,bf,(by rw[el];omega),(by rw[el];omega),(by rw[el,bZ];show 1*_<=_;omega),fun lp hlp=>?_⟩⟩
 generalize hHa:upd H1 x (.lst [V.int 0])=Ha at hlp
 have s1a:bH H1 Ha:=by rw[<-hHa];exact bH.new hx
 have sa:bH H Ha:=s1.trans s1a
 have er:(cA ((tx q).length:Int).toNat [V.int 0]).flatten=tx (cA p.length 0):=by
  rw[el];exact OL _
 rw[er]
 refine⟨by show 0<=bz;decide,fun d hd=>?_⟩
 have sl:bH Ha (upd Ha lp (.lst (tx (cA p.length 0)))):=bH.new hlp
 have Vu:d≠lp:=fun z=>by rw[z,bf]at hd;cases hd
 have hdA:Ha d=ab:=sl.free hd
 have sb:bH Ha (upd (upd Ha lp (.lst (tx (cA p.length 0)))) d (.lst [])):=sl.trans (bH.new hd)
 generalize hHb:upd (upd Ha lp (.lst (tx (cA p.length 0)))) d (.lst [])=Hb at sb
 have blp:Hb lp=aa (.lst (tx (cA p.length 0))):=by rw[<-hHb,bB Vu.symm,bf]
 have bd0:Hb d=aa (.lst []):=by rw[<-hHb,bf]
 have sHb:=sa.trans sb
 refine⟨_,rfl,_,rfl,_,rfl,a,r,l,p,q,rfl,pa.same sHb,pw,rg.same (s1a.trans sb),sHb.seq hq,ql,tab.same sHb,fun g gs H3 ng bt Og hg pr=>?_⟩
 have aam:∀{b:Addr}{us:ao},Hb b=aa (.lst us)->b≠T:=fun{b us} e z=>by
  obtain⟨ps,eT,_⟩:=tab.same sHb;rw[z,eT]at e;cases e
 have lp3:H3 lp=aa (.lst (tx (cA p.length 0))):=bt _ _ (aam blp) blp
 have d3:H3 d=aa (.lst []):=bt _ _ (aam bd0) bd0
 let H0:Hp:=fun b=>if b=lp\/b=d then ab else H3 b
 have h0:∀{b:Addr}{o:HO},H3 b=aa o->b≠lp->b≠d->H0 b=aa o:=fun{b o} e n1 n2=>by
  show(if b=lp\/b=d then ab else H3 b)=_;rw[cQ (fun z=>z.elim n1 n2)];exact e
 have h0s:bH H0 H3:=fun b o e=>by
  by_cases z:b=lp\/b=d
  ·rw[show H0 b=ab from da z]at e;cases e
  rw[show H0 b=H3 b from cQ z]at e;exact e
 have nlp:H0 lp=ab:=da (.inl rfl)
 have nd0:H0 d=ab:=da (.inr rfl)
 have bN:iT Hb H3:=iT.ofT (let⟨ps,e,_,_⟩:=tab.same sHb;⟨ps,e⟩) bt
 have aN:iT Ha H0:=fun b o e n=>h0 (bN b o (sb _ _ e) n) (bP e hlp) (bP e hdA)
 have pa0:jz CS CP H0 a p:=(pa.same sa).BB aN
 have rg0:yo H0 r p:=(rg.same s1a).BB aN
 have g0:H0 g=aa (.lst (gs.map V.ref)):=h0 hg (fun z=>by rw[z,blp]at ng;cases ng) (fun z=>by rw[z,bd0]at ng;cases ng)
 have pr0:fM (fun b h=>∃m,H0 b=aa (.lst (tx m))/\yr p q h m) gs (eJ p q):=Paired.sI pr fun b h ⟨nb,m,hm,gm⟩=>⟨m,h0 hm (fun z=>by rw[z,blp]at nb;cases nb) (fun z=>by rw[z,bd0]at nb;cases nb),gm⟩
 have ail:iZ H0 T yQ KO:=by
  obtain⟨ps,e1,e2,e3⟩:=Og;refine⟨ps,h0 e1 (lE e1 lp3 (by intro z;cases z)) (lE e1 d3 (by intro z;cases z)),e2,e3.imp id fun⟨c,z1,z2⟩=>⟨c,z1,h0 z2 (lE z2 lp3 (by intro z;cases z)) (lE z2 d3 (by intro z;cases z))⟩⟩
 have hlen:=Vd p q
 have gsl:gs.length=(eJ p q).length:=dO pr0
 refine⟨g,rfl,⟨_,dw.of hg⟩,f7 (K:=K) (a:=g) (xs:=gs.map V.ref) (fun i σ H'=>Ex4 fun v5 q1 ds dn=>σ=[aa (.ref a),aa (.ref l),aa (.ref r),aa (.ref lp),aa (.ref d),v5]/\bH H0 H'/\H' lp=aa (.lst (tx q1))/\q1.length=p.length/\H' d=aa (.lst (tx ds))/\Qb p q i ds/\IP q1 ds dn/\Jg p q (eJ p q) []=Jg p q ((eJ p q).drop i) dn/\∀y∈ds,aT q1 y+aU p y<=64*i) ?_ ?_ ?_ ?_⟩
 ·exact⟨ab,cA p.length 0,[],[],rfl,h0s,lp3,iu,d3,⟨Li,fun x=>⟨fun z=>(by cases z),fun⟨h,hh,_⟩=>(by simp at hh)⟩⟩,fun x o=>⟨fun z=>(by cases z),fun z=>(by cases z.1)⟩,rfl,fun y hy=>by cases hy⟩
 ·rintro i σ H' _ ⟨v5,q1,ds,dn,_,sm,_⟩
  exact dw.of (sm _ _ g0)
 ·rintro i y σ H' hi ⟨v5,q1,ds,dn,rfl,sm,hlq,q1l,hdq,got,dd,pl,bd⟩
  obtain⟨b,hb,rfl⟩:∃b,gs[i]?=aa b/\y=V.ref b:=by
   rw[bL]at hi;cases hb:gs[i]? with
   |none=>rw[hb]at hi;cases hi
   |some b=>rw[hb]at hi;exact⟨b,rfl,(bT hi).symm⟩
  obtain⟨h,hh,m,hm,gm⟩:=lD pr0 hb
  obtain⟨NQ,hh2⟩:=uT (br hh)
  have il:=(aZ.mp hh).1
  have ml:∀x∈m,x<p.length:=fun x hx=>r9.lt NQ ((gm.2.2 x).mp hx)
  have XM:=T3 NQ gm
  have dsl:∀x∈ds,x<p.length:=fun x hx=>by
   obtain⟨h',Mp,r'⟩:=(got.2 x).mp hx;exact r9.lt (uT (Aj Mp)).1 r'
  have apr:ds.length<=p.length:=by
   have:=uN (m:=bw p.length) got.1 fun x hx=>cn.mpr (dsl x hx);rw[b8]at this;exact this
  have dis:∀x∈ds,x∉m:=fun x hx hxm=>KI got hh ((gm.2.2 x).mp hxm) hx
  have bnl:b≠lp:=bP hm nlp
  have bnd:b≠d:=bP hm nd0
  refine⟨_,rfl,_,rfl,_,rfl,_,rfl,_,rfl,a,r,lp,b,d,p,q1,m,ds,aU p h,H0,rfl,sm,nlp,pa0,pw,rg0,hlq,q1l,sm _ _ hm,bnl,hdq,Vu,fun x hx=>⟨dsl x hx,dis x hx⟩,fun x hx=>⟨ml x hx,r9.len ((gm.2.2 x).mp hx)⟩,by omega,fun x hx=>by have:=bd x hx;omega,fun q2 H2 Je uw q2l sq=>?_⟩
  have hd2:=Je _ _ Vu hdq
  have Ip:=Je _ _ bnl (sm _ _ hm)
  have lw:lowG p q1 (aU p h) m ds<=64*i:=aas bd (by omega)
  refine⟨_,rfl,.inl ⟨rfl,_,dw.of hd2⟩,_,rfl,d,b,_,_,rfl,rfl,hd2,Ip,by rw[eA,eA,bZ];omega,?_⟩
  refine⟨_,q2,ds++m,dn++(gU p q h).map fun b=>(b,lowG p q1 (aU p h) m ds),rfl,fun c u e=>?_,by rw[bB Vu.symm];exact uw,q2l,?_,Yh got hh gm,Vt NQ gm dis dd sq,?_,?_⟩
  ·rw[bB (bP e nd0)]
   exact Je c u (bP e nlp) (sm c u e)
  ·rw[bf]
   unfold tx
   rw[cg]
  ·rw[pl,d5 il,(aZ.mp hh).2]
   show Jg p q _ (dn++(gU p q h).map fun b=>(b,if aU p h=0 then 0 else kZ (fun o=>dn.all fun x=>(gU p q h).all fun b=>!(fH p b x.1&&iJ o (aU p b) x.2 (aU p x.1))) lV 0))=_
   rw[Vj NQ gm dd]
   rfl
  intro y hy
  rw[sq y]
  have ly:∀c,c<p.length->aU p c<=64:=fun c hc=>by
   obtain⟨sx,ex⟩:=uW hc;rw[iR ex];exact pw.len sx (br ex)
  by_cases e:y∈m
  ·rw[da e]
   have:=ly y (ml y e)
   omega
  rw[cQ e]
  have:=bd y ((d7.mp hy).resolve_right e)
  omega
 rintro σ H' ⟨v5,q1,ds,dn,rfl,sm,hlq,q1l,hdq,got,dd,pl,bd⟩
 rw[aV,gsl]at got pl
 rw[GB]at pl
 refine⟨_,rfl,k lp H' (sa.free hlp) (fun b o nb e=>sm _ _ (h0 (bt b o nb (sHb _ _ e)) (bP (sa _ _ e) hlp) (bP (sa _ _ e) hdA))) (ail.same sm) ?_⟩
 rw[hlq]
 unfold kX
 rw[pl]
 show aa (HO.lst (tx q1))=aa (HO.lst (tx (iB p dn)))
 rw[Q6 q1l (aaG got) dd]
end SR
end
section
namespace XL
open PySem PySem.Spec PyProof.Rows L2
open AutoSeq1 (wpAny_loadPart')
abbrev qT(t:Nat):List (Str×aX):=[("start",.int 1 t)]
theorem tcK(a:aX)(t:Nat):checkTypeCall "enumerate" {pos:=[a],kw:=qT t}=pure ():=by kernel_rfl
theorem ncK(a:aX)(t:Nat):zD "enumerate.__new__" {pos:=[.type "enumerate",a],kw:=qT t}=pure ():=by kernel_rfl
theorem aiK(o a:aX)(t:Nat):Y8 "object.__init__" {pos:=[o,a],kw:=qT t}:=by
 unfold Y8;kernel_rfl
theorem ajb(l:Addr)(items:Array aX)(n t:Nat)(dct:Option Addr)(sl:Array (Option aX)):
 Meets (Builtin.«enumerate.__new__» {pos:=[.type "enumerate",.ref l],kw:=qT t}) (fun _ R s=>s.heap.get? l=aa {cls:=.type "list",dict:=dct,data:=.seq items n,slots:=sl}/\
  R (.ok (.ret (.ref (s.heap.push {cls:=.type "list_iterator",data:=.fields #[.ref l,.int 0 0]}).objs.size)))
   {s with heap:=(s.heap.push {cls:=.type "list_iterator",data:=.fields #[.ref l,.int 0 0]}).push {cls:=.type "enumerate",data:=.fields #[.none,.bool af,.ref s.heap.objs.size,j6 1,.none,.none]}}):=
 .of_wp fun P1 w1 A1 R s ⟨hl,h⟩=>by
  obtain⟨hp,g,d,tk,os⟩:=s;have adW:=sub_enumerate;have hL:Heap.IsList (Shared.heap ⟨hp,g,d,tk,os⟩) l items:=⟨_,hl,rfl,n,rfl⟩;wp_walk using uo hl;refine wpAny_stack_any fun st=>bg ?_;split
  ·rename_i c _ _ _ _ _;cases(c==iV "enumerate")<;>(wp_walk using uo hl,wU hL;exact⟨_,rfl,h⟩)
  wp_walk using uo hl,wU hL;exact⟨_,rfl,h⟩
end XL
end
section
namespace XL
open PySem PySem.Spec PyProof.Rows L2
open Sem (wp)
theorem initK{self a:aX}{t:Nat}:Meets (Builtin.«object.__init__» {pos:=[self,a],kw:=qT t}) (fun _ R s=>s.TypeIs self "enumerate"/\R (.ok (.ret .none)) s):=by
 have hl:=FX.init.lookup;have hm:=FX.made;have Il:(aa "enumerate.__new__" != aa "object.__new__")=ae:=by decide
 refine Meets.of_wp fun P1 w1 A1 R s hs=>?_;obtain⟨hT,hq⟩:=hs;repeat (any_goals (first|assumption|wp_step))
 exact⟨_,rfl,hq⟩
section
variable{P:bY}{w:cX}{A:cZ}{E:ar}{s:a9}
theorem wtK(a:aX)(t:Nat):(Code.builtin "type.__call__" {pos:=[.type "enumerate",a],kw:=qT t}).weight=0:=rfl
theorem unK(a:aX)(t:Nat):(Code.builtin "type.__call__" {pos:=[.type "enumerate",a],kw:=qT t}).cUnits=1:=rfl
theorem ag5{l:Addr}{items:Array aX}{t:Nat}{Q:ar}(hL:s.heap.IsList l items)
 (h:∀h',IsEnum h' (s.heap.objs.size+1) s.heap.objs.size 1 .none->h'.IsListIter s.heap.objs.size l 0->(∀b o,s.heap.get? b=aa o->h'.get? b=aa o)->Q (.ref (s.heap.objs.size+1)) {s with heap:=h'}):
 bM (bK P w) A (call (.type "enumerate") [.ref l] (qT t)) Q E s:=by
 obtain⟨⟨c,dct,dt,sl⟩,hl,hc,n,hd⟩:=hL
 replace hc:c=.type "list":=hc
 replace hd:dt=.seq items n:=hd
 subst hc hd
 have ft:=FX
 obtain⟨c,tl,ajN⟩:=ft.mro
 have agI:=ft.made
 have adW:=ft.sub
 have hct:=tcK (.ref l) t
 refine m8 (Bi ?_)
 show bM _ _ (callAny (.type "enumerate") _) _ _ _
 refine bg ⟨tK _ (by decide+kernel),je F.entry_type_call ?_⟩
 rw[Us (wtK (.ref l) t) (unK (.ref l) t)]
 have h1:=ft.notType
 have h2:=ft.canCreate
 repeat (any_goals (first|assumption|wp_step))
 have hz:(s.heap.push {cls:=.type "list_iterator",data:=.fields #[.ref l,.int 0 0]}).objs.size=s.heap.objs.size+1:=dB ..
 let h9:Heap:=(s.heap.push {cls:=.type "list_iterator",data:=.fields #[.ref l,.int 0 0]}).push {cls:=.type "enumerate",data:=.fields #[.none,.bool af,.ref s.heap.objs.size,j6 1,.none,.none]}
 have he:IsEnum h9 (s.heap.objs.size+1) s.heap.objs.size 1 .none:=by
  have:=bI (s.heap.push {cls:=.type "list_iterator",data:=.fields #[.ref l,.int 0 0]})
   (o:={cls:=.type "enumerate",data:=.fields #[.none,.bool af,.ref s.heap.objs.size,j6 1,.none,.none]}) rfl
  rw[hz]at this;exact this
 have fin:=h h9 he ⟨_,ba _ (bI _ rfl),rfl,rfl⟩ fun b o y=>ba _ (ba _ y)
 refine iU (kb ft.plain F.entry_enumerate_new (wpAny_of_eq (ncK (.ref l) t) (ajb l items n t dct sl P w A.in1 (wants (fun obj s₁=>obj=.ref (s.heap.objs.size+1)/\s₁={s with heap:=h9}) E) s ⟨hl,by rw[hz];exact⟨rfl,rfl⟩⟩))) fun r s₁ hr=>?_
 cases r with
 |error e=>exact hr
 |ok fl=>
  cases fl with
  |ret obj=>
   obtain⟨rfl,rfl⟩:=hr
   have hT:Shared.TypeIs {s with heap:=h9} (.ref (s.heap.objs.size+1)) "enumerate":=⟨_,he,rfl⟩
   have NP:=ft.init.lookup
   have hbi:=ft.init.bind (.ref (s.heap.objs.size+1))
   repeat (any_goals (first|assumption|wp_step))
   refine iU (kb ft.init.plain F.entry_object_init (ft.init.check _ _ _ _ _ _ _ _ hT (aiK _ _ _) (initK P w A.in1 (wants (fun r s₂=>r=.none/\Q (.ref (s.heap.objs.size+1)) s₂) E) _ ⟨hT,rfl,fin⟩))) fun r₂ s₂ hr₂=>?_
   cases r₂ with
   |error e=>exact hr₂
   |ok fl₂=>
    cases fl₂ with
    |ret r=>
     obtain⟨rfl,hq⟩:=hr₂
     repeat (any_goals (first|assumption|wp_step))
    |_=>exact hr₂.elim
  |_=>exact hr.elim
end
end XL
end
section
namespace XL
open PySem PySem.Spec PyProof.Rows L2
def YW(K:aY)(a:Addr):It:=
 {go:=fun i H=>∃(xs:ao)(x:V),dw K H a xs/\xs[i]?=aa x
  Wh:=fun i H v H'=>∃T x,v=.ref T/\H T=ab/\H'=upd H T (.tup [.int ((i+1:Nat):Int),x])/\∀xs,dw K H a xs->xs[i]?=aa x
  stop:=fun i H=>∃xs:ao,dw K H a xs/\xs.length<=i}
theorem aew{P:bY}{w:cX}{A:cZ}(hh:A.handled=ab)(it l:Addr)(Il:l≠it)(items:Array aX):
 Draws P w A it [it,l] (items.size+1) (fun i v=>∃j,i=j+1/\items[j]?=aa v) (fun i h=>∃j,i=j+1/\h.IsListIter it l j/\h.IsList l items) where
 live:=fun i h ⟨j,_,z⟩=>(Kd (prog:=P) (w:=w) hh it l Il items).live j h z
 frame:=fun i h h' ⟨j,e,z⟩ k=>⟨j,e,(Kd (prog:=P) (w:=w) hh it l Il items).frame j h h' z k⟩
 item:=fun i s Q E hi ⟨j,e,z⟩ k=>(Kd (prog:=P) (w:=w) hh it l Il items).item j s Q E (by omega) z fun x h' tk p y sb=>k x h' tk ⟨j,e,p⟩ ⟨j+1,by omega,y⟩ sb
 done:=fun s Q E ⟨j,e,z⟩ k=>(Kd (prog:=P) (w:=w) hh it l Il items).done s Q E ((show j=items.size by omega)▸z) k
theorem QJ{P:bY}{w:cX}{K:aY}{elts:List Expr}{kk:Nat}{GG:Pos}(a e it:Addr):
 Turn P w K (.Tuple elts kk GG) (YW K a) [e,it] e (fun i h=>(∃old,IsEnum h e it ((i+1:Nat):Int) old)/\h.IsListIter it a i/\e≠it) where
 mem:=by simp
 obj:=fun i h sT b hb=>by
  obtain⟨⟨old,he⟩,⟨o,ho,hc,hd⟩,_⟩:=sT;rcases(by simpa using hb:b=e\/b=it)with z|z
  ·subst z;exact⟨_,he,fun v q=>nomatch q⟩
  subst z;exact⟨o,ho,fun v q=>by rw[hd]at q;cases q⟩
 keep:=fun i h h' sT k=>let⟨⟨old,he⟩,hi,Il⟩:=sT;⟨⟨old,k e (by simp) _ he⟩,hi.at fun o q=>k it (by simp) o q,Il⟩
 item:=by
  intro X hP hw hK hc i pins s σ H E I hf sT hg;subst hP hw hK;obtain⟨⟨old,he⟩,hit,Il⟩:=sT;obtain⟨xs,x,hq,hx⟩:=hg;obtain⟨its,rv,p,hz⟩:=I.list hq;obtain⟨u,hu,ru⟩:=rv.get hx;have hel:e<s.heap.objs.size:=bG he;have hil:it<s.heap.objs.size:=by obtain⟨_,q,_⟩:=hit;exact bG q
  have zy:i<its.toArray.size:=by
   have:=(aZ.mp hu).1;simpa using this
  have nla:a≠it:=fun z=>by
   obtain⟨o,h1,h2,_⟩:=hit;obtain⟨o',h3,h4,_⟩:=p.isList;rw[z,h1]at h3;cases h3;rw[h2]at h4;injection h4 with h4
   exact absurd h4 (by decide)
  have nea:e≠a:=fun z=>by
   obtain⟨o',h3,h4,_⟩:=p.isList;rw[<-z,he]at h3;cases h3;injection h4 with h4
   exact absurd h4 (by decide)
  refine wpAny_pyNext_enum_itemD (i:=i+1) (aew (A:=X.A.in1) (I.ok.hd hc) it a nla its.toArray) he ⟨i,rfl,hit,p.isList⟩ (by omega) Il (by simp[Il,nea]) fun x2 h' tk ⟨j,ej,hj⟩ ho ⟨j2,ej2,ad7,_⟩ hT hsz hk=>?_;have ej:j=i:=by omega
  have ej2:j2=i+1:=by omega
  subst ej ej2
  have ex:x2=u:=by
   have:its[j]?=aa x2:=by simpa using hj
   rw[hu]at this;exact(bT this).symm
  subst ex;refine⟨_,rfl,Sm (s:={s with heap:=h',toks:=tk+1}) ho fun h'' he' sb=>?_⟩;have hT2:=(sb.2 _ (dm hel)).trans hT
  have new:jc X.prog X.w (upd H s.heap.objs.size (.tup [.int ((j+1:Nat):Int),x])) h'' s.heap.objs.size (.tup [.int ((j+1:Nat):Int),x]):=
   ⟨by show 2<=bz;decide,[.int ((j+1:Nat):Int) tk,x2],.cons ⟨_,rfl⟩ (.cons ru .nil),⟨_,hT2,rfl,_,rfl⟩⟩
  have I1:=I.Ki (t':=tk+1) (ch:=[e,it]) (fun b ob hb q=>(sb.2 b (fun z=>hb (by simp[z]))).trans (hk b ob (fun z=>hb (by simp[z])) (fun z=>hb (by simp[z])) q)) hf (bu _) new;refine⟨.ref s.heap.objs.size,_,I1,rfl,⟨_,x,rfl,I.gx.fresh (bu _),rfl,fun ys hy=>by rw[I.HX hy hq];exact hx⟩,⟨⟨x2,?_⟩,ad7.at fun o q=>(sb.2 it (dh Il)).trans q,Il⟩,fun b hb=>?_⟩
  ·have e1:((j+1+1:Nat):Int)=((j+1:Nat):Int)+1:=by omega
   rw[e1];exact he'
  have Po:b<s.heap.objs.size:=by
   rcases(by simpa using hb:b=e\/b=it)with z|z
   ·subst z;exact hel
   subst z;exact hil
  rw[bB (ck Po)];exact(hf b hb).1
 done:=by
  intro X hP hw hK hc i pins s σ H E I hf sT hg;subst hP hw hK;obtain⟨⟨old,he⟩,hit,Il⟩:=sT;obtain⟨xs,hq,hx⟩:=hg;obtain⟨its,rv,p,hz⟩:=I.list hq;obtain⟨f0,f1,f2,f3,f4,f5⟩:=hf it (by simp);have hl:=rv.length
  have nla:a≠it:=fun z=>by
   obtain⟨o,h1,h2,_⟩:=hit;obtain⟨o',h3,h4,_⟩:=p.isList;rw[z,h1]at h3;cases h3;rw[h2]at h4;injection h4 with h4
   exact absurd h4 (by decide)
  have hT:s.TypeIs (.ref e) "enumerate":=⟨_,he,rfl⟩;unfold qH;refine aP (oP (kU (name:=jf "__next__") hT Wd (jF Wd hT F.entry_enumerate_next ?_ (F.args_enumerate_next_1 _))));show bM _ _ (field (.ref e) 2>>=_) _ _ _;refine aP (gY he rfl (x:=.ref it) rfl (aP (Zv (I.ok.hd hc) hit p.isList (by simp;omega) fun h' x eb ⟨o,ho,JM⟩=>?_)));refine aP (sd (T:="StopIteration") (b:=ae) ⟨o,ho,JM⟩ Ew ?_);exact bg ⟨rfl,I.turned (t':=s.toks) (fun b o hb q=>eb b o hb q) f0 f1 f3 f4 f5⟩
 self:=fun A i s Q E sT h=>let⟨⟨_,he⟩,_⟩:=sT;wV he h
section
variable{M:Gx}{A:cZ}{E:ar}{s:a9}{env:Env}
theorem Nb{pos:Pos}{T:String}{args:List (Bool×Sem aX)}{kws:List (Option Str×Sem aX)}{Q:ar}(h1:args.any (·.1)=af)(h2:kws.any (·.1.isNone)=af)
 (h:bM M A (evalArgs (.type T) ae args kws) (fun a s₁=>bM M A (call (.type T) ([]++a.pos) a.kw) Q E s₁) E s):bM M A (sS pos (.type T) [] args kws) Q E s:=by
 unfold sS
 refine aP (d8 (eE h (fun a s₁ hA=>aP (lU ?_)) fun _ _ x=>x))
 simp only[h1,h2,lg]
 refine aP (bg ?_)
 exact aP (eE hA (fun r s₂ hr=>aP (d8 (wpAny_point (bg hr)))) fun _ _ x=>x)
end
inductive aaz(K:aY)(R:L2.It->Hp->Prop)(v:V)(H1:Hp):Prop
 |mk (a:_) (xs:_) (_:v=.ref a) (_:dw K H1 a xs) (_:R (YW K a) H1)
def adV(K:aY)(te:TE):TI:=fun σ H R=>te σ H fun v H1=>aaz K R v H1
theorem Xh{X:Cx}{e:Expr}{te:TE}{p pos GG U5 p1:Pos}{elts:List Expr}{kk j1:Nat}(hg:Gl X "enumerate")(hm:X.mg "enumerate"=ab)(he:PE X e te)(hs:bX [e] X.env=(af,eval e X.env)::bX [] X.env:=by rfl):
 PI X (.Tuple elts kk GG) (.Call (.Name "enumerate" p) [e] [⟨aa "start",.Constant (.int 1) j1 p1,U5⟩] pos) (adV X.K te):=by
 intro pins s σ H R I h
 refine fh (rQ I hg hm boot_enumerate (Nb (by rw[hs];rfl) ?_ ?_) (by decide) (by decide))
 ·rfl
 rw[hs]
 refine evalArgs_kwB ?_ ?_
 ·rfl
 show bM _ _ (E3 ((af,eval e X.env)::gz pos (bX [] X.env))) _ _ s
 refine iA (ic (he pins s σ H _ I h) fun v s1 ⟨v',H1,I1,r1,q1⟩=>jM ?_)
 obtain⟨a,xs,rfl,hq,q⟩:=q1
 cases r1
 refine kws_cons (IU (kws_nil ?_))
 obtain⟨its,rv,p',hz⟩:=I1.list hq
 have I2:=I1.tok (s1.toks+1)
 have I2:Inv X pins σ H1 {s1 with toks:=s1.toks+1}:=I2
 show bM _ _ (call (.type "enumerate") [.ref a] (qT s1.toks)) _ _ {s1 with toks:=s1.toks+1}
 refine ag5 (s:={s1 with toks:=s1.toks+1}) p'.isList fun h' hE hit hk=>wV hE ?_
 have I3:Inv X pins σ H1 {s1 with heap:=h',toks:=s1.toks+1}:=I2.kept (t':=s1.toks+1) hk
 refine⟨s1.heap.objs.size+1,[s1.heap.objs.size+1,s1.heap.objs.size],_,_,H1,rfl,I3,QJ a (s1.heap.objs.size+1) s1.heap.objs.size,⟨⟨.none,hE⟩,hit,Nat.succ_ne_self _⟩,fun b hb=>?_,q⟩
 have hle:s1.heap.objs.size<=b:=by
  rcases(by simpa using hb:b=s1.heap.objs.size+1\/b=s1.heap.objs.size)with z|z
  ·rw[z];exact iH _ _
  rw[z];exact bu _
 exact I1.Vo hle (I1.gx.fresh hle)
theorem Vp{K:aY}{a:Addr}{xs:ao}{g:TG}{tb:L2.TS}{D:L2.Ends}{σ:L2.St}{H:Hp}(Pv:Nat->L2.St->Hp->Prop)(h0:Pv 0 σ H)(hl:∀i σ H,i<=xs.length->Pv i σ H->dw K H a xs)
 (hs:∀i x σ H T,xs[i]?=aa x->Pv i σ H->H T=ab->g (.ref T) σ (upd H T (.tup [.int ((i+1:Nat):Int),x])) fun σ2 H2=>tb {D with nx:=Pv (i+1),ct:=Pv (i+1),bk:=D.nx} σ2 H2)(hd:∀σ H,Pv xs.length σ H->D.nx σ H):
 ∃W:Nat->Nat->L2.St->Hp->Prop,(∃m,W 0 m σ H)/\∀i m σ H,W i m σ H->
  ((YW K a).stop i H/\D.nx σ H)\/((YW K a).go i H/\∃N:L2.St->Hp->Prop,(∀σ' H',N σ' H'->∃m',m'<m/\W (i+1) m' σ' H')/\∀x H',(YW K a).Wh i H x H'->g x σ H' fun σ2 H2=>tb {D with nx:=N,ct:=N,bk:=D.nx} σ2 H2):=by
 refine⟨fun i m σ H=>m=xs.length-i/\i<=xs.length/\Pv i σ H,⟨xs.length,by simp,cC _,h0⟩,?_⟩
 rintro i m σ H ⟨rfl,hi,p⟩
 have q:=hl i σ H hi p
 by_cases zy:i<xs.length
 ·refine .inr ⟨⟨xs,xs[i],q,by simp[zy]⟩,Pv (i+1),fun σ' H' p'=>⟨xs.length-(i+1),by omega,rfl,zy,p'⟩,fun x H' y=>?_⟩
  obtain⟨T,x,e,hT,e2,y⟩:=y
  subst e e2
  exact hs i x σ _ T (y xs q) p hT
 have e:i=xs.length:=by omega
 subst e
 exact .inl ⟨⟨xs,q,bu _⟩,hd σ H p⟩
end XL
end
section
namespace SR
open PySem PySem.Spec PyProof.Rows L2 XL
variable{P:bY}{w:cX}{K:aY}{mg:aj}{base:Heap}
def adM(n:Int):Bool:=decide (0<=n)&&decide (n<1000003)
inductive WN(vs:ao)(H:Hp)(Q:VK)(z':XK):Prop
 |mk (n:Int) (_:vs=[.int n]) (_:Q (.bl (adM n)) H)
def plc(turn:Bool)(n i:Nat):Nat:=if turn=ae then n-1-i%n else i%n
inductive abG(vs:ao)(H:Hp)(Q:VK)(z':XK):Prop
 |mk (z:Str) (n i:Nat) (_:vs=[.str z,.int (n:Int),.int (i:Int)]) (_:0<n) (_:Q (.int (plc (decide (V.str z=V.str "turn")) n i:Nat)) H)
def YZ(p:aO)(q:List Nat)(n:Nat):Prop:=∀u,u<p.length->0<aU p u->aT q u+aU p u<=n
def elM(p:aO)(q:List Nat)(mem:List Int)(s:dz)(i:Nat):Int:=gH p s (fun u j=>ee mem (aT q u+j)) i
inductive Ot(K:aY)(CS CP:Addr)(vs:ao)(H:Hp)(Q:VK)(z':XK):Prop
 |mk (a l m:Addr) (p:aO) (q:List Nat) (mem:List Int) (c i:Nat) (s:dz) (_:vs=[.ref a,.ref l,.ref m,.int (c:Int),.int (i:Int)]) (_:jz CS CP H a p) (_:um p) (_:dw K H l (tx q)) (_:q.length=p.length) (_:dw K H m (mem.map V.int)) (_:YZ p q mem.length) (_:p[c]?=aa s) (_:s.input=af) (_:∀H',bH H H'->Q (.int (elM p q mem s i)) H')
def U0(p:aO)(q:List Nat)(mem:List Int)(s:dz)(i u:Nat):Int:=if aU p u=0 then 0 else if s.turn=ae then ee mem (aT q u+(aU p u-1-i%aU p u))else ee mem (aT q u+i%aU p u)
theorem RZ{l:List Nat}{j u:Nat}(h:l[j]?=aa u):(lK l)[j]?=aa (u,((j+1:Nat):Int)):=by
 unfold lK;rw[bL,Ak,h];simp
theorem PV(l:List Nat):(lK l).length=l.length:=by
 unfold lK;simp
def GO(p:aO)(q:List Nat)(mem:List Int)(s:dz)(i j:Nat):Int:=((lK s.uses).take j).foldl (fun n u=>n+u.2*U0 p q mem s i u.1) 0
theorem GN{p:aO}{q:List Nat}{mem:List Int}{s:dz}{i j u:Nat}(h:s.uses[j]?=aa u):GO p q mem s i (j+1)=GO p q mem s i j+((j+1:Nat):Int)*U0 p q mem s i u:=by
 unfold GO;rw[take_snoc (RZ h),hV];rfl
theorem ag6(p:aO)(q:List Nat)(mem:List Int)(s:dz)(i:Nat):elM p q mem s i=((if s.turn=ae then 11+(i:Int)else 7)+GO p q mem s i s.uses.length)%1000003:=by
 unfold elM gH GO;rw[<-PV s.uses,dA];rfl
theorem aaS{mem:List Int}{k:Nat}(h:k<mem.length):(mem.map V.int)[k]?=aa (.int (ee mem k)):=by
 unfold ee;rw[bL,bF h];rfl
theorem JF{f:Addr}{fd:bC}(F:iG K "is_element" "is_element" vB f fd)(hM:∃t,mg "MODULUS"=aa (.int 1000003 t)):dy P w K mg base eM 1 f fd ["number"] WN:=by
 refine F.ok Jq fun fz A outer s H vs Q E hr h=>?_;obtain⟨n,rfl,k⟩:=h;refine⟨_,bj (cf (Hx BG tm cG (pv 0) (iE (by rfl) hM))),?_⟩;refine⟨_,rfl,_,_,rfl,rfl,_,rfl,?_⟩;unfold adM at k;cases h1:decide (0<=n)with
 |false=>
  rw[h1,eD]at k;exact cE k
 |true=>
  rw[h1,eI]at k;exact dM ⟨_,_,rfl,rfl,k⟩
theorem zm{f:Addr}{fd:bC}(F:iG K "place_in_operand" "place_in_operand" mR f fd):dy P w K mg base eM 1 f fd ["way","length","i"] abG:=by
 refine F.ok za fun fz A outer s H vs Q E hr h=>?_;obtain⟨z,n,i,rfl,hn,k⟩:=h
 refine⟨_,bh (d9 (cS iY (pv 0) eO (dg _)) (bj (cf (fZ DN (fZ DN (pv 1) cG) (fZ Rc (pv 2) (pv 1))))) cT)
  (bj (cf (fZ Rc (pv 2) (pv 1)))),?_⟩
 refine⟨_,rfl,rfl,_,rfl,?_⟩;have hm:=Ez i hn;have em:(i:Int)%(n:Int)=((i%n:Nat):Int):=by omega
 cases h1:decide (V.str z=V.str "turn")with
 |true=>
  refine dM ⟨_,rfl,_,_,rfl,rfl,_,rfl,_,rfl,_,_,rfl,rfl,by omega,_,_,rfl,rfl,?_⟩;rw[h1]at k;unfold plc at k;rw[da rfl]at k;have e:(n:Int)-1-(i:Int)%(n:Int)=((n-1-i%n:Nat):Int):=by omega
  rw[<-e]at k;exact k
 |false=>
  refine cE ⟨_,rfl,_,rfl,_,_,rfl,rfl,by omega,?_⟩;rw[h1]at k;unfold plc at k;rw[cQ (by decide)]at k;rw[<-em]at k;exact k
theorem BH{f CS CP:Addr}{fd:bC}(F:iG K "worked_element" "worked_element" pf f fd)(S:FG K CS)(G:FH K CP)(hM:∃t,mg "MODULUS"=aa (.int 1000003 t))(hT:∃t,mg "TURN_START"=aa (.int 11 t))(hA:∃t,mg "MAP_START"=aa (.int 7 t))(KW:mg "enumerate"=ab)
 (Cp:Fn P w K mg base eM 1 "place_in_operand" ["way","length","i"] abG):dy P w K mg base eM 2 f fd Tj (Ot K CS CP):=by
 refine F.ok sV fun fz A outer s H vs Q E hr h=>?_
 obtain⟨a,l,m,p,q,mem,c,i,s0,rfl,pa,pw,hq,ql,hm,fits,hc,adx,k⟩:=h
 obtain⟨dp,ls,lo,bs,os,v⟩:=pa.v
 obtain⟨b1,d1,k1,e1,g1⟩:=v.st c s0 hc
 obtain⟨o1,e3,g3⟩:=v.op c s0 hc
 have nd:=sV.nd
 refine⟨_,bh (jB 5 nd (cw (dW cW (cw (pv 0) rfl) (pv 3) (fun _ _=>rfl)) rfl))
  (bh (jB 6 nd (Xp (cS iY (pv 5) eO (dg _)) (fZ j5 (iE (by rfl) hT) (pv 4)) (iE (by rfl) hA)))
  (bh (fg bW rfl (Xh (by rfl) KW (dW cW (cw (pv 0) rfl) (pv 3) (fun _ _=>rfl))) (qA rfl (fq (o3 7 nd) (fq (o3 8 nd) mE)))
   (bh (jB 9 nd (cw (dW cW (cw (pv 0) rfl) (pv 8) (fun _ _=>rfl)) rfl))
   (bj (d9 (cS zX (pv 9) cG (dg _))
    (bj (rM (i:=6) nd rfl (ux rfl) (fZ Xt (pv 7) (dW cW (pv 2) (fZ j5 (dW cW (pv 1) (pv 8) (fun _ _=>rfl)) (dJ Cp hr (by rfl) (aQ (pv 5) (aQ (pv 9) (aQ (pv 4) bq))))) (fun _ _=>rfl))) qB)) cT))))
  (bj (cf (fZ Rc (pv 6) (iE (by rfl) hM)))))),?_⟩
 refine⟨_,rfl,a,CP,dp,_,_,rfl,v.ha,G.cl,G.n1,jO,_,rfl,ls,_,_,_,rfl,rfl,dw.of v.l5,at_of (j:=c) rfl e1,b1,CS,d1,_,_,rfl,g1,S.cl,S.n4,Lx,?_⟩
 have wt:decide (V.str (st (md p s0).way)=V.str "turn")=s0.turn:=by
  rw[Wi,adx];rfl
 have z0:GO p q mem s0 i 0=0:=rfl
 have cl:c<p.length:=(aZ.mp hc).1
 refine⟨_,rfl,rfl,_,rfl,?_⟩
 rw[wt]
 rw[ag6]at k
 generalize KS:(if s0.turn=ae then 11+(i:Int)else 7)=z at k
 cases ht:s0.turn
 case' false=>
  rw[ht,cQ (by decide)]at KS
  refine cE ?_
 case' true=>
  rw[ht,da rfl]at KS
  refine dM ⟨_,rfl,_,_,rfl,rfl,?_⟩
 all_goals
  refine⟨_,rfl,a,CP,dp,_,_,rfl,v.ha,G.cl,G.n2,Tn,_,rfl,lo,_,_,_,rfl,rfl,dw.of v.D6,at_of (j:=c) rfl e3,o1,_,rfl,dw.of g3,Vp (xs:=tx s0.uses) (fun j σ H'=>Ex3 fun v7 v8 v9=>σ=[aa (.ref a),aa (.ref l),aa (.ref m),aa (.int (c:Int)),aa (.int (i:Int)),aa (.str (st (md p s0).way)),aa (.int (z+GO p q mem s0 i j)),v7,v8,v9]/\bH H H') ?_ ?_ ?_ ?_⟩
  ·refine⟨ab,ab,ab,?_,fun _ _ e=>e⟩
   rw[z0,Int.add_zero,<-KS]
   rfl
  ·rintro j σ H' _ ⟨_,_,_,_,sm⟩
   exact dw.of (sm _ _ g3)
  ·rintro j x σ H' T hx ⟨v7,v8,v9,rfl,sm⟩ hT
   obtain⟨u,hu,rfl⟩:=mO hx
   have ul:u<p.length:=mz (pw.uses c s0 hc u (br hu)) cl
   obtain⟨su,eu⟩:=uW ul
   obtain⟨b2,d2,k2,e2,g2⟩:=v.st u su eu
   have lu:=iR eu
   have sF:bH H (upd H' T (.tup [.int ((j+1:Nat):Int),.int (u:Int)])):=sm.trans (bH.new hT)
   have jl:=(aZ.mp hu).1
   have uf:=pw.ops s0 (br hc)
   refine⟨T,_,rfl,wF.of bf,rfl,_,_,rfl,_,_,rfl,rfl,?_⟩
   refine⟨_,rfl,a,CP,dp,_,_,rfl,sF _ _ v.ha,G.cl,G.n1,jO,_,rfl,ls,_,_,_,rfl,rfl,dw.of (sF _ _ v.l5),at_of (j:=u) rfl e2,b2,CS,d2,_,_,rfl,sF _ _ g2,S.cl,S.n3,iN,?_⟩
   refine⟨_,rfl,_,_,rfl,rfl,_,rfl,?_⟩
   by_cases h0:0<su.length
   ·rw[qk (show(0:Int)<(su.length:Int)by omega)]
    have fu:=fits u ul (by omega)
    have pl:plc s0.turn su.length i<su.length:=by
     have:=Ez i h0;unfold plc;split<;>omega
    refine dM ⟨_,rfl,_,rfl,_,rfl,_,rfl,_,rfl,l,_,_,_,rfl,rfl,sF.seq hq,at_of (j:=u) rfl (uh (q:=q) (b:=u) (by omega)),_,rfl,_,rfl,_,rfl,_,su.length,i,rfl,h0,_,_,rfl,rfl,m,_,_,_,rfl,rfl,sF.seq hm,at_of (j:=aT q u+plc s0.turn su.length i) ?_ (aaS (by omega)),_,_,rfl,rfl,.inl ⟨by omega,by omega⟩,_,_,rfl,rfl,?_⟩
    ·rw[wt]
     omega
    refine⟨aa (.int ((j+1:Nat):Int)),aa (.int (u:Int)),aa (.int (su.length:Int)),?_,sF⟩
    have eo:U0 p q mem s0 i u=ee mem (aT q u+plc s0.turn su.length i):=by
     unfold U0 plc;rw[lu,cQ (by omega)];split<;>rfl
    rw[GN hu,eo,<-Int.add_assoc]
    rfl
   rw[gX (show¬(0:Int)<(su.length:Int)by omega)]
   refine cE ⟨aa (.int ((j+1:Nat):Int)),aa (.int (u:Int)),aa (.int (su.length:Int)),?_,sF⟩
   have eo:U0 p q mem s0 i u=0:=by
    unfold U0;rw[da (by omega)]
   rw[GN hu,eo,Int.mul_zero,Int.add_zero]
   rfl
  rintro σ H' ⟨v7,v8,v9,rfl,sm⟩
  have:=k H' sm
  rw[<-eA s0.uses]at this
  exact⟨_,rfl,_,_,rfl,rfl,(show(0:Int)<1000003 by decide),this⟩
def mI(m:List Int):ao:=m.map V.int
theorem ku(m:List Int):(mI m).length=m.length:=aV ..
theorem XR(m:List Int)(k:Nat)(z:Int):(mI m).set k (.int z)=mI (m.set k z):=by
 unfold mI;rw[List.map_set]
theorem XS{m:List Int}{i:Nat}{y:V}(h:(mI m)[i]?=aa y):∃z,m[i]?=aa z/\y=.int z:=by
 unfold mI at h;rw[bL]at h;cases hm:m[i]? with
 |none=>rw[hm]at h;cases h
 |some z=>rw[hm]at h;exact⟨z,rfl,(bT h).symm⟩
theorem Bn(p:aO)(q:List Nat)(s:dz)(c:Nat):∀(k i:Nat)(m:List Int),(ib p q s c k i m).length=m.length
 |0,_,_=>rfl
 |k+1,i,m=>by
  show(ib p q s c k (i+1) _).length=_;rw[Bn p q s c k (i+1),fO]
inductive SY(K:aY)(CS CP:Addr)(vs:ao)(H:Hp)(Q:VK)(z':XK):Prop
 |mk (a l m:Addr) (p:aO) (q:List Nat) (mem:List Int) (c:Nat) (s:dz) (H0:Hp) (_:vs=[.ref a,.ref l,.ref m,.int (c:Int)]) (_:bH H0 H) (_:H0 m=ab) (_:jz CS CP H0 a p) (_:um p) (_:dw K H0 l (tx q)) (_:q.length=p.length) (_:H m=aa (.lst (mI mem))) (_:YZ p q mem.length) (_:p[c]?=aa s) (_:s.input=af) (_:∀H',qG m H H'->H' m=aa (.lst (mI (ib p q s c s.length 0 mem)))->Q .j7 H')
inductive Oq(vs:ao)(H:Hp)(Q:VK)(z':XK):Prop
 |mk (m d:Addr) (mem dat:List Int) (o:Nat) (_:vs=[.ref m,.int (o:Int),.ref d]) (_:H m=aa (.lst (mI mem))) (_:H d=aa (.lst (mI dat))) (_:d≠m) (_:(0<dat.length->o+dat.length<=mem.length)) (_:∀H',qG m H H'->H' m=aa (.lst (mI (sC mem o dat)))->Q .j7 H')
theorem LO{dat:List Int}{j:Nat}{x:Int}(h:dat[j]?=aa x)(o:Nat)(mem:List Int):(dat.zipIdx.take (j+1)).foldl (fun m x=>m.set (o+x.2) x.1) mem=((dat.zipIdx.take j).foldl (fun m x=>m.set (o+x.2) x.1) mem).set (o+j) x:=by
 have:dat.zipIdx[j]?=aa (x,j):=by rw[Ak,h];simp
 rw[take_snoc this,hV];rfl
theorem vR(o:Nat):∀(l:List (Int×Nat))(mem:List Int),(l.foldl (fun m x=>m.set (o+x.2) x.1) mem).length=mem.length
 |[],_=>rfl
 |x::l,mem=>by
  rw[nR,vR o l,fO]
theorem Jz{f CS CP:Addr}{fd:bC}(F:iG K "work_array" "work_array" vt f fd)(S:FG K CS)(G:FH K CP)(TY:mg "range"=ab)(Cw:Fn P w K mg base eM 2 "worked_element" Tj (Ot K CS CP)):
 dy P w K mg base eM 3 f fd ["program","plan","memory","number"] (SY K CS CP):=by
 refine F.ok zL fun fz A outer s H vs Q E hr h=>?_
 obtain⟨a,l,m,p,q,mem,c,s0,H0,rfl,sh,nm,pa,pw,hq,ql,hm,fits,hc,adx,k⟩:=h
 obtain⟨dp,ls,lo,bs,os,v0⟩:=pa.v
 have v:=v0.same sh
 obtain⟨b1,d1,k1,e1,g1⟩:=v.st c s0 hc
 have cl:c<p.length:=(aZ.mp hc).1
 have lc:=iR hc
 have sl:=pw.len s0 (br hc)
 have nd:=zL.nd
 refine⟨_,bj (fg bW rfl (uK (by rfl) TY (aQ (cw (dW cW (cw (pv 0) rfl) (pv 3) (fun _ _=>rfl)) rfl) bq)) (o3 4 nd)
  (bj (DJ (dJ Cw hr (by rfl) (aQ (pv 0) (aQ (pv 1) (aQ (pv 2) (aQ (pv 3) (aQ (pv 4) bq)))))) (DK (pv 2) (fZ j5 (dW cW (pv 1) (pv 3) (fun _ _=>rfl)) (pv 4)) set_list)))),?_⟩
 refine⟨_,rfl,a,CP,dp,_,_,rfl,v.ha,G.cl,G.n1,jO,_,rfl,ls,_,_,_,rfl,rfl,dw.of v.l5,at_of (j:=c) rfl e1,b1,CS,d1,_,_,rfl,g1,S.cl,S.n3,iN,_,rfl,by omega,by omega,rf (n:=(s0.length:Int).toNat) (fun j σ H'=>Ue fun v4 mj=>σ=[aa (.ref a),aa (.ref l),aa (.ref m),aa (.int (c:Int)),v4]/\qG m H H'/\H' m=aa (.lst (mI mj))/\mj.length=mem.length/\ib p q s0 c s0.length 0 mem=ib p q s0 c (s0.length-j) j mj) ?_ ?_ ?_⟩
 ·exact⟨ab,mem,rfl,fun _ _ _ e=>e,hm,rfl,rfl⟩
 ·rintro j σ H' hj ⟨v4,mj,rfl,bt,Mp,ml,wr⟩
  have hj:j<s0.length:=by omega
  have ej:(0:Int)+(j:Int)=(j:Int):=by omega
  rw[ej]
  have fc:=fits c cl (by omega)
  have sm:bH H0 H':=fun b o e=>bt b o (bP e nm) (sh _ _ e)
  refine⟨_,rfl,_,rfl,_,rfl,_,rfl,_,rfl,a,l,m,p,q,mj,c,j,s0,rfl,pa.same sm,pw,sm.seq hq,ql,dw.of Mp,by rw[ml];exact fits,hc,adx,fun H2 s2=>?_⟩
  have EI:=sm.trans s2
  refine⟨_,rfl,_,rfl,_,rfl,l,_,_,_,rfl,rfl,EI.seq hq,at_of (j:=c) rfl (uh (q:=q) (b:=c) (by omega)),_,rfl,_,_,rfl,rfl,m,_,_,aT q c+j,rfl,rfl,s2 _ _ Mp,?_,?_⟩
  ·have e:((aT q c:Nat):Int)+(j:Int)=((aT q c+j:Nat):Int):=by omega
   show U8 _ (((aT q c:Nat):Int)+(j:Int))=_
   rw[e,ku,ml]
   exact yR (by omega)
  rw[XR]
  refine⟨_,mj.set (aT q c+j) (elM p q mj s0 j),rfl,fun b o nb e=>?_,bf,by rw[fO,ml],?_⟩
  ·rw[bB nb]
   exact s2 _ _ (bt b o nb e)
  rw[wr]
  have e:s0.length-j=(s0.length-(j+1))+1:=by omega
  rw[e]
  rfl
 rintro σ H' ⟨v4,mj,rfl,bt,Mp,ml,wr⟩
 refine k H' bt ?_
 rw[Mp,wr]
 have e:s0.length-(s0.length:Int).toNat=0:=by omega
 rw[e]
 rfl
theorem Jy{f:Addr}{fd:bC}(F:iG K "write_data" "write_data" vq f fd)(KW:mg "enumerate"=ab):dy P w K mg base eM 1 f fd ["memory","offset","data"] Oq:=by
 refine F.ok zK fun fz A outer s H vs Q E hr h=>?_;obtain⟨m,d,mem,dat,o,rfl,hm,hd,ndm,ol,k⟩:=h;have nd:=zK.nd
 refine⟨_,bj (fg bW rfl (pN (by rfl) KW (aQ (pv 2) bq)) (qA rfl (fq (o3 3 nd) (fq (o3 4 nd) mE)))
  (bj (DJ (pv 4) (DK (pv 0) (fZ j5 (pv 1) (pv 3)) set_list)))),?_⟩
 refine⟨_,rfl,d,_,rfl,dw.of hd,ot (xs:=mI dat) (fun j σ H'=>Ue fun v3 v4=>σ=[aa (.ref m),aa (.int (o:Int)),aa (.ref d),v3,v4]/\qG m H H'/\H' m=aa (.lst (mI ((dat.zipIdx.take j).foldl (fun m x=>m.set (o+x.2) x.1) mem)))) ⟨ab,ab,rfl,fun _ _ _ e=>e,hm⟩ (fun i σ H' _ ⟨_,_,_,bt,_⟩=>dw.of (bt _ _ ndm hd)) ?_ ?_⟩
 ·rintro j x σ H' T hx ⟨v3,v4,rfl,bt,Mp⟩ hT;obtain⟨z,hz,rfl⟩:=XS hx;have jl:=(aZ.mp hz).1;have nT:m≠T:=bP Mp hT;have ol:=ol (by omega);refine⟨T,_,rfl,wF.of bf,rfl,_,_,rfl,_,_,rfl,rfl,?_⟩;refine⟨_,rfl,_,rfl,_,rfl,_,rfl,_,_,rfl,rfl,m,_,_,o+j,rfl,rfl,by rw[bB nT];exact Mp,?_,?_⟩
  ·show U8 _ ((o:Int)+(j:Int))=_;have e:(o:Int)+(j:Int)=((o+j:Nat):Int):=by omega
   rw[e,ku,vR];exact yR (by omega)
  refine⟨_,_,rfl,fun b u nb e=>?_,?_⟩
  ·have:=bt b u nb e;rw[bB nb,bB (bP this hT)];exact this
  rw[bf,XR,LO hz]
 rintro σ H' ⟨v3,v4,rfl,bt,Mp⟩;refine k H' bt ?_;rw[Mp,ku];unfold sC;rw[Qw (by simp)]
def Ag(dat:List (Nat×List Int))(a:Nat):List Int:=((dat.find? fun x=>x.1==a).map fun x=>x.2).getD []
def EG(p:aO)(q:List Nat)(dat:List (Nat×List Int))(mem:List Int)(a:Nat):List Int:=match p[a]? with
 |some s=>if s.input=ae then sC mem (aT q a) (Ag dat a)else ib p q s a s.length 0 mem
 |none=>mem
def jN(p:aO)(q:List Nat)(dat:List (Nat×List Int))(mem:List Int)(n:Nat):List Int:=(bw n).foldl (EG p q dat) mem
theorem rK(p:aO)(q:List Nat)(dat:List (Nat×List Int))(mem:List Int)(n:Nat):jN p q dat mem (n+1)=EG p q dat (jN p q dat mem n) n:=by
 unfold jN;rw[fe,hV];rfl
theorem UC(p:aO)(q:List Nat)(dat:List (Nat×List Int))(mem:List Int)(a:Nat):(EG p q dat mem a).length=mem.length:=by
 unfold EG;split
 ·split
  ·exact vR _ _ _
  exact Bn ..
 rfl
theorem yL(p:aO)(q:List Nat)(dat:List (Nat×List Int))(mem:List Int):∀n,(jN p q dat mem n).length=mem.length
 |0=>rfl
 |n+1=>by rw[rK,UC,yL p q dat mem n]
theorem Hl(p:aO)(q:List Nat)(dat:List (Nat×List Int))(mem:List Int):∀(k a:Nat),a+k=p.length->Jf p q dat (p.drop a) a (jN p q dat mem a)=jN p q dat mem p.length
 |0,a,h=>by
  rw[Qy (by omega)];have:a=p.length:=by omega
  rw[<-this];rfl
 |k+1,a,h=>by
  have al:a<p.length:=by omega
  rw[d5 al];show Jf p q dat (p.drop (a+1)) (a+1) (if p[a].input=ae then sC (jN p q dat mem a) (aT q a) (Ag dat a)else ib p q p[a] a p[a].length 0 (jN p q dat mem a))=_
  have e:(if p[a].input=ae then sC (jN p q dat mem a) (aT q a) (Ag dat a)else ib p q p[a] a p[a].length 0 (jN p q dat mem a))=jN p q dat mem (a+1):=by
   rw[rK];unfold EG;rw[bF al]
  rw[e];exact Hl p q dat mem k (a+1) (by omega)
theorem W4(p:aO)(q:List Nat)(dat:List (Nat×List Int))(mem:List Int):Jf p q dat p 0 mem=jN p q dat mem p.length:=Hl p q dat mem p.length 0 (by omega)
theorem BZ{p:aO}(pw:um p):∃m,m<=p.length/\dv p=bw m/\∀(i:Nat)(s:dz),p[i]?=aa s->(s.input=ae↔i<m):=by
 obtain⟨m,ml,hm⟩:=pw.ins;refine⟨m,ml,?_,hm⟩;unfold dv
 have:∀n,n<=p.length->(bw n).filter (fun a=>((p[a]?).map fun s=>s.input).getD af)=bw (min n m):=fun n=>by
  induction n with
  |zero=>intro _;simp
  |succ n ih=>
   intro h;rw[vK (α:=Nat),ih (by omega)];obtain⟨s,hs⟩:=uW (p:=p) (i:=n) (by omega);have e:=hm n s hs;rw[hs];show bw (min n m)++(if s.input=ae then[n]else[])=_;by_cases h1:n<m
   ·rw[da (e.mpr h1),show min n m=n by omega,show min (n+1) m=n+1 by omega,fe]
   rw[cQ (fun z=>h1 (e.mp z)),cp,show min n m=m by omega,show min (n+1) m=m by omega]
 rw[this p.length (bu _),show min p.length m=m by omega]
theorem YV(p:aO)(q:List Nat):∀(n u:Nat),u<n->0<aU p u->aT q u+aU p u<=RM p q n
 |0,u,h,_=>by omega
 |n+1,u,h,h0=>by
  rw[Nr];by_cases e:u=n
  ·subst e;rw[cQ (by omega)];exact Nat.le_max_right ..
  have:=YV p q n u (by omega) h0;split
  ·exact this
  exact cR this (Nat.le_max_left ..)
theorem yM(p:aO)(q:List Nat):YZ p q (i8 p q):=fun u hu h0=>YV p q p.length u hu h0
theorem ab7{p:aO}{q:List Nat}(pw:um p)(hq:∀x∈q,x<=10000):∀n,n<=p.length->RM p q n<=10064
 |0,_=>by unfold RM;simp
 |n+1,h=>by
  rw[Nr];have:=ab7 pw hq n (by omega);split
  ·exact this
  obtain⟨s,hs⟩:=uW (p:=p) (i:=n) (by omega);have l:=pw.len s (br hs);rw[iR hs]
  have o:aT q n<=10000:=by
   unfold aT;cases hx:q[n]? with
   |none=>exact cC _
   |some x=>exact hq x (br hx)
  exact Nat.max_le.mpr ⟨this,by omega⟩
def AW(ef:List (Key×V)):Prop:=(ef.map (·.1)).Nodup/\∀k∈ef.map (·.1),k∈(bw 24).map fun(n:Nat)=>(cN (n:Int):Key)
inductive CU(H:Hp)(d:Addr)(dat:List (Nat×List Int)):Prop
 |mk (ef:List (Key×V)) (_:H d=aa (.dK ef)) (_:AW ef) (_:∀n:Nat,match dat.find? fun x=>x.1==n with
 |none=>l9 ef (cN (n:Int))=ab
 |some x=>∃b,l9 ef (cN (n:Int))=aa (.ref b)/\H b=aa (.lst (mI x.2)))
theorem CU.same{H H':Hp}{d:Addr}{dat:List (Nat×List Int)}(h:CU H d dat)(s:bH H H'):CU H' d dat:=by
 obtain⟨ef,e,kl,f⟩:=h;refine⟨ef,s _ _ e,kl,fun n=>?_⟩;have:=f n;cases hf:dat.find? fun x=>x.1==n with
 |none=>rw[hf]at this;exact this
 |some x=>
  rw[hf]at this;obtain⟨b,e1,e2⟩:=this;exact⟨b,e1,s _ _ e2⟩
def wb(p:aO)(dat:List (Nat×List Int)):Prop:=∀x∈dat,x.2.length=aU p x.1
def oA(p:aO)(dat:List (Nat×List Int)):Prop:=((dv p).all fun a=>dat.any fun x=>x.1==a)=ae
def wO(p:aO)(q:List Nat):List Int:=cA (i8 p q) 0
inductive WJ(K:aY)(CS CP:Addr)(vs:ao)(H:Hp)(Q:VK)(z':XK):Prop
 |mk (a d l:Addr) (p:aO) (q:List Nat) (dat:List (Nat×List Int)) (_:vs=[.ref a,.ref d,.ref l]) (_:jz CS CP H a p) (_:um p) (_:dw K H l (tx q)) (_:q.length=p.length) (_:(∀x∈q,x<=10000)) (_:CU H d dat) (_:wb p dat) (_:oA p dat) (_:∀(m:Addr)(H':Hp),H m=ab->bH H H'->H' m=aa (.lst (mI (jN p q dat (wO p q) p.length)))->Q (.ref m) H')
theorem UH(n:Nat):(cA n [V.int 0]).flatten=mI (cA n 0):=by
 induction n with
 |zero=>rfl
 |succ n ih=>
  rw[fY,lI,ih,fY];rfl
theorem zo{f CS CP:Addr}{fd:bC}(F:iG K "memory_after_run" "memory_after_run" mS f fd)(S:FG K CS)(G:FH K CP)(KW:mg "enumerate"=ab)(Cr:Fn P w K mg base eM 1 "room_of" xH (QW K CS CP))(Ci:Fn P w K mg base eM 1 "input_numbers" jV (w9 CS CP))
 (Cd:Fn P w K mg base eM 1 "write_data" ["memory","offset","data"] Oq)(Cw:Fn P w K mg base eM 3 "work_array" ["program","plan","memory","number"] (SY K CS CP)):dy P w K mg base eM 4 f fd Hr (WJ K CS CP):=by
 refine F.ok qL fun fz A outer s H vs Q E hr h=>?_
 obtain⟨a,d,l,p,q,dat,rfl,pa,pw,hq,ql,qb,hd,HY,K2,k⟩:=h
 have fw:=pw.j8
 have hu:=Ph hr
 have nd:=qL.nd
 have h1:gG 1 _:=hr.mono (by decide)
 refine⟨_,bh (jB 3 nd (fZ Rb (eB (aQ cG bq)) (dJ Cr h1 (by rfl) (aQ (pv 0) (aQ (pv 2) bq)))))
  (bh (fg bW rfl (fT (dJ Ci h1 (by rfl) (aQ (pv 0) bq))) (o3 4 nd)
   (bj (dN (dJ Cd h1 (by rfl) (aQ (pv 3) (aQ (dW cW (pv 2) (pv 4) (fun _ _=>rfl)) (aQ (Tq hu (pv 1) (pv 4) (fun _ _=>rfl)) bq)))))))
  (bh (fg bW rfl (pN (by rfl) KW (aQ (cw (pv 0) rfl) bq)) (qA rfl (fq (o3 4 nd) (fq (o3 5 nd) mE)))
   (bj (d9 (cS wz (cw (pv 5) rfl) eO (dg _)) (bj (dN (dJ Cw hr (by rfl) (aQ (pv 0) (aQ (pv 2) (aQ (pv 3) (aQ (pv 4) bq))))))) cT)))
  (bj (cf (pv 3))))),?_⟩
 obtain⟨mi,mil,ein,inp⟩:=BZ pw
 have rb:i8 p q<=10064:=ab7 pw qb p.length (bu _)
 refine⟨by show 1<=bz;decide,fun x hx=>⟨_,rfl,_,rfl,a,l,p,q,rfl,pa.same (bH.new hx),pw,(bH.new hx).seq hq,ql,fun H1 s1=>⟨x,_,_,rfl,rfl,s1 _ _ bf,by omega,by omega,by rw[bZ];show 1*_<=_;omega,fun m hm=>?_⟩⟩⟩
 have sH1:bH H H1:=(bH.new hx).trans s1
 rw[show((i8 p q:Nat):Int).toNat=i8 p q from pJ _,UH]
 have s2:bH H1 (upd H1 m (.lst (mI (wO p q)))):=bH.new hm
 have pa1:=pa.same sH1
 have hd1:=hd.same sH1
 have Ik:=sH1.seq hq
 refine⟨_,rfl,a,p,rfl,pa1.same s2,fw,fun li H3 nli s3 NP=>?_⟩
 have hm3:H3 m=aa (.lst (mI (wO p q))):=s3 _ _ bf
 have nlm:li≠m:=fun z=>by rw[z,bf]at nli;cases nli
 have s13:bH H1 H3:=s2.trans s3
 have keep:∀{H':Hp},qG m H3 H'->bH H1 H':=fun{H'} bt b o e=>bt b o (bP e hm) (s13 _ _ e)
 have XM:∀n,(jN p q dat (wO p q) n).length=i8 p q:=fun n=>by rw[yL];exact iu
 rw[ein]at NP
 refine⟨li,rfl,⟨_,dw.of NP⟩,f7 (K:=K) (a:=li) (xs:=tx (bw mi)) (fun j σ H'=>∃v4,σ=[aa (.ref a),aa (.ref d),aa (.ref l),aa (.ref m),v4,ab]/\qG m H3 H'/\H' m=aa (.lst (mI (jN p q dat (wO p q) j)))) ⟨ab,rfl,fun _ _ _ e=>e,hm3⟩ (fun i σ H' _ ⟨_,_,bt,_⟩=>dw.of (bt _ _ nlm NP)) ?_ ?_⟩
 ·rintro j y σ H' hj ⟨v4,rfl,bt,hmj⟩
  obtain⟨n,hn,rfl⟩:=mO hj
  have jl:=(aZ.mp hn).1
  rw[b8]at jl
  have en:n=j:=by
   rw[fA jl]at hn;exact(bT hn).symm
  subst en
  have nl:n<p.length:=by omega
  obtain⟨s0,hs0⟩:=uW nl
  have sm:=keep bt
  obtain⟨ef,ek,_,fk⟩:=hd1.same sm
  have gn:∃x,(dat.find? fun x=>x.1==n)=aa x:=by
   unfold oA at K2;rw[ein,cY]at K2;have:=K2 n (cn.mpr jl);obtain⟨x,hx,e⟩:=fj.mp this;cases hf:dat.find? fun x=>x.1==n with
   |some y=>exact⟨y,rfl⟩
   |none=>exact absurd e (kM.mp hf x hx)
  obtain⟨x,hx⟩:=gn
  have fx:=fk n
  rw[hx]at fx
  obtain⟨b,fb,hb⟩:=fx
  obtain⟨kv1,ek1,_,fk1⟩:=hd1
  have nbm:b≠m:=by
   have f1:=fk1 n;rw[hx]at f1;obtain⟨b',fb',Po⟩:=f1
   have:ef=kv1:=by
    have:=sm _ _ ek1;rw[ek]at this;cases this;rfl
   subst this;rw[fb]at fb';cases fb';exact bP Po hm
  have xe:x.1=n:=by simpa using yw hx
  have xl:=HY x (mB hx)
  rw[xe]at xl
  refine⟨_,rfl,_,rfl,_,rfl,l,_,_,_,rfl,rfl,sm.seq Ik,at_of (j:=n) rfl (uh (q:=q) (b:=n) (by omega)),_,rfl,_,rfl,d,_,rfl,(by rw[<-fb];exact zC.k (k:=cN (n:Int)) ek),m,b,_,x.2,aT q n,rfl,hmj,hb,nbm,fun h0=>?_,fun H2 Je hm2=>?_⟩
  ·rw[XM,xl]
   exact yM p q n nl (by omega)
  refine⟨_,rfl,fun b o nb e=>Je b o nb (bt b o nb e),?_⟩
  rw[hm2,rK]
  unfold EG
  rw[hs0]
  show _=aa (HO.lst (mI (if s0.input=ae then _ else _)))
  rw[da ((inp n s0 hs0).mpr jl)]
  unfold Ag
  rw[hx]
  rfl
 rintro σ H' ⟨v4,rfl,bt,hmj⟩
 rw[eA,b8]at hmj
 obtain⟨dp,ls,lo,bs,os,v⟩:=pa1.v
 have v':=v.same (keep bt)
 refine⟨_,rfl,a,CP,dp,_,_,rfl,v'.ha,G.cl,G.n1,jO,ls,_,rfl,dw.of v'.l5,ot (xs:=bs.map V.ref) (fun i σ H'=>Ue fun v4 v5=>σ=[aa (.ref a),aa (.ref d),aa (.ref l),aa (.ref m),v4,v5]/\qG m H3 H'/\H' m=aa (.lst (mI (jN p q dat (wO p q) (max mi i))))) ⟨v4,ab,rfl,bt,by rw[show max mi 0=mi by omega];exact hmj⟩ (fun i σ H' _ ⟨_,_,_,bt,_⟩=>dw.of (keep bt _ _ v.l5)) ?_ ?_⟩
 ·rintro i x σ H2 T hx ⟨v4,v5,rfl,Je,hm2⟩ hT
  obtain⟨s0,b,db,lb,hs,rfl,hi,g⟩:=v.ref hx
  have nT:m≠T:=bP hm2 hT
  have sT:bH H2 (upd H2 T (.tup [.int (i:Nat),.ref b])):=bH.new hT
  have bt3:qG m H3 (upd H2 T (.tup [.int (i:Nat),.ref b])):=fun c o nc e=>sT _ _ (Je c o nc e)
  have sm3:=keep bt3
  refine⟨T,_,rfl,wF.of bf,rfl,_,_,rfl,_,_,rfl,rfl,?_⟩
  refine⟨_,rfl,b,CS,db,_,_,rfl,sm3 _ _ g,S.cl,S.n1,nY,rfl,_,rfl,?_⟩
  rw[FZ]
  cases zY:s0.input with
  |true=>
   have il:=(inp i s0 hs).mp zY
   refine cE ⟨_,_,rfl,bt3,?_⟩
   rw[sT _ _ hm2,show max mi i=mi by omega,show max mi (i+1)=mi by omega]
  |false=>
   have il:¬i<mi:=fun z=>by rw[(inp i s0 hs).mpr z]at zY;cases zY
   refine dM ⟨_,rfl,_,rfl,_,rfl,_,rfl,a,l,m,p,q,_,i,s0,H1,rfl,sm3,hm,pa1,pw,Ik,ql,sT _ _ hm2,by rw[XM];exact yM p q,hs,zY,fun H4 bt4 hm4=>?_⟩
   refine⟨_,_,rfl,fun c o nc e=>bt4 c o nc (bt3 c o nc e),?_⟩
   rw[hm4,show max mi (i+1)=i+1 by omega,show max mi i=i by omega,rK]
   unfold EG
   rw[hs]
   show _=aa (HO.lst (mI (if s0.input=ae then _ else _)))
   rw[cQ (by rw[zY];decide)]
 rintro σ H2 ⟨v4,v5,rfl,Je,hm2⟩
 refine⟨_,rfl,k m H2 (sH1.free hm) (sH1.trans (keep Je)) ?_⟩
 rw[hm2,aV,v.bl,show max mi p.length=p.length by omega]
def Ih(p:aO)(a:Nat):Bool:=((p[a]?).map fun s=>s.out).getD af
def xK(p:aO)(q:List Nat)(mem:List Int)(n:Nat):List Int:=((bw n).filter (Ih p)).flatMap fun a=>((aU p a:Nat):Int)::kW mem (aT q a) (aU p a)
theorem Ay(p:aO)(q:List Nat)(mem:List Int)(n:Nat):xK p q mem (n+1)=xK p q mem n++if Ih p n=ae then((aU p n:Nat):Int)::kW mem (aT q n) (aU p n)else[]:=by
 unfold xK;rw[vK (α:=Nat),sv];congr 1;by_cases h:Ih p n=ae
 ·rw[da h,da h,iW,qt,cp]
 rw[cQ h,cQ h,qt]
theorem xE(mem:List Int)(o n:Nat):(kW mem o n).length=n:=by
 unfold kW;rw[aV,b8]
theorem W5(p:aO)(q:List Nat)(dat:List (Nat×List Int)):fG (jm p q dat)=xK p q (jN p q dat (wO p q) p.length) p.length:=by
 unfold fG jm xK;rw[W4,GA];show List.flatMap _ ((bw p.length).filter (Ih p))=_;refine congrArg (fun f=>List.flatMap f ((bw p.length).filter (Ih p))) (funext fun a=>?_);rw[xE];rfl
theorem LW{p:aO}(pw:um p)(q:List Nat)(mem:List Int):∀n,n<=p.length->(xK p q mem n).length<=65*n
 |0,_=>by unfold xK;simp
 |n+1,h=>by
  rw[Ay,bR];have:=LW pw q mem n (by omega);obtain⟨s,hs⟩:=uW (p:=p) (i:=n) (by omega);have l:=pw.len s (br hs);split
  ·rw[cK,xE,iR hs];omega
  simp;omega
theorem Yy{mem:List Int}{o n:Nat}(h:0<n->o+n<=mem.length):CH (mI mem) (aa (o:Int)) (aa ((o:Int)+(n:Int)))=mI (kW mem o n):=by
 have e:(o:Int)+(n:Int)=((o+n:Nat):Int):=by omega
 unfold CH;rw[e,HT.yK,HT.yK,ku];rcases oG n with z|z
 ·subst z;rw[show min (o+0) mem.length-min o mem.length=0 by omega];rfl
 have:=h z;rw[show min o mem.length=o by omega,show min (o+n) mem.length-o=n by omega];unfold mI kW;refine jt (by simp;omega) fun i h1 h2=>?_;have hi:i<n:=by simpa using h2
 simp only[List.getElem_take,List.getElem_drop,l7,nX];unfold ee;rw[bF (by omega)];rfl
inductive QV(K:aY)(CS CP:Addr)(vs:ao)(H:Hp)(Q:VK)(z':XK):Prop
 |mk (a d l:Addr) (p:aO) (q:List Nat) (dat:List (Nat×List Int)) (_:vs=[.ref a,.ref d,.ref l]) (_:jz CS CP H a p) (_:um p) (_:dw K H l (tx q)) (_:q.length=p.length) (_:(∀x∈q,x<=10000)) (_:CU H d dat) (_:wb p dat) (_:oA p dat) (_:∀(r:Addr)(H':Hp),H r=ab->bH H H'->H' r=aa (.lst (mI (fG (jm p q dat))))->Q (.ref r) H')
theorem HE{f CS CP:Addr}{fd:bC}(F:iG K "run_by_plan" "run_by_plan" tP f fd)(S:FG K CS)(G:FH K CP)(KW:mg "enumerate"=ab)(Cm:Fn P w K mg base eM 4 "memory_after_run" Hr (WJ K CS CP)):
 dy P w K mg base eM 5 f fd Hr (QV K CS CP):=by
 refine F.ok xb fun fz A outer s H vs Q E hr h=>?_
 obtain⟨a,d,l,p,q,dat,rfl,pa,pw,hq,ql,qb,hd,HY,K2,k⟩:=h
 have fw:=pw.j8
 have nd:=xb.nd
 refine⟨_,bh (jB 3 nd (dJ Cm hr (by rfl) (aQ (pv 0) (aQ (pv 1) (aQ (pv 2) bq)))))
  (bh (jB 4 nd (eB bq))
  (bh (fg bW rfl (pN (by rfl) KW (aQ (cw (pv 0) rfl) bq)) (qA rfl (fq (o3 5 nd) (fq (o3 6 nd) mE)))
   (bj (d9 (cS iY (cw (pv 6) rfl) eO (dg _))
    (bh (dN (mq cj c9 c8 iO (pv 4) (aQ (cw (pv 6) rfl) bq)))
    (bj (dN (mq cj gu gd pF (pv 4) (aQ (BE F7 (pv 3) (tf (dW cW (pv 2) (pv 5) (fun _ _=>rfl))) (tf (fZ j5 (dW cW (pv 2) (pv 5) (fun _ _=>rfl)) (cw (pv 6) rfl)))) bq))))) cT)))
  (bj (cf (pv 4))))),?_⟩
 refine⟨_,rfl,_,rfl,_,rfl,a,d,l,p,q,dat,rfl,pa,pw,hq,ql,qb,hd,HY,K2,fun m H1 nm s1 hm=>?_⟩
 generalize agH:jN p q dat (wO p q) p.length=mem at hm
 have XM:mem.length=i8 p q:=by
  rw[<-agH,yL];exact iu
 refine⟨by show 0<=bz;decide,fun r Ij=>?_⟩
 have nmr:m≠r:=bP hm Ij
 have sr:bH H1 (upd H1 r (.lst [])):=bH.new Ij
 obtain⟨dp,ls,lo,bs,os,v⟩:=(pa.same s1).v
 have Ik:=s1.seq hq
 refine⟨_,rfl,a,CP,dp,_,_,rfl,sr _ _ v.ha,G.cl,G.n1,jO,ls,_,rfl,dw.of (sr _ _ v.l5),ot (xs:=bs.map V.ref) (fun i σ H'=>Ue fun v5 v6=>σ=[aa (.ref a),aa (.ref d),aa (.ref l),aa (.ref m),aa (.ref r),v5,v6]/\bH H1 H'/\H' r=aa (.lst (mI (xK p q mem i)))) ⟨ab,ab,rfl,sr,bf⟩ (fun i σ H' _ ⟨_,_,_,sm,_⟩=>dw.of (sm _ _ v.l5)) ?_ ?_⟩
 ·rintro i x σ H' T hx ⟨v5,v6,rfl,sm,RI⟩ hT
  obtain⟨s0,b,db,lb,hs,rfl,hi,g⟩:=v.ref hx
  have sT:bH H' (upd H' T (.tup [.int (i:Nat),.ref b])):=bH.new hT
  have sF:=sm.trans sT
  have ol:=LW pw q mem i (by omega)
  have sl:=pw.len s0 (br hs)
  have l0:=iR hs
  have eo:Ih p i=s0.out:=by
   unfold Ih;rw[hs];rfl
  refine⟨T,_,rfl,wF.of bf,rfl,_,_,rfl,_,_,rfl,rfl,?_⟩
  generalize Yg:upd H' T (.tup [.int (i:Nat),.ref b])=H2 at sT sF
  have hr3:=sT _ _ RI
  refine⟨_,rfl,b,CS,db,_,_,rfl,sF _ _ g,S.cl,S.n1,nY,rfl,_,rfl,?_⟩
  rw[N8 p s0 (fun z=>(pw.inp s0 (br hs) z).1)]
  cases agD:s0.out with
  |false=>
   refine cE ⟨_,_,rfl,sF,?_⟩
   rw[hr3,Ay,eo,agD,cQ (by decide),cp]
  |true=>
   refine dM ⟨_,rfl,.inl ⟨rfl,_,dw.of hr3⟩,_,rfl,b,CS,db,_,_,rfl,sF _ _ g,S.cl,S.n3,iN,r,_,_,rfl,rfl,hr3,by rw[ku,bZ];omega,?_⟩
   have EI:bH H1 (upd H2 r (.lst (mI (xK p q mem i)++[.int (s0.length:Int)]))):=bH.put Ij sF
   generalize hH4:upd H2 r (.lst (mI (xK p q mem i)++[.int (s0.length:Int)]))=H4 at EI
   have NO:H4 r=aa (.lst (mI (xK p q mem i)++[.int (s0.length:Int)])):=by rw[<-hH4,bf]
   have oi:=uh (q:=q) (b:=i) (by omega)
   refine⟨_,rfl,.inl ⟨rfl,_,dw.of NO⟩,_,rfl,_,rfl,_,rfl,l,_,_,_,rfl,rfl,EI.seq Ik,at_of (j:=i) rfl oi,_,rfl,_,rfl,_,rfl,l,_,_,_,rfl,rfl,EI.seq Ik,at_of (j:=i) rfl oi,_,rfl,b,CS,db,_,_,rfl,EI _ _ g,S.cl,S.n3,iN,_,_,rfl,rfl,_,rfl,m,_,rfl,dw.of (EI _ _ hm),fun n hn=>?_⟩
   have nrn:r≠n:=bP NO hn
   rw[Yy (mem:=mem) (o:=aT q i) (n:=s0.length) (fun h0=>by rw[XM,<-l0];exact yM p q i hi (by omega))]
   refine⟨r,n,_,_,rfl,rfl,by rw[bB nrn];exact NO,bf,?_,?_⟩
   ·rw[bR,ku,ku,xE,bZ]
    show _+1+_<=_
    omega
   refine⟨_,_,rfl,bH.put Ij (EI.trans (bH.new hn)),?_⟩
   rw[bf,Ay,eo,agD,da rfl,l0]
   unfold mI
   rw[cg,dE,de]
   rfl
 rintro σ H' ⟨v5,v6,rfl,sm,RI⟩
 refine⟨_,rfl,k r H' (s1.free Ij) (s1.trans sm) ?_⟩
 rw[RI,W5,agH,aV,v.bl]
theorem LM{p:aO}{u:Nat}(h:u<p.length):aT (cP p) u=sumTo p u:=by
 unfold aT cP;rw[bL,fA h];rfl
theorem QP(p:aO){u:Nat}:∀{n:Nat},u<n->sumTo p u+aU p u<=sumTo p n
 |0,h=>by omega
 |n+1,h=>by
  rw[Ao];by_cases e:u=n
  ·subst e;omega
  have:=QP p (u:=u) (n:=n) (by omega);omega
def Zp(p:aO)(dat:List (Nat×List Int))(done:List (List Int))(s:dz):List Int:=if s.input=ae then Ag dat done.length else(bw s.length).map fun i=>gH p s (fun u j=>((done[u]?.getD [])[j]?).getD 0) i
def u7(p:aO)(dat:List (Nat×List Int)):Nat->List (List Int)
 |0=>[]
 |n+1=>match p[n]? with
  |some s=>u7 p dat n++[Zp p dat (u7 p dat n) s]
  |none=>u7 p dat n
theorem El{p:aO}{dat:List (Nat×List Int)}{n:Nat}{s:dz}(h:p[n]?=aa s):u7 p dat (n+1)=u7 p dat n++[Zp p dat (u7 p dat n) s]:=by
 show(match p[n]? with|some s=>_|none=>_)=_;rw[h]
theorem P6(p:aO)(dat:List (Nat×List Int)):∀n,n<=p.length->(u7 p dat n).length=n
 |0,_=>rfl
 |n+1,h=>by
  obtain⟨s,hs⟩:=uW (p:=p) (i:=n) (by omega);rw[El hs,bR,P6 p dat n (by omega)];rfl
theorem P5(p:aO)(dat:List (Nat×List Int)):∀(k a:Nat),a+k=p.length->E5 p dat (p.drop a) (u7 p dat a)=u7 p dat p.length
 |0,a,h=>by
  rw[Qy (by omega),show p.length=a by omega];rfl
 |k+1,a,h=>by
  have al:a<p.length:=by omega
  rw[d5 al];show E5 p dat (p.drop (a+1)) (u7 p dat a++[Zp p dat (u7 p dat a) p[a]])=_;rw[<-El (bF al)];exact P5 p dat k (a+1) (by omega)
theorem PB{p:aO}{s:dz}{g g':Nat->Nat->Int}(i:Nat)(h:∀u∈s.uses,∀j,j<aU p u->g u j=g' u j):gH p s g i=gH p s g' i:=by
 unfold gH
 have key:∀u∈s.uses,(if aU p u=0 then(0:Int)else if s.turn=ae then g u (aU p u-1-i%aU p u)else g u (i%aU p u))=(if aU p u=0 then 0 else if s.turn=ae then g' u (aU p u-1-i%aU p u)else g' u (i%aU p u)):=fun u hu=>by
  by_cases h0:aU p u=0
  ·rw[da h0,da h0]
  have hm:=Ez i (Zd h0);rw[cQ h0,cQ h0,h u hu _ hm,h u hu _ (by omega)]
 have fold:∀(l:List (Nat×Int))(z:Int),(∀x∈l,x.1∈s.uses)->l.foldl (fun n u=>n+u.2*(if aU p u.1=0 then(0:Int)else if s.turn=ae then g u.1 (aU p u.1-1-i%aU p u.1)else g u.1 (i%aU p u.1))) z=l.foldl (fun n u=>n+u.2*(if aU p u.1=0 then 0 else if s.turn=ae then g' u.1 (aU p u.1-1-i%aU p u.1)else g' u.1 (i%aU p u.1))) z:=fun l=>by
  induction l with
  |nil=>exact fun _ _=>rfl
  |cons x l ih=>
   intro z hx;rw[nR,nR,key x.1 (hx x (bO ..))];exact ih _ fun y hy=>hx y (bD _ hy)
 have:=fold (lK s.uses) 0 fun x hx=>by
  unfold lK at hx;obtain⟨y,hy,e⟩:=di.mp hx;rw[<-e];obtain⟨n,hn⟩:=cz hy;rw[Ak]at hn;cases hu:s.uses[n]? with
  |none=>rw[hu]at hn;cases hn
  |some u=>
   rw[hu]at hn;cases hn;exact br hu
 show((if s.turn=ae then 11+((i:Nat):Int)else 7)+_)%Zy=((if s.turn=ae then 11+((i:Nat):Int)else 7)+_)%Zy;rw[this]
theorem IH{m:List Int}{k x:Nat}{z:Int}(h:k<m.length):ee (m.set k z) x=if x=k then z else ee m x:=by
 unfold ee;rw[Zg];by_cases e:k=x
 ·subst e;rw[da rfl,da h,da rfl];rfl
 rw[cQ e,cQ (dh e)]
theorem OP(o:Nat):∀(dat:List Int)(n:Nat)(m:List Int),o+n+dat.length<=m.length->∀x,ee ((dat.zipIdx n).foldl (fun m y=>m.set (o+y.2) y.1) m) x=if o+n<=x/\x<o+n+dat.length then(dat[x-(o+n)]?).getD 0 else ee m x
 |[],n,m,_,x=>by
  rw[cQ (by simp)];rfl
 |d::dat,n,m,h,x=>by
  rw[cK]at h;rw[ZD,nR,OP o dat (n+1) _ (by rw[fO];omega) x,cK];by_cases h1:o+(n+1)<=x/\x<o+(n+1)+dat.length
  ·rw[da h1,da (by omega),show x-(o+n)=(x-(o+(n+1)))+1 by omega,oJ]
  rw[cQ h1,IH (by omega)];by_cases h2:x=o+n
  ·rw[da h2,da (by omega),show x-(o+n)=0 by omega];rfl
  rw[cQ h2,cQ (by omega)]
theorem GD{p:aO}{q:List Nat}{s:dz}{c:Nat}:∀(k i:Nat)(m:List Int),i+k=s.length->(0<s.length->aT q c+s.length<=m.length)->
 (∀u∈s.uses,∀j,j<aU p u->aT q u+j<aT q c)->∀x,ee (ib p q s c k i m) x=if aT q c+i<=x/\x<aT q c+s.length then gH p s (fun u j=>ee m (aT q u+j)) (x-aT q c)else ee m x
 |0,i,m,h,_,_,x=>by
  rw[cQ (by omega)];rfl
 |k+1,i,m,h,hb,hu,x=>by
  have Po:=hb (by omega);show ee (ib p q s c k (i+1) (m.set (aT q c+i) (gH p s (fun u j=>ee m (aT q u+j)) i))) x=_;rw[GD k (i+1) _ (by omega) (fun z=>by rw[fO];exact hb z) hu x];by_cases h1:aT q c+(i+1)<=x/\x<aT q c+s.length
  ·rw[da h1,da (by omega)];refine PB _ fun u hm j hj=>?_;rw[IH (by omega),cQ (by have:=hu u hm j hj;omega)]
  rw[cQ h1,IH (by omega)];by_cases h2:x=aT q c+i
  ·rw[da h2,da (by omega),show x-aT q c=i by omega]
  rw[cQ h2,cQ (by omega)]
theorem T8{p:aO}{dat:List (Nat×List Int)}(pw:um p)(HY:wb p dat)(K2:oA p dat){n:Nat}{s:dz}(hs:p[n]?=aa s)(hi:s.input=ae):(Ag dat n).length=s.length:=by
 obtain⟨mi,mil,ein,inp⟩:=BZ pw;unfold oA at K2;rw[ein,cY]at K2;obtain⟨x,hx,e⟩:=fj.mp (K2 n (cn.mpr ((inp n s hs).mp hi)));unfold Ag;cases hf:dat.find? fun x=>x.1==n with
 |none=>exact absurd e (kM.mp hf x hx)
 |some y=>
  have:=HY y (mB hf);have ey:y.1=n:=by simpa using yw hf
  rw[ey,iR hs]at this;exact this
theorem Ld{p:aO}{dat:List (Nat×List Int)}(pw:um p)(HY:wb p dat)(K2:oA p dat):∀n,n<=p.length->∀u,u<n->((u7 p dat n)[u]?.getD []).length=aU p u/\∀j,j<aU p u->ee (jN p (cP p) dat (wO p (cP p)) n) (sumTo p u+j)=(((u7 p dat n)[u]?.getD [])[j]?).getD 0
 |0,_,u,h=>by omega
 |n+1,hn,u,hu=>by
  obtain⟨s,hs⟩:=uW (p:=p) (i:=n) (by omega);have al:=P6 p dat n (by omega);have ls:=iR hs;have ih:=Ld pw HY K2 n (by omega);have ml:(jN p (cP p) dat (wO p (cP p)) n).length=i8 p (cP p):=by rw[yL];exact iu
  have on:=LM (p:=p) (u:=n) (by omega)
  have fit:0<s.length->sumTo p n+s.length<=(jN p (cP p) dat (wO p (cP p)) n).length:=fun h0=>by
   have:=yM p (cP p) n (by omega) (by omega);rw[on,ls]at this;omega
  have agl:(Zp p dat (u7 p dat n) s).length=s.length:=by
   unfold Zp;rw[al];split
   ·rename_i hi;exact T8 pw HY K2 hs hi
   simp
  have cells:∀x,ee (jN p (cP p) dat (wO p (cP p)) (n+1)) x=if sumTo p n<=x/\x<sumTo p n+s.length then((Zp p dat (u7 p dat n) s)[x-sumTo p n]?).getD 0 else ee (jN p (cP p) dat (wO p (cP p)) n) x:=fun x=>by
   rw[rK];unfold EG;rw[hs];show ee (if s.input=ae then _ else _) x=_;by_cases hi:s.input=ae
   ·rw[da hi,on];have dl:=T8 pw HY K2 hs hi
    have ed:Zp p dat (u7 p dat n) s=Ag dat n:=by
     unfold Zp;rw[da hi,al]
    rw[ed];rcases oG s.length with z|z
    ·have:Ag dat n=[]:=List.eq_nil_of_length_eq_zero (by omega);rw[cQ (by omega),this];rfl
    have:=OP (sumTo p n) (Ag dat n) 0 (jN p (cP p) dat (wO p (cP p)) n) (by have:=fit z;omega) x;rw[SD,dl]at this;exact this
   rw[cQ hi];have us:∀u∈s.uses,u<n:=fun u hu=>pw.uses n s hs u hu
   have ed:Zp p dat (u7 p dat n) s=(bw s.length).map fun i=>gH p s (fun u j=>(((u7 p dat n)[u]?.getD [])[j]?).getD 0) i:=by
    unfold Zp;rw[cQ hi]
   have:=GD (p:=p) (q:=cP p) (s:=s) (c:=n) s.length 0 (jN p (cP p) dat (wO p (cP p)) n) (by omega) (by rw[on];exact fit) (fun u hu j hj=>by
    have:=us u hu;rw[LM (by omega),on];have:=QP p this;omega) x
   rw[on,SD]at this;rw[this];by_cases hx:sumTo p n<=x/\x<sumTo p n+s.length
   ·rw[da hx,da hx,ed,bL,fA (by omega)];show _=gH p s (fun u j=>(((u7 p dat n)[u]?.getD [])[j]?).getD 0) (x-sumTo p n);refine PB _ fun u hu j hj=>?_;have ul:=us u hu;rw[LM (by omega)];exact(ih u ul).2 j hj
   rw[cQ hx,cQ hx]
  rw[El hs];by_cases e:u=n
  ·subst e;rw[hJ (by omega),al,FU];refine⟨agl.trans ls.symm,fun j hj=>?_⟩;rw[cells,da (by omega),show sumTo p u+j-sumTo p u=j by omega];rfl
  rw[eX (by omega)];refine⟨(ih u (by omega)).1,fun j hj=>?_⟩;rw[cells,cQ (by have:=QP p (show u<n by omega);omega)];exact(ih u (by omega)).2 j hj
theorem Lc{p:aO}{dat:List (Nat×List Int)}(pw:um p)(HY:wb p dat)(K2:oA p dat):jm p (cP p) dat=nA p dat:=by
 unfold jm nA;have e:E5 p dat p []=u7 p dat p.length:=P5 p dat p.length 0 (by omega);rw[W4,e];refine dk fun a ha=>?_
 have al:a<p.length:=by
  unfold Vaarrl.outs at ha;exact cn.mp (cI.mp ha).1
 obtain⟨h1,h2⟩:=Ld pw HY K2 p.length (bu _) a al;refine jt (by rw[xE,h1]) fun j hj1 hj2=>?_;have hj:j<aU p a:=by rw[xE]at hj1;exact hj1
 have:=h2 j hj;rw[bF hj2]at this
 have e2:(kW (jN p (cP p) dat (wO p (cP p)) p.length) (aT (cP p) a) (aU p a))[j]?=aa (ee (jN p (cP p) dat (wO p (cP p)) p.length) (sumTo p a+j)):=by
  unfold kW;rw[bL,fA hj,LM al];rfl
 rw[this]at e2;exact bT ((bF hj1).symm.trans e2)
theorem zt{f CR fR:Addr}{fd Gi:bC}(F:iG K "__init__" "BeyondLimit.__init__" m3 f fd)(R:RF P w K mg base CR fR Gi):dy P w K mg base eM 2 f fd dS (iL K (-6)):=by
 refine F.ok zi fun fz A outer s H vs Q E hr h=>?_;obtain⟨a,C,f,rfl,ha,m,na,k⟩:=h;refine⟨_,bj (dN (mf R.rd R.sp R.fc R.kp R.G hr rfl R.Zl R.b .nil rO (aQ (pv 0) (aQ (xJ rl cG) bq)))),?_⟩;exact⟨_,rfl,6,rfl,a,C,f,_,rfl,ha,m,na,k⟩
theorem xO{f CR fR:Addr}{fd Gi:bC}(F:iG K "__init__" "ClashingPlan.__init__" l4 f fd)(R:RF P w K mg base CR fR Gi):dy P w K mg base eM 2 f fd dS (iL K (-7)):=by
 refine F.ok xx fun fz A outer s H vs Q E hr h=>?_;obtain⟨a,C,f,rfl,ha,m,na,k⟩:=h;refine⟨_,bj (dN (mf R.rd R.sp R.fc R.kp R.G hr rfl R.Zl R.b .nil rO (aQ (pv 0) (aQ (xJ rl cG) bq)))),?_⟩;exact⟨_,rfl,7,rfl,a,C,f,_,rfl,ha,m,na,k⟩
theorem zu{f CR fR:Addr}{fd Gi:bC}(F:iG K "__init__" "AbsentInput.__init__" m5 f fd)(R:RF P w K mg base CR fR Gi):dy P w K mg base eM 2 f fd dS (iL K (-8)):=by
 refine F.ok zj fun fz A outer s H vs Q E hr h=>?_;obtain⟨a,C,f,rfl,ha,m,na,k⟩:=h;refine⟨_,bj (dN (mf R.rd R.sp R.fc R.kp R.G hr rfl R.Zl R.b .nil rO (aQ (pv 0) (aQ (xJ rl cG) bq)))),?_⟩;exact⟨_,rfl,8,rfl,a,C,f,_,rfl,ha,m,na,k⟩
theorem BM{f CR fR:Addr}{fd Gi:bC}(F:iG K "__init__" "WrongData.__init__" pz f fd)(R:RF P w K mg base CR fR Gi):dy P w K mg base eM 2 f fd dS (iL K (-9)):=by
 refine F.ok Bw fun fz A outer s H vs Q E hr h=>?_;obtain⟨a,C,f,rfl,ha,m,na,k⟩:=h;refine⟨_,bj (dN (mf R.rd R.sp R.fc R.kp R.G hr rfl R.Zl R.b .nil rO (aQ (pv 0) (aQ (xJ rl cG) bq)))),?_⟩;exact⟨_,rfl,9,rfl,a,C,f,_,rfl,ha,m,na,k⟩
def W7(a b:V):aq:=[("program",a),("data",b)]
structure Qn(K:aY)(C:Addr):Prop where
 cl:Gq K C
 n1:eV K C "program"
 n2:eV K C "data"
theorem abK{a b:V}:(W7 a b).lookup ("program":Str)=aa a:=rfl
theorem Tc{a b:V}:(W7 a b).lookup ("data":Str)=aa b:=rfl
def IL(CS CP:Addr)(H:Hp)(pv:V)(s:b9):Prop:=match s.program with
 |none=>pv=.j7/\s.data=[]
 |some p=>∃a,pv=.ref a/\jz CS CP H a p/\um p/\wb p s.data/\∀x∈s.data,x.1∈dv p
inductive iF(CS CP CR:Addr)(H:Hp)(r:Addr)(s:b9):Prop
 |mk (dx:_) (d:_) (pv:_) (_:H r=aa (.ins CR dx (W7 pv (.ref d)))) (_:IL CS CP H pv s) (_:CU H d s.data)
theorem IL.same{CS CP:Addr}{H H':Hp}{pv:V}{s:b9}(h:IL CS CP H pv s)(sm:bH H H'):IL CS CP H' pv s:=by
 unfold IL at h⊢;split at h
 ·exact h
 obtain⟨a,e,pa,r⟩:=h;exact⟨a,e,pa.same sm,r⟩
theorem iF.same{CS CP CR:Addr}{H H':Hp}{r:Addr}{s:b9}(h:iF CS CP CR H r s)(sm:bH H H'):iF CS CP CR H' r s:=
 let⟨dx,d,pv,h1,h2,h3⟩:=h
 ⟨dx,d,pv,sm _ _ h1,h2.same sm,h3.same sm⟩
def CQ(H:Hp)(Q:VK)(z:List Int):Prop:=∀l H',H l=ab->bH H H'->H' l=aa (.lst (mI z))->Q (.ref l) H'
def qg(E:XK)(H:Hp)(CN:Addr)(s:b9)(f:aO->Prop):Prop:=match s.program with
 |none=>jv E H CN [("number",.int (-4))]
 |some p=>f p
inductive Ou(C:Addr)(vs:ao)(H:Hp)(Q:VK)(z':XK):Prop
 |mk (a dx:Addr) (_:vs=[.ref a]) (_:H a=aa (.ins C dx [])) (_:∀d,H d=ab->Q .j7 (upd (upd H d (.dK [])) a (.ins C dx (W7 .j7 (.ref d)))))
inductive rn(CS CP CR CN:Addr)(vs:ao)(H:Hp)(Q:VK)(E:XK):Prop
 |mk (r:Addr) (s:b9) (_:vs=[.ref r]/\iF CS CP CR H r s/\qg E H CN s fun p=>∀a,jz CS CP H a p->um p->wb p s.data->Q (.ref a) H)
inductive GY(CS CP CR CN:Addr)(vs:ao)(H:Hp)(Q:VK)(E:XK):Prop
 |mk (r:Addr) (s:b9) (_:vs=[.ref r]) (_:iF CS CP CR H r s) (_:qg E H CN s fun p=>CQ H Q [((FN p:Nat):Int)])
theorem JH{f C:Addr}{fd:bC}(F:iG K "__init__" "Rooms.__init__" vJ f fd)(T:Qn K C):dy P w K mg base eM 1 f fd dS (Ou C):=by
 refine F.ok Jt fun fz A outer s H vs Q E hr h=>?_;obtain⟨a,dx,rfl,ha,q⟩:=h;refine⟨_,bh (lC (pv 0) adi rfl) (bj (lC (pv 0) BF rfl)),?_⟩;refine⟨_,rfl,a,C,dx,_,rfl,ha,T.cl,T.n1,(by show 0<1000;decide),?_⟩;intro d hd;have nda:a≠d:=fun z=>by rw[<-z,bf]at hd;cases hd
 have dH:H d=ab:=by rw[bB (dh nda)]at hd;exact hd
 refine⟨_,rfl,a,C,dx,_,rfl,by rw[bB nda,bf],T.cl,T.n2,(by show 1<1000;decide),?_⟩;have:=q d dH
 have e:upd (upd (upd H a (.ins C dx [("program",.j7)])) d (.dK [])) a (.ins C dx (W7 .j7 (.ref d)))=upd (upd H d (.dK [])) a (.ins C dx (W7 .j7 (.ref d))):=by
  funext x;by_cases z:x=a
  ·subst z;rw[bf,bf]
  rw[bB z,bB z];by_cases y:x=d
  ·subst y;rw[bf,bf]
  rw[bB y,bB y,bB z]
 rw[<-e]at this;exact this
theorem Fl{f CS CP CR CN:Addr}{fd:bC}(F:iG K "held_program" "Rooms.held_program" lA f fd)(T:Qn K CR)(M:Ec P w K mg base "NoProgram" CN dS (iL K (-4))):dy P w K mg base (k7 P w) 4 f fd dS (rn CS CP CR CN):=by
 refine DV F wL fun fz A outer s H vs Q E hr h=>?_;obtain⟨r,s0,rfl,⟨dx,d,NM,h1,h2,h3⟩,q⟩:=h;refine⟨_,bh (d9 (DI (adm (cw (pv 0) rfl))) (bj (kK k6 rfl (ug M hr (by rfl)))) cT) (bj (cf (cw (pv 0) rfl))),?_⟩;refine⟨_,rfl,r,CR,dx,_,_,rfl,h1,T.cl,T.n1,abK,_,rfl,?_⟩;unfold IL at h2;unfold qg at q;cases hp:s0.program with
 |none=>
  rw[hp]at h2 q;obtain⟨rfl,_⟩:=h2;exact dM (j4 M q)
 |some p=>
  rw[hp]at h2 q;obtain⟨a,rfl,pa,pw,ln,_⟩:=h2;exact cE ⟨_,rfl,r,CR,dx,_,_,rfl,h1,T.cl,T.n1,abK,q a pa pw ln⟩
theorem Rm{f CS CP CR CN:Addr}{fd:bC}(F:iG K "need" "Rooms.need" vG f fd)(T:Qn K CR)(Mh:Me P w K mg base (k7 P w) 4 CR "held_program" dS (rn CS CP CR CN))(Cn:Fn P w K mg base eM 4 "needed_at_least" jV (S1 CS CP)):
 dy P w K mg base (k7 P w) 5 f fd dS (GY CS CP CR CN):=by
 refine DV F Js fun fz A outer s H vs Q E hr h=>?_
 obtain⟨r,s0,rfl,ra,q⟩:=h
 obtain⟨dx,d,NM,h1,_⟩:=id ra
 refine⟨_,bj (cf (eB (aQ (dJ Cn hr (by rfl) (aQ (jk k6 T.cl Mh hr (pv 0)) bq)) bq))),?_⟩
 refine⟨_,rfl,r,dx,_,rfl,h1,rfl,r,s0,rfl,ra,?_⟩
 unfold qg at q⊢
 cases hp:s0.program with
 |none=>
  rw[hp]at q
  exact q
 |some p=>
  rw[hp]at q
  intro a pa pw _
  exact⟨a,p,rfl,pa,pw,fun H' sm=>⟨by show 1<=bz;decide,fun l hl=>q l _ (sm.free hl) (sm.trans (bH.new hl)) bf⟩⟩
theorem yU{p:aO}{ns:List Int}(h:¬iz p ns):mI ns=tx (ns.map fun n=>n.toNat)/\(ns.map fun n=>n.toNat).length=p.length/\∀x∈(ns.map fun n=>n.toNat),x<=10000:=by
 unfold iz at h;have h1:ns.length=p.length:=eS fun z=>h (.inl z)
 have h2:ns.all (fun n=>decide (0<=n)&&decide (n<=10000))=ae:=by
  cases hh:ns.all (fun n=>decide (0<=n)&&decide (n<=10000))with
  |true=>rfl
  |false=>exact(h (.inr hh)).elim
 rw[cY]at h2;have h3:∀n∈ns,0<=n/\n<=10000:=fun n hn=>by simpa using h2 n hn
 refine⟨?_,by rw[aV,h1],fun x hx=>?_⟩
 ·unfold mI tx;rw[dC];refine dk fun n hn=>?_;show V.int n=V.int ((n.toNat:Nat):Int);rw[CZ (h3 n hn).1]
 obtain⟨n,hn,rfl⟩:=di.mp hx;have:=h3 n hn;omega
theorem SK(q:List Nat):tx q=mI (q.map fun(n:Nat)=>(n:Int)):=txI q
def pT(E:XK)(H:Hp)(CN CW:Addr)(s:b9)(ns:List Int)(f:aO->List Nat->Prop):Prop:=qg E H CN s fun p=>if iz p ns then jv E H CW [("number",.int (-5))]else f p (ns.map fun n=>n.toNat)
inductive GV(K:aY)(CS CP CR CN CW:Addr)(vs:ao)(H:Hp)(Q:VK)(E:XK):Prop
 |mk (r l:Addr) (s:b9) (ns:List Int) (_:vs=[.ref r,.ref l]) (_:iF CS CP CR H r s) (_:dw K H l (mI ns)) (_:pT E H CN CW s ns fun p q=>CQ H Q [((i8 p q:Nat):Int)])
def Gj(p:aO)(q:List Nat):List Int:=match eP p q with
 |none=>[0]
 |some x=>[1,(x.1:Int),(x.2:Int)]
inductive Dv(K:aY)(CS CP CR CN CW:Addr)(vs:ao)(H:Hp)(Q:VK)(E:XK):Prop
 |mk (r l:Addr) (s:b9) (ns:List Int) (_:vs=[.ref r,.ref l]) (_:iF CS CP CR H r s) (_:dw K H l (mI ns)) (_:pT E H CN CW s ns fun p q=>CQ H Q (Gj p q))
theorem Rj{f CS CP CR CN CW:Addr}{fd:bC}(F:iG K "room" "Rooms.room" vD f fd)(T:Qn K CR)(Mh:Me P w K mg base (k7 P w) 4 CR "held_program" dS (rn CS CP CR CN))(Cl:Fn P w K mg base (k7 P w) 4 "look_at_plan" xH (G5 K CS CP CW))(Cr:Fn P w K mg base eM 1 "room_of" xH (QW K CS CP)):
 dy P w K mg base (k7 P w) 5 f fd wu (GV K CS CP CR CN CW):=by
 refine DV F zR fun fz A outer s H vs Q E hr h=>?_
 obtain⟨r,l,s0,ns,rfl,ra,hn,q⟩:=h
 obtain⟨dx,d,NM,h1,_⟩:=id ra
 have nd:=zR.nd
 refine⟨_,bh (jB 2 nd (jk k6 T.cl Mh hr (pv 0)))
  (bh (dN (rN Cl k6 hr (by rfl) (aQ (pv 2) (aQ (pv 1) bq))))
  (bj (cf (eB (aQ (dJ Cr (hr.mono (by decide)) (by rfl) (aQ (pv 2) (aQ (pv 1) bq))) bq))))),?_⟩
 refine⟨_,rfl,r,dx,_,rfl,h1,rfl,r,s0,rfl,ra,?_⟩
 unfold pT qg at q
 unfold qg
 cases hp:s0.program with
 |none=>
  rw[hp]at q
  exact q
 |some p=>
  rw[hp]at q
  intro a pa pw _
  refine⟨_,rfl,_,rfl,a,l,p,ns,rfl,pa,hn,?_⟩
  by_cases hb:iz p ns
  ·have q:if iz p ns then _ else _:=q
   rw[da hb]at q⊢
   exact q
  have q:if iz p ns then _ else _:=q
  rw[cQ hb]at q⊢
  obtain⟨g1,g2,g3⟩:=yU hb
  rw[g1]at hn
  exact⟨_,rfl,_,rfl,a,l,p,_,rfl,pa,pw,hn,g2,fun H' sm=>⟨by show 1<=bz;decide,fun n hl=>q n _ (sm.free hl) (sm.trans (bH.new hl)) bf⟩⟩
theorem O0{f CS CP CR CN CW:Addr}{fd:bC}(F:iG K "check" "Rooms.check" ua f fd)(T:Qn K CR)(hl:mg "len"=ab)(Mh:Me P w K mg base (k7 P w) 4 CR "held_program" dS (rn CS CP CR CN))(Cl:Fn P w K mg base (k7 P w) 4 "look_at_plan" xH (G5 K CS CP CW))(Cf:Fn P w K mg base eM 4 "first_clash" xH (acZ K CS CP)):
 dy P w K mg base (k7 P w) 5 f fd wu (Dv K CS CP CR CN CW):=by
 refine DV F xr fun fz A outer s H vs Q E hr h=>?_
 obtain⟨r,l,s0,ns,rfl,ra,hn,q⟩:=h
 obtain⟨dx,d,NM,h1,_⟩:=id ra
 have nd:=xr.nd
 refine⟨_,bh (jB 2 nd (jk k6 T.cl Mh hr (pv 0)))
  (bh (dN (rN Cl k6 hr (by rfl) (aQ (pv 2) (aQ (pv 1) bq))))
  (bh (jB 3 nd (dJ Cf hr (by rfl) (aQ (pv 2) (aQ (pv 1) bq))))
  (bh (d9 (cS iY (dD cJ (by rfl) hl cx (aQ (pv 3) bq)) cG (dg _)) (bj (cf (eB (aQ cG bq)))) cT)
  (bj (cf (fZ xM (eB (aQ cG bq)) (pv 3))))))),?_⟩
 refine⟨_,rfl,r,dx,_,rfl,h1,rfl,r,s0,rfl,ra,?_⟩
 unfold pT qg at q
 unfold qg
 cases hp:s0.program with
 |none=>
  rw[hp]at q
  exact q
 |some p=>
  rw[hp]at q
  intro a pa pw _
  refine⟨_,rfl,_,rfl,a,l,p,ns,rfl,pa,hn,?_⟩
  by_cases hb:iz p ns
  ·have q:if iz p ns then _ else _:=q
   rw[da hb]at q⊢
   exact q
  have q:if iz p ns then _ else _:=q
  rw[cQ hb]at q⊢
  obtain⟨g1,g2,g3⟩:=yU hb
  rw[g1]at hn
  generalize hQ:(ns.map fun n=>n.toNat)=qs at q hn g2
  refine⟨_,rfl,_,rfl,a,l,p,qs,rfl,pa,pw,hn,g2,fun b H' nb sm Po=>?_⟩
  refine⟨_,rfl,b,_,rfl,.inl (dw.of Po),rfl,_,rfl,?_⟩
  have q:CQ H Q (Gj p qs):=q
  unfold Gj at q
  unfold Iy at Po⊢
  cases hf:eP p qs with
  |none=>
   rw[hf]at q
   exact dM ⟨by show 1<=bz;decide,fun n hl=>q n _ (sm.free hl) (sm.trans (bH.new hl)) bf⟩
  |some x=>
   rw[hf]at q Po
   refine cE ⟨by show 1<=bz;decide,fun n hl=>⟨_,rfl,n,b,_,_,rfl,rfl,bf,by rw[bB (bP Po hl)];exact Po,by show 1+2<=bz;decide,fun n2 uw=>?_⟩⟩
   exact q n2 _ (sm.free ((bH.new hl).free uw)) ((sm.trans (bH.new hl)).trans (bH.new uw)) bf
def GR(CS CP:Addr):Sp:=Oy CS CP fun p H Q=>∀r H' (ts:ag),bH H H'->H' r=aa (.lst (ts.map V.ref))->ts.length=p.length->(∀i,i<p.length->∃t,ts[i]?=aa t/\H' t=aa (.tup [.int (bE p i:Nat),.int (dj p i:Nat)]))->Q (.ref r) H'
theorem U4(CS CP:Addr)(vs:ao)(H:Hp)(Q:VK)(E:XK)(h:Br CS CP vs H Q E):GR CS CP vs H Q E:=by
 obtain⟨a,p,rfl,pa,pw,q⟩:=h;exact⟨a,p,rfl,pa,pw,fun r H' ts s e _ f=>q r H' s ⟨ts,e,f⟩⟩
def D3(p:aO)(n:Nat):List Int:=0::((bw n).flatMap fun a=>[bE p a,dj p a]).map fun(n:Nat)=>(n:Int)
theorem ET(p:aO)(n:Nat):D3 p (n+1)=D3 p n++[((bE p n:Nat):Int),((dj p n:Nat):Int)]:=by
 unfold D3;rw[fe,sv,cg];rfl
theorem HW(p:aO):∀n,(D3 p n).length=1+2*n
 |0=>rfl
 |n+1=>by
  rw[ET,bR,HW p n];show _+2=_;omega
inductive G0(CS CP CR CN:Addr)(vs:ao)(H:Hp)(Q:VK)(E:XK):Prop
 |mk (r:Addr) (s:b9) (_:vs=[.ref r]) (_:iF CS CP CR H r s) (_:qg E H CN s fun p=>CQ H Q (D3 p p.length))
theorem Fj{f CS CP:Addr}{fd:bC}(F:iG K "live_ranges" "live_ranges" tU f fd)(hz:mg "zip"=ab)(NP:mg "list"=ab)
 (Cf:Fn P w K mg base eM 1 "first_times" jV (GS CS CP))(Cl:Fn P w K mg base eM 2 "last_times" jV (S2 CS CP)):dy P w K mg base eM 3 f fd jV (GR CS CP):=by
 refine F.ok Hh fun fz A outer s H vs Q E hr h=>?_
 obtain⟨a,p,rfl,pa,pw,q⟩:=h
 have fw:=pw.j8
 refine⟨_,bj (cf (aac rfl (by rfl) NP (by rfl) hz (aQ (dJ Cf (hr.mono (by decide)) (by rfl) (aQ (pv 0) bq)) (aQ (dJ Cl hr (by rfl) (aQ (pv 0) bq)) bq)))),?_⟩
 refine⟨_,rfl,a,p,rfl,pa,pw,fun l1 H1 n1 s1 e1=>?_⟩
 refine⟨_,rfl,a,p,rfl,pa.same s1,pw,fun l2 H2 n2 s2 e2=>?_⟩
 refine⟨l1,l2,_,_,rfl,dw.of (s2 _ _ e1),dw.of e2,by rw[eA,eA,aV,aV],by rw[eA,aV,b8];omega,fun l ts H3 _ s3 hl pr=>?_⟩
 have tl:ts.length=p.length:=by
  have:=dO pr;rw[yu,eA,eA,aV,aV,b8,FV]at this;exact this
 refine q l H3 ts ((s1.trans s2).trans s3) hl tl fun i hi=>?_
 obtain⟨t,ht,e⟩:=uL (b:=(V.int (bE p i:Nat),V.int (dj p i:Nat))) pr (by
  rw[mC];unfold tx;rw[bL,bL,bL,bL,fA hi];exact⟨rfl,rfl⟩)
 exact⟨t,ht,e⟩
theorem Ro{f CS CP CR CN:Addr}{fd:bC}(F:iG K "live" "Rooms.live" vI f fd)(T:Qn K CR)(Mh:Me P w K mg base (k7 P w) 4 CR "held_program" dS (rn CS CP CR CN))(Cl:Fn P w K mg base eM 3 "live_ranges" jV (GR CS CP)):
 dy P w K mg base (k7 P w) 5 f fd dS (G0 CS CP CR CN):=by
 refine DV F zV fun fz A outer s H vs Q E hr h=>?_
 obtain⟨r,s0,rfl,ra,q⟩:=h
 have nd:=zV.nd
 refine⟨_,bh (jB 1 nd (eB (aQ cG bq)))
  (bh (fg (Hy k6) rfl (fT (dJ Cl (hr.mono (by decide)) (by rfl) (aQ (jk k6 T.cl Mh hr (pv 0)) bq))) (qA rfl (fq (o3 2 nd) (fq (o3 3 nd) mE)))
   (bj (dN (mq cj gu gd pF (pv 1) (aQ (eB (aQ (pv 2) (aQ (pv 3) bq))) bq)))))
  (bj (cf (pv 1)))),?_⟩
 refine⟨by show 1<=bz;decide,fun n hn=>?_⟩
 have s1:bH H (upd H n (.lst [V.int 0])):=bH.new hn
 have ra1:=ra.same s1
 obtain⟨dx,d,NM,h1,_⟩:=id ra1
 refine⟨_,rfl,r,dx,_,rfl,h1,rfl,r,s0,rfl,ra1,?_⟩
 unfold qg at q⊢
 cases hp:s0.program with
 |none=>
  rw[hp]at q
  exact jv.on q s1
 |some p=>
  rw[hp]at q
  intro a pa pw _
  have fw:=pw.j8
  refine⟨a,p,rfl,pa,pw,fun g H2 ts s2 hg tl ft=>?_⟩
  have sH:=s1.trans s2
  have zw:H2 n=aa (.lst [V.int 0]):=s2 _ _ bf
  have ngn:g≠n:=fun z=>by
   rw[z,zw]at hg;have:=HO.lst.inj (bT hg);cases ts with
   |nil=>cases this
   |cons t ts=>cases this
  have ntn:∀{t:Addr}{xs:ao},H2 t=aa (.tup xs)->t≠n:=fun e=>lE e zw (by intro z;cases z)
  refine⟨g,rfl,⟨_,dw.of hg⟩,f7 (K:=K) (a:=g) (xs:=ts.map V.ref) (fun i σ H'=>Ue fun v2 v3=>σ=[aa (.ref r),aa (.ref n),v2,v3]/\qG n H2 H'/\H' n=aa (.lst (mI (D3 p i)))) ⟨ab,ab,rfl,fun _ _ _ e=>e,zw⟩ (fun i σ H' _ ⟨_,_,_,bt,_⟩=>dw.of (bt _ _ ngn hg)) ?_ ?_⟩
  ·rintro i y σ H' hy ⟨v2,v3,rfl,bt,hn3⟩
   have il:i<p.length:=by
    have:=(aZ.mp hy).1;rw[aV,tl]at this;exact this
   obtain⟨t,ht,et⟩:=ft i il
   have ey:y=V.ref t:=by
    rw[iw ht]at hy;exact(bT hy).symm
   subst ey
   have et':=bt _ _ (ntn et) et
   refine⟨t,_,rfl,wF.of et',rfl,_,_,rfl,_,_,rfl,rfl,?_⟩
   refine⟨_,rfl,.inl ⟨rfl,_,dw.of hn3⟩,_,rfl,_,rfl,by show 2<=bz;decide,fun b hb=>?_⟩
   have nb:n≠b:=bP hn3 hb
   refine⟨n,b,_,_,rfl,rfl,by rw[bB nb];exact hn3,bf,?_,?_⟩
   ·rw[ku,HW,bZ]
    show _+2<=_
    omega
   refine⟨aa (.int (bE p i:Nat)),aa (.int (dj p i:Nat)),rfl,fun c o nc e=>?_,?_⟩
   ·have:=bt c o nc e
    rw[bB nc,bB (bP this hb)]
    exact this
   rw[bf,ET]
   unfold mI
   rw[cg]
   rfl
  rintro σ H' ⟨v2,v3,rfl,bt,hn3⟩
  rw[aV,tl]at hn3
  refine⟨_,rfl,q n H' hn (fun b o e=>bt b o (bP e hn) (sH _ _ e)) hn3⟩
theorem aaN{H:Hp}{d:Addr}{dat:List (Nat×List Int)}{ef:List (Key×V)}(f:∀n:Nat,match dat.find? fun x=>x.1==n with
 |none=>l9 ef (cN (n:Int))=ab
 |some x=>∃b,l9 ef (cN (n:Int))=aa (.ref b)/\H b=aa (.lst (mI x.2)))(n:Nat):(l9 ef (cN (n:Int))).isSome=dat.any fun x=>x.1==n:=by
 have h:=f n
 cases hf:dat.find? fun x=>x.1==n with
 |none=>
  rw[hf]at h
  have h:l9 ef (cN (n:Int))=ab:=h
  rw[h]
  exact(hX.mpr (kM.mp hf)).symm
 |some x=>
  rw[hf]at h
  obtain⟨b,e,_⟩:=h
  rw[e]
  have hx:(x.1==n)=ae:=by simpa using yw hf
  exact(fj.mpr ⟨x,mB hf,hx⟩).symm
theorem Gf{p:aO}(pw:um p)(q:List Nat)(dat:List (Nat×List Int)):(fG (jm p q dat)).length<=1560:=by
 rw[W5];have:=LW pw q (jN p q dat (wO p q) p.length) p.length (bu _);have:=pw.j8;omega
theorem Ol{p:aO}(pw:um p):∀a,a<=p.length->sumTo p a<=64*a
 |0,_=>by unfold sumTo;simp
 |a+1,h=>by
  rw[Ao];have:=Ol pw a (by omega);obtain⟨s,hs⟩:=uW (p:=p) (i:=a) (by omega);have l:=pw.len s (br hs);rw[iR hs];omega
theorem Q3{p:aO}(pw:um p):(cP p).length=p.length/\∀x∈cP p,x<=10000:=by
 refine⟨by unfold cP;simp,fun x hx=>?_⟩;unfold cP at hx;obtain⟨a,ha,rfl⟩:=di.mp hx;have al:=cn.mp ha;have:=Ol pw a (by omega);have:=pw.j8;show sumTo p a<=_;omega
inductive WM(CS CP CR CM:Addr)(vs:ao)(H:Hp)(Q:VK)(E:XK):Prop
 |mk (r a:Addr) (s:b9) (p:aO) (_:vs=[.ref r,.ref a]) (_:iF CS CP CR H r s) (_:jz CS CP H a p) (_:um p) (_:if eC s p=af then jv E H CM [("number",.int (-10))]else∀H',bH H H'->Q .j7 H')
inductive LA(K:aY)(CS CP CR CN CW CM:Addr)(vs:ao)(H:Hp)(Q:VK)(E:XK):Prop
 |mk (r l:Addr) (s:b9) (ns:List Int) (_:vs=[.ref r,.ref l]) (_:iF CS CP CR H r s) (_:dw K H l (mI ns)) (_:pT E H CN CW s ns fun p q=>if eC s p=af then jv E H CM [("number",.int (-10))]else CQ H Q (0::fG (jm p q s.data)))
inductive Dw(CS CP CR CN CM:Addr)(vs:ao)(H:Hp)(Q:VK)(E:XK):Prop
 |mk (r:Addr) (s:b9) (_:vs=[.ref r]) (_:iF CS CP CR H r s) (_:qg E H CN s fun p=>if eC s p=af then jv E H CM [("number",.int (-10))]else CQ H Q (0::fG (nA p s.data)))
theorem DR{f CS CP CR CM:Addr}{fd:bC}(F:iG K "look_for_data" "Rooms.look_for_data" kR f fd)(T:Qn K CR)(M:Ec P w K mg base "MissingData" CM dS (iL K (-10)))(Ci:Fn P w K mg base eM 1 "input_numbers" jV (w9 CS CP)):
 dy P w K mg base (k7 P w) 4 f fd ["self","program"] (WM CS CP CR CM):=by
 refine DV F nZ fun fz A outer s H vs Q E hr h=>?_
 obtain⟨r,a,s0,p,rfl,ra,pa,pw,q⟩:=h
 have fw:=pw.j8
 have hu:=Ph hr
 have nd:=nZ.nd
 refine⟨_,bj (fg (Hy k6) rfl (fT (dJ Ci (hr.mono (by decide)) (by rfl) (aQ (pv 1) bq))) (o3 2 nd)
  (bj (d9 (DI (DL hu (pv 2) (cw (pv 0) rfl))) (bj (kK k6 rfl (ug M hr (by rfl)))) cT))),?_⟩
 refine⟨_,rfl,a,p,rfl,pa,fw,fun li H1 nli s1 NP=>?_⟩
 obtain⟨dx,d,NM,h1,_,ef,hk,_,fk⟩:=ra.same s1
 refine⟨li,rfl,⟨_,dw.of NP⟩,f7 (K:=K) (a:=li) (xs:=tx (dv p)) (fun i σ H'=>H'=H1/\(((dv p).take i).all fun a=>s0.data.any fun x=>x.1==a)=ae/\∃v2,σ=[aa (.ref r),aa (.ref a),v2]) ⟨rfl,rfl,ab,rfl⟩ (fun i σ H' _ ⟨e,_⟩=>by rw[e];exact dw.of NP) ?_ ?_⟩
 ·rintro i y σ H' hi ⟨rfl,al,v2,rfl⟩
  obtain⟨n,hn,rfl⟩:=mO hi
  refine⟨_,rfl,_,rfl,r,CR,dx,_,_,rfl,h1,T.cl,T.n2,Tc,d,_,rfl,zC.k (k:=cN (n:Int)) hk,_,rfl,?_⟩
  rw[aaN (H:=H') (d:=d) fk]
  cases hd:s0.data.any fun x=>x.1==n with
  |false=>
   have:eC s0 p=af:=by
    unfold eC;cases hg:((dv p).all fun a=>s0.data.any fun x=>x.1==a)with
    |false=>rfl
    |true=>
     have:=cY.mp hg n (br hn);rw[hd]at this;cases this
   rw[da this]at q
   exact dM (j4 M (jv.on q s1))
  |true=>
   refine cE ⟨rfl,?_,_,rfl⟩
   rw[take_snoc hn,Jl,al]
   simp[hd]
 rintro σ H' ⟨rfl,al,v2,rfl⟩
 rw[eA,dA]at al
 have:¬eC s0 p=af:=by
  unfold eC;rw[al];decide
 rw[cQ this]at q
 exact q H' s1
theorem UW{f CS CP CR CN CW CM:Addr}{fd:bC}(F:iG K "run" "Rooms.run" xD f fd)(T:Qn K CR)(Mh:Me P w K mg base (k7 P w) 4 CR "held_program" dS (rn CS CP CR CN))(Cl:Fn P w K mg base (k7 P w) 4 "look_at_plan" xH (G5 K CS CP CW))(Md:Me P w K mg base (k7 P w) 4 CR "look_for_data" ["self","program"] (WM CS CP CR CM))(Cr:Fn P w K mg base eM 5 "run_by_plan" Hr (QV K CS CP)):
 dy P w K mg base (k7 P w) 6 f fd wu (LA K CS CP CR CN CW CM):=by
 refine DV F By fun fz A outer s H vs Q E hr h=>?_
 obtain⟨r,l,s0,ns,rfl,ra,hn,q⟩:=h
 obtain⟨dx,d,NM,h1,_,hd⟩:=id ra
 have nd:=By.nd
 have NO:gG 4 _:=hr.mono (by decide)
 refine⟨_,bh (jB 2 nd (jk k6 T.cl Mh NO (pv 0)))
  (bh (dN (rN Cl k6 NO (by rfl) (aQ (pv 2) (aQ (pv 1) bq))))
  (bh (dN (kT k6 T.cl Md NO (pv 0) (aQ (pv 2) bq)))
  (bj (cf (fZ xM (eB (aQ cG bq)) (dJ Cr hr (by rfl) (aQ (pv 2) (aQ (cw (pv 0) rfl) (aQ (pv 1) bq))))))))),?_⟩
 refine⟨_,rfl,r,dx,_,rfl,h1,rfl,r,s0,rfl,ra,?_⟩
 unfold pT qg at q
 unfold qg
 cases hp:s0.program with
 |none=>
  rw[hp]at q
  exact q
 |some p=>
  rw[hp]at q
  intro a pa pw ln
  refine⟨_,rfl,_,rfl,a,l,p,ns,rfl,pa,hn,?_⟩
  by_cases hb:iz p ns
  ·have q:if iz p ns then _ else _:=q
   rw[da hb]at q⊢
   exact q
  have q:if iz p ns then _ else _:=q
  rw[cQ hb]at q⊢
  obtain⟨g1,g2,g3⟩:=yU hb
  rw[g1]at hn
  generalize hQ:(ns.map fun n=>n.toNat)=qs at q hn g2 g3
  refine⟨_,rfl,r,dx,_,rfl,h1,rfl,_,rfl,r,a,s0,p,rfl,ra,pa,pw,?_⟩
  by_cases hg:eC s0 p=af
  ·rw[da hg]
   rw[da hg]at q
   exact q
  rw[cQ hg]
  rw[cQ hg]at q
  have K2:oA p s0.data:=by
   unfold oA;unfold eC at hg;exact E8 _|>.mp hg
  intro H1 s1
  refine⟨by show 1<=bz;decide,fun n hn1=>?_⟩
  have s2:bH H1 (upd H1 n (.lst [V.int 0])):=bH.new hn1
  have Jd:=s1.trans s2
  refine⟨_,rfl,_,rfl,r,CR,dx,_,_,rfl,Jd _ _ h1,T.cl,T.n2,Tc,_,rfl,a,d,l,p,qs,s0.data,rfl,pa.same Jd,pw,Jd.seq hn,g2,g3,hd.same Jd,ln,K2,fun b H2 nb s3 Ip=>?_⟩
  have ol:=Gf pw qs s0.data
  refine⟨n,b,_,_,rfl,rfl,s3 _ _ bf,Ip,by rw[ku,bZ];show 1+_<=_;omega,fun n2 zw=>?_⟩
  exact q n2 _ ((Jd.trans s3).free zw) ((Jd.trans s3).trans (bH.new zw)) bf
theorem O1{f CS CP CR CN CM:Addr}{fd:bC}(F:iG K "apart" "Rooms.apart" ub f fd)(T:Qn K CR)(Mh:Me P w K mg base (k7 P w) 4 CR "held_program" dS (rn CS CP CR CN))(Md:Me P w K mg base (k7 P w) 4 CR "look_for_data" ["self","program"] (WM CS CP CR CM))(Cr:Fn P w K mg base eM 5 "run_by_plan" Hr (QV K CS CP))(Co:Fn P w K mg base eM 1 "plan_one_behind_another" jV (WH CS CP)):
 dy P w K mg base (k7 P w) 6 f fd dS (Dw CS CP CR CN CM):=by
 refine DV F xt fun fz A outer s H vs Q E hr h=>?_
 obtain⟨r,s0,rfl,ra,q⟩:=h
 obtain⟨dx,d,NM,h1,_,hd⟩:=id ra
 have nd:=xt.nd
 have NO:gG 4 _:=hr.mono (by decide)
 refine⟨_,bh (jB 1 nd (jk k6 T.cl Mh NO (pv 0)))
  (bh (dN (kT k6 T.cl Md NO (pv 0) (aQ (pv 1) bq)))
  (bj (cf (fZ xM (eB (aQ cG bq)) (dJ Cr hr (by rfl) (aQ (pv 1) (aQ (cw (pv 0) rfl) (aQ (dJ Co (hr.mono (by decide)) (by rfl) (aQ (pv 1) bq)) bq)))))))),?_⟩
 refine⟨_,rfl,r,dx,_,rfl,h1,rfl,r,s0,rfl,ra,?_⟩
 unfold qg at q⊢
 cases hp:s0.program with
 |none=>
  rw[hp]at q
  exact q
 |some p=>
  rw[hp]at q
  intro a pa pw ln
  refine⟨_,rfl,r,dx,_,rfl,h1,rfl,_,rfl,r,a,s0,p,rfl,ra,pa,pw,?_⟩
  by_cases hg:eC s0 p=af
  ·have q:if eC s0 p=af then _ else _:=q
   rw[da hg]at q⊢
   exact q
  have q:if eC s0 p=af then _ else _:=q
  rw[cQ hg]at q⊢
  have K2:oA p s0.data:=by
   unfold oA;unfold eC at hg;exact E8 _|>.mp hg
  obtain⟨g2,g3⟩:=Q3 pw
  intro H1 s1
  refine⟨by show 1<=bz;decide,fun n hn1=>?_⟩
  have s2:bH H1 (upd H1 n (.lst [V.int 0])):=bH.new hn1
  have Jd:=s1.trans s2
  refine⟨_,rfl,_,rfl,r,CR,dx,_,_,rfl,Jd _ _ h1,T.cl,T.n2,Tc,_,rfl,a,p,rfl,pa.same Jd,pw,fun l H3 nl s3 hl=>?_⟩
  have s13:=Jd.trans s3
  refine⟨a,d,l,p,_,s0.data,rfl,pa.same s13,pw,dw.of hl,g2,g3,hd.same s13,ln,K2,fun b H2 nb s4 Ip=>?_⟩
  have ol:=Gf pw (cP p) s0.data
  have q:CQ H Q (0::fG (nA p s0.data)):=q
  rw[<-Lc pw ln K2]at q
  refine⟨n,b,_,_,rfl,rfl,s4 _ _ (s3 _ _ bf),Ip,by rw[ku,bZ];show 1+_<=_;omega,fun n2 zw=>?_⟩
  exact q n2 _ ((s13.trans s4).free zw) ((s13.trans s4).trans (bH.new zw)) bf
end SR
end
section
namespace SR
open PySem PySem.Spec PyProof.Rows L2 XL sP
variable{P:bY}{w:cX}{K:aY}{mg:aj}{base:Heap}
def TabsOk(T1 T2:Addr)(H:Hp):Prop:=iZ H T1 Mj XU/\iZ H T2 yQ KO
theorem TabsOk.same{T1 T2:Addr}{H H':Hp}(h:TabsOk T1 T2 H)(s:bH H H'):TabsOk T1 T2 H':=⟨h.1.same s,h.2.same s⟩
theorem iZ.but{T T':Addr}{H H':Hp}{pos pos':Pos}{q q':Str}(ne:T≠T')(h:iZ H T pos q)(h':iZ H T' pos' q')(b:IQ T' H H'):iZ H' T pos q:=by
 obtain⟨ps,e1,e2,e3⟩:=h;obtain⟨ps',e',_⟩:=h';refine⟨ps,b _ _ ne e1,e2,e3.imp id fun⟨c,z1,z2⟩=>⟨c,z1,b _ _ (lE z2 e' (by intro z;cases z)) z2⟩⟩
def Le(T1 T2:Addr)(H:Hp)(Q:VK)(z:List Int):Prop:=∀l H',H l=ab->iT H H'->TabsOk T1 T2 H'->H' l=aa (.lst (mI z))->Q (.ref l) H'
theorem iT.free{H H':Hp}(s:iT H H')(t:∀b ps,H b=aa (.F4 ps)->∃ps',H' b=aa (.F4 ps')){l:Addr}(h:H' l=ab):H l=ab:=by
 cases hl:H l with
 |none=>rfl
 |some o=>
  by_cases ht:∃ps,o=.F4 ps
  ·obtain⟨ps,rfl⟩:=ht;obtain⟨ps',e⟩:=t l ps hl;rw[e]at h;cases h
  rw[s l o hl (fun ps z=>ht ⟨ps,z⟩)]at h;cases h
theorem P0{T:Addr}{H H':Hp}{pos:Pos}{q:Str}(b:IQ T H H')(t:iZ H' T pos q):∀c ps,H c=aa (.F4 ps)->∃ps',H' c=aa (.F4 ps'):=fun c ps e=>by
 by_cases z:c=T
 ·obtain⟨p',e',_⟩:=t;rw[z];exact⟨p',e'⟩
 exact⟨ps,b c _ z e⟩
def asI(l:List Nat):List Int:=l.map fun(n:Nat)=>(n:Int)
theorem xS(p:aO)(d:List (Nat×Nat)):(iB p d).length=p.length:=by unfold iB;simp
inductive GW(CS CP CR CN CB T1 T2:Addr)(vs:ao)(H:Hp)(Q:VK)(E:XK):Prop
 |mk (r:Addr) (s:b9) (k:Int) (_:vs=[.ref r,.int k]/\iF CS CP CR H r s/\TabsOk T1 T2 H/\qg E H CN s fun p=>if k<0\/2<k then jv E H CB [("number",.int (-6))]else Le T1 T2 H Q (0::asI (uu p k.toNat)))
inductive GX(K:aY)(CS CP CR CN CW CC T1 T2:Addr)(vs:ao)(H:Hp)(Q:VK)(E:XK):Prop
 |mk (r l:Addr) (s:b9) (ns:List Int) (_:vs=[.ref r,.ref l]) (_:iF CS CP CR H r s) (_:TabsOk T1 T2 H) (_:dw K H l (mI ns)) (_:pT E H CN CW s ns fun p q=>if rj p q=af then jv E H CC [("number",.int (-7))]else Le T1 T2 H Q (0::asI (kX p q)))
theorem cH(k j:Int):decide (V.int k=V.int j)=decide (k=j):=by
 rw[decide_eq_decide];exact⟨fun h=>V.int.inj h,fun h=>by rw[h]⟩
theorem Rk{f CS CP CR CN CB T1 T2:Addr}{fd:bC}(F:iG K "plan" "Rooms.plan" vE f fd)(T:Qn K CR)(ne:T2≠T1)(h0:∃t,mg "ONE_BEHIND_ANOTHER"=aa (.int 0 t))(h1:∃t,mg "IN_ORDER"=aa (.int 1 t))(h2:∃t,mg "LONGEST_FIRST"=aa (.int 2 t))(M:Ec P w K mg base "BeyondLimit" CB dS (iL K (-6)))
 (Mh:Me P w K mg base (k7 P w) 4 CR "held_program" dS (rn CS CP CR CN))(Co:Fn P w K mg base eM 1 "plan_one_behind_another" jV (WH CS CP))(Ci:Fn P w K mg base eM 7 "plan_in_order" jV (Kt CS CP))(Cl:Fn P w K mg base eM 7 "plan_longest_first" jV (WL CS CP T1)):
 dy P w K mg base (k7 P w) 8 f fd ["self","kind"] (GW CS CP CR CN CB T1 T2):=by
 refine DV F zS fun fz A outer s H vs Q E hr h=>?_
 obtain⟨r,s0,k,rfl,ra,tab,q⟩:=h
 obtain⟨dx,d,NM,x9,_,hd⟩:=id ra
 have nd:=zS.nd
 have NO:gG 4 _:=hr.mono (by decide)
 refine⟨_,bh (jB 2 nd (jk k6 T.cl Mh NO (pv 0)))
  (bh (d9 (cS iY (pv 1) (iE (by rfl) h0) (dg _)) (bj (cf (fZ xM (eB (aQ cG bq)) (dJ Co (hr.mono (by decide)) (by rfl) (aQ (pv 2) bq))))) cT)
  (bh (d9 (cS iY (pv 1) (iE (by rfl) h1) (dg _)) (bj (cf (fZ xM (eB (aQ cG bq)) (dJ Ci hr (by rfl) (aQ (pv 2) bq))))) cT)
  (bh (d9 (cS iY (pv 1) (iE (by rfl) h2) (dg _)) (bj (cf (fZ xM (eB (aQ cG bq)) (dJ Cl hr (by rfl) (aQ (pv 2) bq))))) cT)
  (bj (kK k6 rfl (ug M (hr.mono (by decide)) (by rfl))))))),?_⟩
 refine⟨_,rfl,r,dx,_,rfl,x9,rfl,r,s0,rfl,ra,?_⟩
 unfold qg at q⊢
 cases hp:s0.program with
 |none=>
  rw[hp]at q
  exact q
 |some p=>
  rw[hp]at q
  have q:if k<0\/2<k then jv E H CB [("number",.int (-6))]else Le T1 T2 H Q (0::asI (uu p k.toNat)):=q
  intro a pa pw ln
  have fw:=pw.j8
  have calm:∀{n b:Addr}{H1:Hp}{z:List Nat},bH (upd H n (.lst [V.int 0])) H1->H n=ab->H1 b=aa (.lst (tx z))->z.length=p.length->Le T1 T2 H Q (0::asI z)->afT (.ref n) (.ref b) H1 Q:=fun{n b H1 z} s1 hn hb zl q=>by
   have s:bH H H1:=(bH.new hn).trans s1;refine⟨n,b,_,_,rfl,rfl,s1 _ _ bf,hb,by rw[eA,bZ];show 1+_<=_;omega,fun n2 zw=>?_⟩;refine q n2 _ (s.free zw) (iT.of (s.trans (bH.new zw))) (tab.same (s.trans (bH.new zw))) ?_;rw[bf,SK];rfl
  refine⟨_,rfl,rfl,_,rfl,?_⟩
  rw[cH]
  by_cases k0:k=0
  ·rw[qk k0]
   rw[cQ (by omega),k0]at q
   refine dM ⟨by show 1<=bz;decide,fun n hn=>⟨_,rfl,a,p,rfl,pa.same (bH.new hn),pw,fun b H1 nb s1 hb=>?_⟩⟩
   exact calm s1 hn hb (Q3 pw).1 q
  rw[gX k0]
  refine cE ⟨_,rfl,rfl,_,rfl,?_⟩
  rw[cH]
  by_cases k1:k=1
  ·rw[qk k1]
   rw[cQ (by omega),k1]at q
   refine dM ⟨by show 1<=bz;decide,fun n hn=>⟨_,rfl,a,p,rfl,pa.same (bH.new hn),pw,fun b H1 nb s1 hb=>?_⟩⟩
   exact calm s1 hn hb (xS ..) q
  rw[gX k1]
  refine cE ⟨_,rfl,rfl,_,rfl,?_⟩
  rw[cH]
  by_cases k2:k=2
  ·rw[qk k2]
   rw[cQ (by omega),k2]at q
   refine dM ⟨by show 1<=bz;decide,fun n hn=>?_⟩
   have s0':bH H (upd H n (.lst [V.int 0])):=bH.new hn
   have wK:=tab.same s0'
   refine⟨_,rfl,a,p,rfl,pa.same s0',pw,wK.1,fun b H1 nb bt t1 hb=>?_⟩
   have nT:n≠T1:=fun z=>by
    obtain⟨⟨ps,e,_⟩,_⟩:=wK;rw[<-z,bf]at e;cases e
   have sN:iT H H1:=(iT.of s0').trans (iT.ofT (let⟨ps,e,_,_⟩:=wK.1;⟨ps,e⟩) bt)
   have tabs:TabsOk T1 T2 H1:=⟨t1,iZ.but ne wK.2 wK.1 bt⟩
   refine⟨n,b,_,_,rfl,rfl,bt _ _ nT bf,hb,by rw[eA,xS,bZ];show 1+_<=_;omega,fun n2 zw=>?_⟩
   refine q n2 _ (s0'.free (iT.free ((iT.ofT (let⟨ps,e,_,_⟩:=wK.1;⟨ps,e⟩) bt)) (P0 bt t1) zw)) (sN.trans (iT.of (bH.new zw))) (tabs.same (bH.new zw)) ?_
   rw[bf,SK]
   rfl
  rw[gX k2]
  rw[da (by omega)]at q
  refine cE ?_
  exact j4 (σ:=[]) (D:={nx:=fun _ H'=>Q .j7 H',rt:=Q}) M q
theorem Rl{f CS CP CR CN CW CC T1 T2:Addr}{fd:bC}(F:iG K "pack" "Rooms.pack" vF f fd)(T:Qn K CR)(ne:T1≠T2)(hl:mg "len"=ab)(M:Ec P w K mg base "ClashingPlan" CC dS (iL K (-7)))
 (Mh:Me P w K mg base (k7 P w) 4 CR "held_program" dS (rn CS CP CR CN))(Cl:Fn P w K mg base (k7 P w) 4 "look_at_plan" xH (G5 K CS CP CW))(Cf:Fn P w K mg base eM 4 "first_clash" xH (acZ K CS CP))(Cp:Fn P w K mg base eM 6 "packed_plan" xH (Oz K CS CP T2)):
 dy P w K mg base (k7 P w) 7 f fd wu (GX K CS CP CR CN CW CC T1 T2):=by
 refine DV F zT fun fz A outer s H vs Q E hr h=>?_
 obtain⟨r,l,s0,ns,rfl,ra,tab,hn,q⟩:=h
 obtain⟨dx,d,NM,h1,_,hd⟩:=id ra
 have nd:=zT.nd
 have NO:gG 4 _:=hr.mono (by decide)
 refine⟨_,bh (jB 2 nd (jk k6 T.cl Mh NO (pv 0)))
  (bh (dN (rN Cl k6 NO (by rfl) (aQ (pv 2) (aQ (pv 1) bq))))
  (bh (d9 (cS zX (dD cJ (by rfl) hl cx (aQ (dJ Cf NO (by rfl) (aQ (pv 2) (aQ (pv 1) bq))) bq)) cG (dg _)) (bj (kK k6 rfl (ug M (hr.mono (by decide)) (by rfl)))) cT)
  (bj (cf (fZ xM (eB (aQ cG bq)) (dJ Cp hr (by rfl) (aQ (pv 2) (aQ (pv 1) bq)))))))),?_⟩
 refine⟨_,rfl,r,dx,_,rfl,h1,rfl,r,s0,rfl,ra,?_⟩
 unfold pT qg at q
 unfold qg
 cases hp:s0.program with
 |none=>
  rw[hp]at q
  exact q
 |some p=>
  rw[hp]at q
  intro a pa pw ln
  have fw:=pw.j8
  refine⟨_,rfl,_,rfl,a,l,p,ns,rfl,pa,hn,?_⟩
  by_cases hb:iz p ns
  ·have q:if iz p ns then _ else _:=q
   rw[da hb]at q⊢
   exact q
  have q:if iz p ns then _ else _:=q
  rw[cQ hb]at q⊢
  obtain⟨g1,g2,g3⟩:=yU hb
  rw[g1]at hn
  generalize hQ:(ns.map fun n=>n.toNat)=qs at q hn g2 g3
  refine⟨_,rfl,_,rfl,a,l,p,qs,rfl,pa,pw,hn,g2,fun b H1 nb s1 hb1=>?_⟩
  refine⟨b,_,rfl,.inl (dw.of hb1),_,_,rfl,rfl,_,rfl,?_⟩
  have q:if rj p qs=af then jv E H CC [("number",.int (-7))]else Le T1 T2 H Q (0::asI (kX p qs)):=q
  unfold rj at q
  unfold Iy
  cases hf:eP p qs with
  |some x=>
   rw[hf,da (show(aa x).isNone=af from rfl)]at q
   exact dM (j4 M (jv.on q s1))
  |none=>
   rw[hf,cQ (by decide)]at q
   refine cE ⟨by show 1<=bz;decide,fun n hn1=>?_⟩
   have s2:bH H1 (upd H1 n (.lst [V.int 0])):=bH.new hn1
   have Jd:=s1.trans s2
   have wK:=tab.same Jd
   refine⟨_,rfl,_,rfl,a,l,p,qs,rfl,pa.same Jd,pw,Jd.seq hn,g2,wK.2,fun b2 H2 nb2 bt t2 Ip=>?_⟩
   have nT:n≠T2:=fun z=>by
    obtain⟨_,⟨ps,e,_⟩⟩:=wK;rw[<-z,bf]at e;cases e
   have sT:=iT.ofT (let⟨ps,e,_,_⟩:=wK.2;⟨ps,e⟩) bt
   have tabs:TabsOk T1 T2 H2:=⟨iZ.but ne wK.1 wK.2 bt,t2⟩
   refine⟨n,b2,_,_,rfl,rfl,bt _ _ nT bf,Ip,by rw[eA];unfold kX;rw[xS,bZ];show 1+_<=_;omega,fun n2 zw=>?_⟩
   refine q n2 _ (Jd.free (iT.free sT (P0 bt t2) zw)) (((iT.of Jd).trans sT).trans (iT.of (bH.new zw))) (tabs.same (bH.new zw)) ?_
   rw[bf,SK]
   rfl
inductive GZ(K:aY)(CS CP CR CL CW CN:Addr)(vs:ao)(H:Hp)(Q:VK)(E:XK):Prop
 |mk (r l:Addr) (s:b9) (t:List Nat) (_:vs=[.ref r,.ref l]) (_:iF CS CP CR H r s) (_:dw K H l (tx t)) (_:t.length<=100000) (_:match eF t with
 |.error e=>yp E H CL CW CN e
 |.ok p=>∀n H',H n=ab->qG r H H'->iF CS CP CR H' r {program:=aa p}->H' n=aa (.lst (mI [(p.length:Int),((dv p).length:Int)]))->Q (.ref n) H')
theorem jz.keep{CS CP:Addr}{H H':Hp}{a:Addr}{p:aO}(h:jz CS CP H a p)(k1:∀b xs,H b=aa (.lst xs)->H' b=aa (.lst xs))(k2:∀b C dx fs,C=CP\/C=CS->H b=aa (.ins C dx fs)->H' b=aa (.ins C dx fs)):jz CS CP H' a p:=by
 obtain⟨dx,ls,lo,bs,os,h1,h2,h3,h4,h5⟩:=h;refine⟨dx,ls,lo,bs,os,k2 _ _ _ _ (.inl rfl) h1,k1 _ _ h2,Paired.sI h3 fun b x hx=>?_,k1 _ _ h4,Paired.sI h5 fun b x hx=>k1 _ _ hx⟩;obtain⟨dx,lb,e1,e2⟩:=hx;exact⟨dx,lb,k2 _ _ _ _ (.inr rfl) e1,k1 _ _ e2⟩
theorem jz.akv{CS CP CR r dr:Addr}{fr:aq}{H H':Hp}{a:Addr}{p:aO}(h:jz CS CP H a p)(hr:H r=aa (.ins CR dr fr))(n1:CR≠CP)(n2:CR≠CS)(b:qG r H H'):jz CS CP H' a p:=
 h.keep (fun c xs e=>b _ _ (lE e hr (by intro z;cases z)) e) fun c C dx fs hC e=>b _ _ (fun z=>by
  rw[z,hr]at e;cases e;rcases hC with y|y
  ·exact n1 y
  exact n2 y) e
theorem Rn{f CS CP CR CL CW CN:Addr}{fd:bC}(F:iG K "load" "Rooms.load" vH f fd)(T:Qn K CR)(G:FH K CP)(n1:CR≠CP)(n2:CR≠CS)(hl:mg "len"=ab)(Cr:Fn P w K mg base (k7 P w) 9 "read_program" ["text"] (QX K CS CP CL CW CN))(Ci:Fn P w K mg base eM 1 "input_numbers" jV (w9 CS CP)):
 dy P w K mg base (k7 P w) 10 f fd ["self","text"] (GZ K CS CP CR CL CW CN):=by
 refine DV F zU fun fz A outer s H vs Q E hr h=>?_
 obtain⟨r,l,s0,t,rfl,ra,hn,tl,q⟩:=h
 obtain⟨dx,d,NM,h1,_,hd⟩:=id ra
 have nd:=zU.nd
 refine⟨_,bh (jB 2 nd (rN Cr k6 hr (by rfl) (aQ (pv 1) bq)))
  (bh (lC (pv 0) (pv 2) rfl)
  (bh (lC (pv 0) BF rfl)
  (bj (cf (eB (aQ (dD cJ (by rfl) hl cx (aQ (cw (pv 2) rfl) bq)) (aQ (dD cJ (by rfl) hl cx (aQ (dJ Ci (hr.mono (by decide)) (by rfl) (aQ (pv 2) bq)) bq)) bq))))))),?_⟩
 refine⟨_,rfl,l,t,rfl,hn,tl,?_⟩
 cases hp:eF t with
 |error e=>
  rw[hp]at q
  exact q
 |ok p=>
  rw[hp]at q
  intro pw a H1 s1 pa
  have fw:=pw.j8
  refine⟨_,rfl,_,rfl,r,CR,dx,_,rfl,s1 _ _ h1,T.cl,T.n1,(by show 2<1000;decide),?_⟩
  generalize Yg:upd H1 r (.ins CR dx (rL "program" (.ref a) (W7 NM (.ref d))))=H2
  have h2r:H2 r=aa (.ins CR dx (W7 (.ref a) (.ref d))):=by rw[<-Yg,bf];rfl
  have b2:qG r H1 H2:=fun b o nb e=>by rw[<-Yg,bB nb];exact e
  intro d2 hd2
  have nrd:r≠d2:=bP h2r hd2
  refine⟨_,rfl,r,CR,dx,_,rfl,by rw[bB nrd];exact h2r,T.cl,T.n2,(by show 2<1000;decide),?_⟩
  generalize Zo:upd (upd H2 d2 (.dK [])) r (.ins CR dx (rL "data" (.ref d2) (W7 (.ref a) (.ref d))))=H3
  have h3r:H3 r=aa (.ins CR dx (W7 (.ref a) (.ref d2))):=by rw[<-Zo,bf];rfl
  have h3d:H3 d2=aa (.dK []):=by rw[<-Zo,bB (dh nrd),bf]
  have b3:qG r H1 H3:=fun b o nb e=>by
   have:=b2 b o nb e;rw[<-Zo,bB nb,bB (bP this hd2)];exact this
  have pa3:jz CS CP H3 a p:=pa.akv (s1 _ _ h1) n1 n2 b3
  have ra3:iF CS CP CR H3 r {program:=aa p}:=⟨dx,d2,.ref a,h3r,⟨a,rfl,pa3,pw,(fun x hx=>by cases hx),fun x hx=>by cases hx⟩,[],h3d,⟨Li,by simp⟩,fun n=>rfl⟩
  obtain⟨dp,ls,lo,bs,os,v⟩:=pa3.v
  refine⟨_,rfl,a,CP,dp,_,_,rfl,v.ha,G.cl,G.n1,jO,ls,_,rfl,.inl (dw.of v.l5),_,rfl,a,p,rfl,pa3,fw,fun li H4 nli s4 NP=>⟨li,_,rfl,.inl (dw.of NP),by show 2<=bz;decide,fun n hn4=>?_⟩⟩
  have s5:bH H4 (upd H4 n (.lst [.int ((bs.map V.ref).length:Int),.int ((tx (dv p)).length:Int)])):=bH.new hn4
  refine q n _ ?_ (fun b o nb e=>s5 _ _ (s4 _ _ (b3 b o nb (s1 _ _ e)))) (ra3.same (s4.trans s5)) ?_
  ·cases hh:H n with
   |none=>rfl
   |some o=>
    by_cases z:n=r
    ·rw[z,s4 _ _ h3r]at hn4
     cases hn4
    rw[s4 _ _ (b3 n o z (s1 _ _ hh))]at hn4
    cases hn4
  rw[bf,aV,v.bl,eA]
  rfl
theorem VH:ip "ord"=aa (.builtin "ord"):=by decide+kernel
theorem adF{x:Str}{g:TG}{tt:TT}{te:TE}{vs:List Nat}{σ:L2.St}{H1:Hp}{D:Addr}{Qd:Hp->Prop}(Pv:Nat->Hp->Prop)(h0:Pv 0 (upd H1 D (.lst [])))
 (hs:∀i c H,x.cps[i]?=aa c->Pv i H->g (.str ⟨#[c]⟩) (wipe σ vs) H fun σ2 H2=>wipe σ2 vs=wipe σ vs/\tt σ2 H2 fun b H3=>
  if b=ae then te σ2 H3 fun y H4=>∃acc,H4 D=aa (.lst acc)/\acc.length<bz/\Pv (i+1) (upd H4 D (.lst (acc++[y])))else Pv (i+1) H3)(hd:∀H,Pv x.cps.size H->Qd H):
 ∃W:Nat->Nat->Hp->Prop,(∃m,W 0 m (upd H1 D (.lst [])))/\∀i m H,W i m H->
  ((Its x).stop i H/\Qd H)\/((Its x).go i H/\∃Nx:Hp->Prop,(∀H',Nx H'->∃m',m'<m/\W (i+1) m' H')/\∀y H',(Its x).Wh i H y H'->g y (wipe σ vs) H' fun σ2 H2=>wipe σ2 vs=wipe σ vs/\tt σ2 H2 fun b H3=>
   if b=ae then te σ2 H3 fun y H4=>∃acc,H4 D=aa (.lst acc)/\acc.length<bz/\Nx (upd H4 D (.lst (acc++[y])))else Nx H3):=by
 refine⟨fun i m H=>m=x.cps.size-i/\i<=x.cps.size/\Pv i H,⟨x.cps.size,by simp,cC _,h0⟩,?_⟩
 rintro i m H ⟨rfl,hi,p⟩
 by_cases zy:i<x.cps.size
 ·refine .inr ⟨zy,Pv (i+1),fun H' p'=>⟨x.cps.size-(i+1),by omega,rfl,zy,p'⟩,fun y H' z=>?_⟩
  obtain⟨e,c,hc,e2⟩:=z
  subst e e2
  exact hs i c _ hc p
 have e:i=x.cps.size:=by omega
 subst e
 exact .inl ⟨bu _,hd H p⟩
theorem Iv{α:Type}(f:α->List Nat)(k:Nat):∀l:List α,(∀x∈l,(f x).length<=k)->(l.flatMap f).length<=k*l.length
 |[],_=>by simp
 |x::l,h=>by
  rw[iW,bR,cK,Nat.mul_succ];have h1:=h x (bO ..);have h2:=Iv f k l fun y hy=>h y (bD _ hy);omega
theorem xG{p:aO}(pw:um p):(eZ p).length<=10000:=by
 have:(eZ p).length<=200*p.length:=Iv (Gs p) 200 p fun s hs=>by
  rw[<-OQ];exact plain_len (G6 pw hs)
 have:=pw.j8;omega
inductive Du(CS CP CR CN:Addr)(vs:ao)(H:Hp)(Q:VK)(E:XK):Prop
 |mk (r:Addr) (s:b9) (_:vs=[.ref r]) (_:iF CS CP CR H r s) (_:qg E H CN s fun p=>CQ H Q (0::asI (eZ p)))
theorem OZ{f CS CP CR CN:Addr}{fd:bC}(F:iG K "plain" "Rooms.plain" t9 f fd)(T:Qn K CR)(hor:mg "ord"=ab)(Mh:Me P w K mg base (k7 P w) 4 CR "held_program" dS (rn CS CP CR CN))(Ct:Fn P w K mg base eM 2 "plain_text" jV (S4 CS CP)):
 dy P w K mg base (k7 P w) 5 f fd dS (Du CS CP CR CN):=by
 refine DV F xq fun fz A outer s H vs Q E hr h=>?_
 obtain⟨r,s0,rfl,ra,q⟩:=h
 have nd:=xq.nd
 refine⟨_,bj (cf (fZ xM (eB (aQ cG bq)) (KH (own:=[("sign",1)]) rfl nd (adf (dJ Ct (hr.mono (by decide)) (by rfl) (aQ (jk k6 T.cl Mh hr (pv 0)) bq))) (rZ (by rfl)) (fun s H C cl fp=>o3 1 nd) (fun s H C cl fp=>Gb)
  (fun s H C cl fp=>dD YC (by rfl) hor VH (aQ (pv 1) bq))))),?_⟩
 refine⟨by show 1<=bz;decide,fun n hn=>?_⟩
 have s1:bH H (upd H n (.lst [V.int 0])):=bH.new hn
 have ra1:=ra.same s1
 obtain⟨dx,d,NM,h1,_⟩:=id ra1
 refine⟨_,rfl,r,dx,_,rfl,h1,rfl,r,s0,rfl,ra1,?_⟩
 unfold qg at q⊢
 cases hp:s0.program with
 |none=>
  rw[hp]at q
  exact jv.on q s1
 |some p=>
  rw[hp]at q
  intro a pa pw _
  have tl:=xG pw
  refine⟨a,p,rfl,pa,pw,fun H1 s2=>⟨_,rfl,fun D hD=>?_⟩⟩
  have Jd:=s1.trans s2
  have sz:(st (eZ p)).cps.size=(eZ p).length:=by unfold st;simp
  refine adF (fun i G=>bH H1 G/\G D=aa (.lst (tx ((eZ p).take i)))) ⟨bH.new hD,bf⟩ ?_ ?_
  ·rintro i c G hc ⟨sg,hG⟩
   have hc:(eZ p)[i]?=aa c:=by unfold st at hc;simpa using hc
   refine⟨rfl,?_⟩
   unfold UB
   refine dM ⟨_,rfl,_,rfl,rfl,_,hG,by rw[eA,dX,bZ];omega,bH.put hD sg,?_⟩
   rw[bf,take_snoc hc,<-Dp]
   rfl
  rintro G ⟨sg,hG⟩
  rw[sz,dA]at hG
  have sG:=Jd.trans sg
  refine⟨n,D,_,_,rfl,rfl,sg _ _ (s2 _ _ bf),hG,by rw[eA,bZ];show 1+_<=_;omega,fun n2 zw=>?_⟩
  refine q n2 _ (sG.free zw) (sG.trans (bH.new zw)) ?_
  rw[bf,SK]
  rfl
theorem YG:ip "list"=aa (.type "list"):=by decide+kernel
theorem adN(l:List Nat)(z:Int):ve (.int z) (tx l)=(decide (0<=z)&&l.contains z.toNat):=by
 by_cases h:0<=z
 ·obtain⟨n,rfl⟩:=QB h;rw[qk h,eI,X5];rfl
 rw[gX h,eD];unfold ve tx;rw[Qz,hX];intro x _ e;have e:((x:Int)==z)=ae:=e;have:=beq_iff_eq.mp e;omega
theorem XY(ef:List (Key×V))(k:Key)(v:V):(putK ef k v).map (·.1)=if(ef.any fun kv=>decide (kv.1=k))=ae then ef.map (·.1)else ef.map (·.1)++[k]:=by
 unfold putK;split
 ·rw[dC];refine dk fun x _=>?_;show(if x.1=k then(x.1,v)else x).1=x.1;split<;>rfl
 rw[cg];rfl
theorem AW.len{ef:List (Key×V)}(h:AW ef):ef.length<=24:=by
 have:=jU h.1 h.2;rw[aV,aV,b8]at this;exact this
theorem AW.put{ef:List (Key×V)}(h:AW ef){n:Nat}(hn:n<24)(v:V):AW (putK ef (cN (n:Int)) v):=by
 unfold AW;rw[XY];split
 ·exact h
 rename_i hk;refine⟨?_,fun k hk2=>?_⟩
 ·rw[vb];refine⟨h.1,by simp,fun a ha b hb e=>hk ?_⟩;rw[bU.mp hb]at e;obtain⟨x,hx,ex⟩:=di.mp ha;exact fj.mpr ⟨x,hx,by rw[ex,e];exact qk rfl⟩
 rcases d7.mp hk2 with y|y
 ·exact h.2 k y
 rw[bU.mp y];exact di.mpr ⟨n,cn.mpr hn,rfl⟩
theorem Pw(l:List (Nat×List Int)){n m:Nat}(h:n≠m):(l.filter fun x=>x.1 != m).find? (fun x=>x.1==n)=l.find? fun x=>x.1==n:=by
 induction l with
 |nil=>rfl
 |cons x l ih=>
  by_cases e:x.1=m
  ·rw[gM (by simp[e]),ih,kN (by simp[e];exact fun z=>h z.symm)]
  rw[fE (by simp[e])];by_cases e2:x.1=n
  ·rw[wY (by simp[e2]),wY (by simp[e2])]
  rw[kN (by simp[e2]),kN (by simp[e2]),ih]
def Hd(s:b9)(n:Nat)(ds:List Int):b9:={s with data:=(n,ds)::s.data.filter fun x=>x.1 != n}
inductive Lz(K:aY)(CS CP CR CN CA CD:Addr)(vs:ao)(H:Hp)(Q:VK)(E:XK):Prop
 |mk (r l:Addr) (s:b9) (z:Int) (ds:List Int) (_:vs=[.ref r,.int z,.ref l]/\iF CS CP CR H r s/\dw K H l (mI ds)/\qg E H CN s fun p=>
 if z<0\/(dv p).contains z.toNat=af then jv E H CA [("number",.int (-8))]
 else if ds.length≠aU p z.toNat\/ds.all jo=af then jv E H CD [("number",.int (-9))]
 else∀n H',H n=ab->(∃d ef,H d=aa (.dK ef)/\qG d H H')->iF CS CP CR H' r (Hd s z.toNat ds)->H' n=aa (.lst (mI [0]))->Q (.ref n) H')
theorem OX{f CS CP CR CN CA CD:Addr}{fd:bC}(F:iG K "set_data" "Rooms.set_data" pB f fd)(T:Qn K CR)(S:FG K CS)(G:FH K CP)(hl:mg "len"=ab)(NP:mg "list"=ab)(MA:Ec P w K mg base "AbsentInput" CA dS (iL K (-8)))(MD:Ec P w K mg base "WrongData" CD dS (iL K (-9)))
 (Mh:Me P w K mg base (k7 P w) 4 CR "held_program" dS (rn CS CP CR CN))(Ci:Fn P w K mg base eM 1 "input_numbers" jV (w9 CS CP))(Ce:Fn P w K mg base eM 1 "is_element" ["number"] WN):
 dy P w K mg base (k7 P w) 5 f fd ["self","number","data"] (Lz K CS CP CR CN CA CD):=by
 refine DV F sX fun fz A outer s H vs Q E hr h=>?_
 obtain⟨r,l,s0,z,ds,rfl,ra,KY,q⟩:=h
 obtain⟨dx,d,NM,h1,hpr,ef,hk,ko,fk⟩:=id ra
 have hu:=Ph hr
 have nd:=sX.nd
 have hr3:gG 3 _:=hr.mono (by decide)
 have Ij:gG 1 _:=hr.mono (by decide)
 refine⟨_,bh (jB 3 nd (jk k6 T.cl Mh hr (pv 0)))
  (bh (d9 (cS qR (pv 1) (dJ Ci Ij (by rfl) (aQ (pv 3) bq)) (by rfl)) (bj (kK k6 rfl (ug MA hr3 (by rfl)))) cT)
  (bh (d9 (cS wz (dD cJ (by rfl) hl cx (aQ (pv 2) bq)) (cw (dW cW (cw (pv 3) rfl) (pv 1) (fun _ _=>rfl)) rfl) (dg _)) (bj (kK k6 rfl (ug MD hr3 (by rfl)))) cT)
  (bh (fg (Hy k6) rfl (fT (pv 2)) (o3 4 nd)
   (bj (d9 (ue (jy (dJ Ce Ij (by rfl) (aQ (pv 4) bq)))) (bj (kK k6 rfl (ug MD hr3 (by rfl)))) cT)))
  (bh (LQ hu (cw (pv 0) rfl) (pv 1) (pE CJ (by rfl) NP YG (aQ (pv 2) bq)) rfl)
  (bj (cf (eB (aQ cG bq)))))))),?_⟩
 refine⟨_,rfl,r,dx,_,rfl,h1,rfl,r,s0,rfl,ra,?_⟩
 unfold qg at q⊢
 unfold IL at hpr
 cases hp:s0.program with
 |none=>
  rw[hp]at q
  exact q
 |some p=>
  rw[hp]at q hpr
  obtain⟨a0,_,_,_,_,aks⟩:=hpr
  intro a pa pw ln
  have fw:=pw.j8
  refine⟨_,rfl,_,rfl,a,p,rfl,pa,fw,fun li H1 nli s1 ajS=>⟨li,_,rfl,.inl (dw.of ajS),rfl,Mv _,_,rfl,?_⟩⟩
  rw[da rfl,adN]
  have q:if z<0\/(dv p).contains z.toNat=af then jv E H CA [("number",.int (-8))]else if ds.length≠aU p z.toNat\/ds.all jo=af then jv E H CD [("number",.int (-9))]else∀n H',H n=ab->(∃d ef,H d=aa (.dK ef)/\qG d H H')->iF CS CP CR H' r (Hd s0 z.toNat ds)->H' n=aa (.lst (mI [0]))->Q (.ref n) H':=q
  by_cases hz:z<0\/(dv p).contains z.toNat=af
  ·rw[da hz]at q
   have:(decide (0<=z)&&(dv p).contains z.toNat)=af:=by
    rcases hz with y|y
    ·rw[gX (by omega),eD]
    rw[y,Ll]
   rw[this]
   exact dM (j4 MA (jv.on q s1))
  rw[cQ hz]at q
  have z0:0<=z:=eS fun y=>hz (.inl (by omega))
  have zc:(dv p).contains z.toNat=ae:=by
   cases hc:(dv p).contains z.toNat with
   |true=>rfl
   |false=>exact(hz (.inr hc)).elim
  rw[qk z0,zc]
  obtain⟨n,rfl⟩:=QB z0
  rw[pJ]at q zc
  have ni:n∈dv p:=dP.mp zc
  have nl:n<p.length:=by
   unfold dv at ni;exact cn.mp (cI.mp ni).1
  obtain⟨sn,en⟩:=uW nl
  obtain⟨dp,ls,lo,bs,os,v⟩:=(pa.same s1).v
  obtain⟨b1,d1,k1,e1,g1⟩:=v.st n sn en
  have aaE:=s1.seq KY
  refine cE ⟨_,rfl,l,_,rfl,.inl aaE,_,rfl,a,CP,dp,_,_,rfl,v.ha,G.cl,G.n1,jO,_,rfl,ls,_,_,_,rfl,rfl,dw.of v.l5,at_of (j:=n) rfl e1,b1,CS,d1,_,_,rfl,g1,S.cl,S.n3,iN,rfl,_,rfl,?_⟩
  rw[yS,ku]
  have lz:=iR en
  cases hlen:(ds.length==sn.length)with
  |false=>
   have ne:ds.length≠aU p n:=fun y=>by
    rw[y,lz,beq_self_eq_true]at hlen;cases hlen
   rw[da (.inl ne)]at q
   exact dM (j4 MD (jv.on q s1))
  |true=>
   have hlen:=beq_iff_eq.mp hlen
   refine cE ⟨_,rfl,l,rfl,⟨_,aaE⟩,f7 (K:=K) (a:=l) (xs:=mI ds) (fun i σ H'=>H'=H1/\(ds.take i).all jo=ae/\∃v4,σ=[aa (.ref r),aa (.int (n:Int)),aa (.ref l),aa (.ref a),v4]) ⟨rfl,rfl,ab,rfl⟩ (fun i σ H' _ ⟨e,_⟩=>by rw[e];exact aaE) ?_ ?_⟩
   ·rintro i y σ H' hi ⟨rfl,al,v4,rfl⟩
    obtain⟨x,hx,rfl⟩:=XS hi
    refine⟨_,rfl,x,rfl,_,rfl,?_⟩
    have ex:adM x=jo x:=rfl
    rw[ex]
    cases he:jo x with
    |false=>
     have:ds.all jo=af:=by
      cases ha:ds.all jo with
      |false=>rfl
      |true=>
       have:=cY.mp ha x (br hx);rw[he]at this;cases this
     rw[da (.inr this)]at q
     exact dM (j4 MD (jv.on q s1))
    |true=>
     refine cE ⟨rfl,?_,_,rfl⟩
     rw[take_snoc hx,Jl,al]
     simp[he]
   rintro σ H' ⟨rfl,al,v4,rfl⟩
   rw[ku,dA]at al
   have nb:¬(ds.length≠aU p n\/ds.all jo=af):=by
    rintro(y|y)
    ·exact y (by rw[lz];exact hlen)
    rw[al]at y;cases y
   rw[cQ nb]at q
   refine⟨_,rfl,l,_,rfl,.inl aaE,fun c hc=>?_⟩
   have s2:bH H' (upd H' c (.lst (mI ds))):=bH.new hc
   have Jd:=s1.trans s2
   have hk2:=Jd _ _ hk
   refine⟨_,rfl,r,CR,dx,_,_,rfl,Jd _ _ h1,T.cl,T.n2,Tc,_,rfl,d,_,rfl,Sk.k (k:=cN (n:Int)) hk2 (by have:=ko.len;rw[bZ];omega),?_⟩
   generalize Zo:upd (upd H' c (.lst (mI ds))) d (.dK (putK ef (cN (n:Int)) (.ref c)))=H3
   have b3:qG d H H3:=fun x o nx e=>by rw[<-Zo,bB nx];exact Jd _ _ e
   have h3d:H3 d=aa (.dK (putK ef (cN (n:Int)) (.ref c))):=by rw[<-Zo,bf]
   have ndc:c≠d:=fun y=>by
    rw[y]at hc;rw[s1 _ _ hk]at hc;cases hc
   have h3c:H3 c=aa (.lst (mI ds)):=by rw[<-Zo,bB ndc,bf]
   have ndk:∀{x:Addr}{o:HO},H x=aa o->(∀k,o≠ .dK k)->H3 x=aa o:=fun{x o} e no=>b3 x o (fun y=>by
    rw[y,hk]at e;cases e;exact no _ rfl) e
   have ra3:iF CS CP CR H3 r (Hd s0 n ds):=by
    refine⟨dx,d,NM,ndk h1 (fun k y=>by cases y),?_,_,h3d,ko.put (by omega) _,fun m=>?_⟩
    ·unfold IL Hd;rw[hp];obtain⟨dx',d',pv',h1',ad0,_⟩:=id ra;rw[h1]at h1';cases h1';unfold IL at ad0;rw[hp]at ad0;obtain⟨a1,e1',pa1,_,ln1,_⟩:=ad0;refine⟨a1,e1',pa1.keep (fun b xs e=>ndk e (fun k y=>by cases y)) (fun b C dx fs _ e=>ndk e (fun k y=>by cases y)),pw,fun x hx=>?_,fun x hx=>?_⟩
     ·rcases bQ.mp hx with y|y
      ·rw[y];exact hlen.trans lz.symm
      exact ln1 x (cI.mp y).1
     rcases bQ.mp hx with y|y
     ·rw[y];exact ni
     exact aks x (cI.mp y).1
    unfold Hd;rw[Oa];by_cases e:m=n
    ·subst e;rw[wY (by simp),da rfl];exact⟨c,rfl,h3c⟩
    rw[kN (by simp;exact fun y=>e y.symm),Pw _ e,cQ (show¬(cN (m:Int):Key)=cN (n:Int)from fun y=>e (by have:=qi y;omega))];have:=fk m;cases hf:s0.data.find? fun x=>x.1==m with
    |none=>rw[hf]at this;exact this
    |some x=>
     rw[hf]at this;obtain⟨b,f1,f2⟩:=this;exact⟨b,f1,ndk f2 (fun k y=>by cases y)⟩
   refine⟨by show 1<=bz;decide,fun n2 zw=>?_⟩
   have s4:bH H3 (upd H3 n2 (.lst [V.int 0])):=bH.new zw
   refine q n2 _ ?_ ⟨d,ef,hk,fun x o nx e=>s4 _ _ (b3 x o nx e)⟩ (ra3.same s4) bf
   cases hh:H n2 with
   |none=>rfl
   |some o=>
    by_cases y:n2=d
    ·rw[y,h3d]at zw
     cases zw
    rw[b3 n2 o y hh]at zw
    cases zw
theorem OM{t:List Nat}{e:Nat×Nat}(h:eF t=.error e):e=(1,0)\/e.1=2\/e.1=3:=by
 unfold eF at h;split at h
 ·cases h;exact .inl rfl
 split at h
 ·cases h;exact .inr (.inl rfl)
 split at h
 ·cases h;exact .inr (.inr rfl)
 cases h
abbrev Sub(K:aY)(C D:Addr)(b:Bool):Prop:=ZA K (.ref C) (.ref D)=aa b
def QE(t:List Nat):List Int:=match eF t with
 |.ok _=>[0,0]
 |.error e=>[(e.1:Int),(e.2:Int)]
inductive Dt(K:aY)(vs:ao)(H:Hp)(Q:VK)(E:XK):Prop
 |mk (r l:Addr) (t:List Nat) (_:vs=[.ref r,.ref l]) (_:dw K H l (tx t)) (_:t.length<=100000) (_:CQ H Q (QE t))
theorem OY{f CS CP CL CW CN:Addr}{fd:bC}(F:iG K "where" "Rooms.where" tZ f fd)(Cr:Fn P w K mg base (k7 P w) 9 "read_program" ["text"] (QX K CS CP CL CW CN))
 (ML:Ec P w K mg base "TooLong" CL dS (iL K (-1)))(MW:Ec P w K mg base "WrongForm" CW Hq (Dx K (-2) "position"))(MN:Ec P w K mg base "WrongName" CN Hs (Dx K (-3) "statement_number"))
 (aW:eV K CW "position")(aN:eV K CN "statement_number")(s1:Sub K CL CL ae)(s2:Sub K CW CL af)(s3:Sub K CW CW ae)(s4:Sub K CN CL af)(s5:Sub K CN CW af)(s6:Sub K CN CN ae):
 dy P w K mg base (k7 P w) 10 f fd ["self","text"] (Dt K):=by
 refine DV F xp fun fz A outer s H vs Q E hr h=>?_
 obtain⟨r,l,t,rfl,hn,tl,q⟩:=h
 have nd:=xp.nd
 obtain⟨fL,fdL,mL,_,gL,_⟩:=ML.ex
 obtain⟨fW,fdW,mW,_,gW,_⟩:=MW.ex
 obtain⟨fN,fdN,mN,_,gN,_⟩:=MN.ex
 refine⟨_,bh (Xb k6 (fun pn E1=>bj (dN (rN Cr ⟨rfl,rfl⟩ hr (by rfl) (aQ (pv 1) bq))))
  (Z9 k6 (by rfl) gL mL (fun pn a=>bj (cf (eB (aQ cG (aQ cG bq)))))
  (Xj (i:=2) k6 (by rfl) gW mW nd rfl rfl (fun pn a=>by
   refine bj (cf (eB (aQ cG (aQ (show PE _ _ (SU K (Am 2) "position")from ?_) bq))));exact LS (pv 2) (by rfl))
  (Xj (i:=2) k6 (by rfl) gN mN nd rfl rfl (fun pn a=>by
   refine bj (cf (eB (aQ cG (aQ (show PE _ _ (SU K (Am 2) "statement_number")from ?_) bq))));exact LS (pv 2) (by rfl))
  (Xi k6)))))
  (bj (cf (eB (aQ cG (aQ cG bq))))),?_⟩
 refine⟨_,rfl,l,t,rfl,hn,tl,?_⟩
 unfold QE at q
 cases hp:eF t with
 |ok p=>
  rw[hp]at q
  intro pw a H1 s1 pa
  exact⟨by show 2<=bz;decide,fun n hl=>q n _ (s1.free hl) (s1.trans (bH.new hl)) bf⟩
 |error e=>
  rw[hp]at q
  have q:CQ H Q [(e.1:Int),(e.2:Int)]:=q
  rcases OM hp with y|y|y
  ·subst y
   show yp _ H CL CW CN (1,0)
   unfold yp
   rw[da rfl]
   intro a dx H' sm ea ed
   refine⟨a,rfl,CL,fL,aa dx,ae,ea,mL,s1,dM ⟨by show 2<=bz;decide,fun n hl=>?_⟩⟩
   exact q n _ (sm.free hl) (sm.trans (bH.new hl)) bf
  ·show yp _ H CL CW CN e
   unfold yp
   rw[cQ (by omega),da y]
   intro a dx H' sm ea ed
   refine⟨a,rfl,CW,fW,aa dx,af,ea,mW,s2,cE ⟨CW,fW,aa dx,ae,ea,mW,s3,dM ?_⟩⟩
   refine⟨_,rfl,a,CW,fW,dx,_,_,rfl,ea,ed,mW,aW,rfl,by show 2<=bz;decide,fun n hl=>?_⟩
   rw[y]at q
   exact q n _ (sm.free hl) (sm.trans (bH.new hl)) bf
  show yp _ H CL CW CN e
  unfold yp
  rw[cQ (by omega),cQ (by omega)]
  intro a dx H' sm ea ed
  refine⟨a,rfl,CN,fN,aa dx,af,ea,mN,s4,cE ⟨CN,fN,aa dx,af,ea,mN,s5,cE ⟨CN,fN,aa dx,ae,ea,mN,s6,dM ?_⟩⟩⟩
  refine⟨_,rfl,a,CN,fN,dx,_,_,rfl,ea,ed,mN,aN,rfl,by show 2<=bz;decide,fun n hl=>?_⟩
  rw[y]at q
  exact q n _ (sm.free hl) (sm.trans (bH.new hl)) bf
def Zu(H H':Hp):Prop:=(∀b xs,H b=aa (.lst xs)->H' b=aa (.lst xs))/\∀b o u,H b=aa (.Vl o u)->H' b=aa (.Vl o u)
theorem Zu.of{H H':Hp}(s:bH H H'):Zu H H':=⟨fun b xs e=>s _ _ e,fun b o u e=>s _ _ e⟩
theorem Zu.ofN{H H':Hp}(s:iT H H'):Zu H H':=⟨fun b xs e=>s _ _ e (fun _ z=>by cases z),fun b o u e=>s _ _ e (fun _ z=>by cases z)⟩
theorem Zu.seq{K:aY}{H H':Hp}{a:Addr}{xs:ao}(k:Zu H H')(h:dw K H a xs):dw K H' a xs:=by
 rcases h with(h|⟨o,h⟩)|h
 ·exact .inl (.inl (k.1 _ _ h))
 ·exact .inl (.inr ⟨o,k.2 _ _ _ h⟩)
 exact .inr h
theorem CU.BB{H H':Hp}{d:Addr}{dat:List (Nat×List Int)}(h:CU H d dat)(s:iT H H'):CU H' d dat:=by
 obtain⟨ef,e,kl,f⟩:=h;refine⟨ef,s _ _ e (fun _ z=>by cases z),kl,fun n=>?_⟩;have:=f n;cases hf:dat.find? fun x=>x.1==n with
 |none=>rw[hf]at this;exact this
 |some x=>
  rw[hf]at this;obtain⟨b,e1,e2⟩:=this;exact⟨b,e1,s _ _ e2 fun _ z=>by cases z⟩
theorem iF.BB{CS CP CR:Addr}{H H':Hp}{r:Addr}{s:b9}(h:iF CS CP CR H r s)(sm:iT H H'):iF CS CP CR H' r s:=by
 obtain⟨dx,d,NM,h1,h2,h3⟩:=h;refine⟨dx,d,NM,sm _ _ h1 (fun _ z=>by cases z),?_,h3.BB sm⟩;unfold IL at h2⊢;split at h2
 ·exact h2
 obtain⟨a,e,pa,r⟩:=h2;exact⟨a,e,pa.BB sm,r⟩
def wC(CS CP CR T1 T2:Addr)(H:Hp)(Q:VK)(r:Addr)(s:b9)(z:List Int):Prop:=∀n H',H n=ab->Zu H H'->iF CS CP CR H' r s->TabsOk T1 T2 H'->H' n=aa (.lst (mI z))->Q (.ref n) H'
def r8(K:aY)(CF:Addr)(E:XK)(H:Hp)(k:Int):Prop:=∀(C f a dx:Addr)(fs:aq)(H':Hp),qc K C f=ae->eV K C "number"->Sub K C CF ae->fs.lookup ("number":Str)=aa (.int k)->bH H H'->H' a=aa (Ea a C (aa dx))->H' dx=aa (Cu dx fs)->E (.ref a) ab H'
section
variable{CS CP CR T1 T2 r:Addr}{H:Hp}{Q:VK}{s:b9}{z:List Int}
theorem wC.tell(h:wC CS CP CR T1 T2 H Q r s z)(ra:iF CS CP CR H r s)(t:TabsOk T1 T2 H):CQ H Q z:=fun n H' hn sm e=>h n H' hn (Zu.of sm) (ra.same sm) (t.same sm) e
theorem wC.abD(h:wC CS CP CR T1 T2 H Q r s z)(ra:iF CS CP CR H r s):Le T1 T2 H Q z:=fun n H' hn sm t e=>h n H' hn (Zu.ofN sm) (ra.BB sm) t e
theorem iZ.aaV{T x:Addr}{H H':Hp}{pos:Pos}{q:Str}(h:iZ H T pos q){o:HO}(hx:H x=aa o)(n1:∀ps,o≠ .F4 ps)(n2:∀c q,o≠PX c q)(b:qG x H H'):iZ H' T pos q:=by
 obtain⟨ps,e1,e2,e3⟩:=h;refine⟨ps,b _ _ (lE e1 hx fun z=>n1 _ z.symm) e1,e2,e3.imp id fun⟨c,z1,z2⟩=>⟨c,z1,b _ _ (lE z2 hx fun z=>n2 _ _ z.symm) z2⟩⟩
theorem wC.load(h:wC CS CP CR T1 T2 H Q r s z){s0:b9}(ra:iF CS CP CR H r s0)(t:TabsOk T1 T2 H):∀n H',H n=ab->qG r H H'->iF CS CP CR H' r s->H' n=aa (.lst (mI z))->Q (.ref n) H':=fun n H' hn b ra' e=>by
 obtain⟨dx,d,NM,h1,_⟩:=ra;refine h n H' hn ⟨fun c xs ec=>b _ _ (lE ec h1 (by intro y;cases y)) ec,fun c o u ec=>b _ _ (lE ec h1 (by intro y;cases y)) ec⟩ ra' ⟨iZ.aaV t.1 h1 (fun _ y=>by cases y) (fun _ _ y=>by cases y) b,iZ.aaV t.2 h1 (fun _ y=>by cases y) (fun _ _ y=>by cases y) b⟩ e
theorem wC.set(h:wC CS CP CR T1 T2 H Q r s z)(t:TabsOk T1 T2 H):∀n H',H n=ab->(∃d ef,H d=aa (.dK ef)/\qG d H H')->iF CS CP CR H' r s->H' n=aa (.lst (mI z))->Q (.ref n) H':=fun n H' hn ⟨d,ef,h1,b⟩ ra' e=>by
 refine h n H' hn ⟨fun c xs ec=>b _ _ (lE ec h1 (by intro y;cases y)) ec,fun c o u ec=>b _ _ (lE ec h1 (by intro y;cases y)) ec⟩ ra' ⟨iZ.aaV t.1 h1 (fun _ y=>by cases y) (fun _ _ y=>by cases y) b,iZ.aaV t.2 h1 (fun _ y=>by cases y) (fun _ _ y=>by cases y) b⟩ e
end
theorem r8.LN{P:bY}{w:cX}{K:aY}{mg:aj}{base:Heap}{CF C:Addr}{E:XK}{H:Hp}{k:Int}{x:Str}{ps:ak}{sp:Sp}{fs:aq}(h:r8 K CF E H k)(M:Ec P w K mg base x C ps sp)(sb:Sub K C CF ae)(l:fs.lookup ("number":Str)=aa (.int k)):jv E H C fs:=fun a dx H' sm ea ed=>by
 obtain⟨f,fd,m,_⟩:=M.ex;exact h C f a dx fs H' m M.nn sb l sm ea ed
abbrev aa7:=b9->Int->Int->List Int->b9->List Int->Prop
inductive WA(R:aa7)(K:aY)(CS CP CR CF T1 T2:Addr)(vs:ao)(H:Hp)(Q:VK)(E:XK):Prop
 |mk (r l:Addr) (s s':b9) (c z:Int) (ns y0:List Int) (_:vs=[.ref r,.int c,.int z,.ref l]) (_:iF CS CP CR H r s) (_:TabsOk T1 T2 H) (_:dw K H l (mI ns)) (_:R s c z ns s' y0) (_:wC CS CP CR T1 T2 H Q r s' y0) (_:∀k,y0=[k]->s'=s->r8 K CF E H k)
inductive WS(R:aa7)(K:aY)(CS CP CR T1 T2:Addr)(vs:ao)(H:Hp)(Q:VK)(E:XK):Prop
 |mk (r l:Addr) (s s':b9) (c z:Int) (ns y0:List Int) (_:vs=[.ref r,.int c,.int z,.ref l]) (_:iF CS CP CR H r s) (_:TabsOk T1 T2 H) (_:dw K H l (mI ns)) (_:R s c z ns s' y0) (_:wC CS CP CR T1 T2 H Q r s' y0)
theorem HM{f CS CP CR CF fF T1 T2:Addr}{fd:bC}{R:aa7}(F:iG K "answer_call" "answer_call" tY f fd)(mF:qc K CF fF=ae)(gF:mg "Refusal"=aa (.ref CF))(Cw:Fn P w K mg base (k7 P w) 11 "work_call" Q8 (WA R K CS CP CR CF T1 T2)):
 dy P w K mg base (k7 P w) 12 f fd Q8 (WS R K CS CP CR T1 T2):=by
 refine DV F xk fun fz A outer s H vs Q E hr h=>?_
 obtain⟨r,l,s0,s1,c,z,ns,y0,rfl,ra,tab,hl,st,q⟩:=h
 have nd:=xk.nd
 refine⟨_,bj (Xb k6 (fun pn E1=>bj (cf (rN Cw ⟨rfl,rfl⟩ hr (by rfl) (aQ (pv 0) (aQ (pv 1) (aQ (pv 2) (aQ (pv 3) bq)))))))
  (Xj (i:=4) k6 (by rfl) gF mF nd rfl rfl (fun pn a=>by
   refine bj (cf (eB (aQ (show PE _ _ (SU K (Am 4) "number")from ?_) bq)));exact LS (pv 4) (by rfl))
  (Xi k6))),?_⟩
 refine⟨_,rfl,_,rfl,_,rfl,_,rfl,r,l,s0,s1,c,z,ns,y0,rfl,ra,tab,hl,st,q,?_⟩
 rintro k rfl rfl C f a dx fs H' m nn sb lk sm ea ed
 refine⟨a,rfl,C,f,aa dx,ae,ea,m,sb,dM ?_⟩
 refine⟨_,rfl,a,C,f,dx,fs,_,rfl,ea,ed,m,nn,lk,by show 1<=bz;decide,fun n hn=>?_⟩
 have s2:=sm.trans (bH.new hn (o:=.lst [V.int k]))
 exact q n _ (sm.free hn) (Zu.of s2) (ra.same s2) (tab.same s2) bf
def vZ(a:jS):List Int:=a.value::a.list
section
variable{P:bY}{w:cX}{K:aY}{mg:aj}{base:Heap}{CS CP CR CF T1 T2 r:Addr}{H:Hp}{Q:VK}{E:XK}{s:b9}
structure nL(K:aY)(CS CP CR CF T1 T2:Addr)(H:Hp)(Q:VK)(E:XK)(r:Addr)(s:b9)(a:jS):Prop where
 q:wC CS CP CR T1 T2 H Q r s (vZ a)
 e:∀k,vZ a=[k]->r8 K CF E H k
theorem nL.held{CN:Addr}{f:aO->jS}(h:nL K CS CP CR CF T1 T2 H Q E r s (vg s f))(M:Ec P w K mg base "NoProgram" CN dS (iL K (-4)))(sb:Sub K CN CF ae){g:aO->Prop}(k:∀p,nL K CS CP CR CF T1 T2 H Q E r s (f p)->g p):qg E H CN s g:=by
 unfold qg;unfold vg at h;cases hp:s.program with
 |none=>
  rw[hp]at h;exact r8.LN (h.e (-4) rfl) M sb rfl
 |some p=>
  rw[hp]at h;exact k p h
theorem nL.Gd{CN CW:Addr}{ns:List Int}{f:aO->List Nat->jS}(h:nL K CS CP CR CF T1 T2 H Q E r s (Lf s ns f))(M:Ec P w K mg base "NoProgram" CN dS (iL K (-4)))(sb:Sub K CN CF ae)(MW:Ec P w K mg base "WrongPlan" CW dS (iL K (-5)))(sw:Sub K CW CF ae){g:aO->List Nat->Prop}(k:∀p q,nL K CS CP CR CF T1 T2 H Q E r s (f p q)->g p q):pT E H CN CW s ns g:=by
 unfold pT;refine nL.held h M sb fun p hp=>?_;by_cases hb:iz p ns
 ·rw[da hb];have Ip:ns.length≠p.length\/ns.all (fun n=>decide (0<=n)&&decide (n<=10000))=af:=hb;rw[da Ip]at hp;exact r8.LN (hp.e (-5) rfl) MW sw rfl
 rw[cQ hb];have Ip:¬(ns.length≠p.length\/ns.all (fun n=>decide (0<=n)&&decide (n<=10000))=af):=hb;rw[cQ Ip]at hp;exact k p _ hp
theorem nL.tell{a:jS}(h:nL K CS CP CR CF T1 T2 H Q E r s a)(ra:iF CS CP CR H r s)(t:TabsOk T1 T2 H):CQ H Q (vZ a):=h.q.tell ra t
theorem nL.no{x:Str}{C:Addr}{ps:ak}{sp:Sp}{k:Int}(h:nL K CS CP CR CF T1 T2 H Q E r s (pX k))(M:Ec P w K mg base x C ps sp)(sb:Sub K C CF ae):jv E H C [("number",.int k)]:=r8.LN (h.e k rfl) M sb rfl
theorem YN{CN:Addr}(h:nL K CS CP CR CF T1 T2 H Q E r s (dR s .need))(ra:iF CS CP CR H r s)(t:TabsOk T1 T2 H)(M:Ec P w K mg base "NoProgram" CN dS (iL K (-4)))(sb:Sub K CN CF ae):GY CS CP CR CN [.ref r] H Q E:=
 ⟨r,s,rfl,ra,nL.held (f:=fun p=>Df (FN p)) h M sb fun p hp=>hp.tell ra t⟩
theorem YQ{CN:Addr}(h:nL K CS CP CR CF T1 T2 H Q E r s (dR s .live))(ra:iF CS CP CR H r s)(t:TabsOk T1 T2 H)(M:Ec P w K mg base "NoProgram" CN dS (iL K (-4)))(sb:Sub K CN CF ae):G0 CS CP CR CN [.ref r] H Q E:=
 ⟨r,s,rfl,ra,nL.held (f:=fun p=>i6 (Vaarrl.«ints» ((bw p.length).flatMap fun a=>[bE p a,dj p a]))) h M sb fun p hp=>hp.tell ra t⟩
theorem VJ{CN:Addr}(h:nL K CS CP CR CF T1 T2 H Q E r s (dR s .plain))(ra:iF CS CP CR H r s)(t:TabsOk T1 T2 H)(M:Ec P w K mg base "NoProgram" CN dS (iL K (-4)))(sb:Sub K CN CF ae):Du CS CP CR CN [.ref r] H Q E:=
 ⟨r,s,rfl,ra,nL.held (f:=fun p=>i6 (Vaarrl.«ints» (eZ p))) h M sb fun p hp=>hp.tell ra t⟩
theorem YK{CN CW l:Addr}{ns:List Int}(h:nL K CS CP CR CF T1 T2 H Q E r s (dR s (.room ns)))(ra:iF CS CP CR H r s)(t:TabsOk T1 T2 H)(hl:dw K H l (mI ns))(M:Ec P w K mg base "NoProgram" CN dS (iL K (-4)))(sb:Sub K CN CF ae)(MW:Ec P w K mg base "WrongPlan" CW dS (iL K (-5)))(sw:Sub K CW CF ae):GV K CS CP CR CN CW [.ref r,.ref l] H Q E:=
 ⟨r,l,s,ns,rfl,ra,hl,nL.Gd (f:=fun p q=>Df (i8 p q)) h M sb MW sw fun p q hp=>hp.tell ra t⟩
theorem VL{CN CW l:Addr}{ns:List Int}(h:nL K CS CP CR CF T1 T2 H Q E r s (dR s (.check ns)))(ra:iF CS CP CR H r s)(t:TabsOk T1 T2 H)(hl:dw K H l (mI ns))(M:Ec P w K mg base "NoProgram" CN dS (iL K (-4)))(sb:Sub K CN CF ae)(MW:Ec P w K mg base "WrongPlan" CW dS (iL K (-5)))(sw:Sub K CW CF ae):Dv K CS CP CR CN CW [.ref r,.ref l] H Q E:=
 ⟨r,l,s,ns,rfl,ra,hl,nL.Gd (f:=fun p q=>(match eP p q with|none=>{value:=0}|some x=>{value:=1,list:=Vaarrl.«ints» [x.1,x.2]})) h M sb MW sw fun p q hp=>by
  have:=hp.tell ra t;unfold Gj;cases hf:eP p q with
  |none=>rw[hf]at this;exact this
  |some x=>rw[hf]at this;exact this⟩
theorem YM{CN CW CC l:Addr}{ns:List Int}(h:nL K CS CP CR CF T1 T2 H Q E r s (dR s (.pack ns)))(ra:iF CS CP CR H r s)(t:TabsOk T1 T2 H)(hl:dw K H l (mI ns))(M:Ec P w K mg base "NoProgram" CN dS (iL K (-4)))(sb:Sub K CN CF ae)(MW:Ec P w K mg base "WrongPlan" CW dS (iL K (-5)))(sw:Sub K CW CF ae)(MC:Ec P w K mg base "ClashingPlan" CC dS (iL K (-7)))(sc:Sub K CC CF ae):GX K CS CP CR CN CW CC T1 T2 [.ref r,.ref l] H Q E:=
 ⟨r,l,s,ns,rfl,ra,t,hl,nL.Gd (f:=fun p q=>if rj p q=af then pX Vaarrl.CLASH else i6 (Vaarrl.«ints» (kX p q))) h M sb MW sw fun p q hp=>by
  by_cases hs:rj p q=af
  ·rw[da hs]at hp⊢;exact hp.no MC sc
  rw[cQ hs]at hp⊢;exact hp.q.abD ra⟩
theorem YL{CN CB:Addr}{k:Int}(h:nL K CS CP CR CF T1 T2 H Q E r s (dR s (.plan k)))(ra:iF CS CP CR H r s)(t:TabsOk T1 T2 H)(M:Ec P w K mg base "NoProgram" CN dS (iL K (-4)))(sb:Sub K CN CF ae)(MB:Ec P w K mg base "BeyondLimit" CB dS (iL K (-6)))(sc:Sub K CB CF ae):GW CS CP CR CN CB T1 T2 [.ref r,.int k] H Q E:=
 ⟨r,s,k,rfl,ra,t,nL.held (f:=fun p=>if k<0\/2<k then pX Vaarrl.LIMIT else i6 (Vaarrl.«ints» (uu p k.toNat))) h M sb fun p hp=>by
  by_cases hs:k<0\/2<k
  ·rw[da hs]at hp⊢;exact hp.no MB sc
  rw[cQ hs]at hp⊢;exact hp.q.abD ra⟩
theorem aaY{CN CW CM l:Addr}{ns:List Int}(h:nL K CS CP CR CF T1 T2 H Q E r s (dR s (.run ns)))(ra:iF CS CP CR H r s)(t:TabsOk T1 T2 H)(hl:dw K H l (mI ns))(M:Ec P w K mg base "NoProgram" CN dS (iL K (-4)))(sb:Sub K CN CF ae)(MW:Ec P w K mg base "WrongPlan" CW dS (iL K (-5)))(sw:Sub K CW CF ae)(MM:Ec P w K mg base "MissingData" CM dS (iL K (-10)))(sm:Sub K CM CF ae):LA K CS CP CR CN CW CM [.ref r,.ref l] H Q E:=
 ⟨r,l,s,ns,rfl,ra,hl,nL.Gd (f:=fun p q=>if eC s p=af then pX y4 else i6 (fG (jm p q s.data))) h M sb MW sw fun p q hp=>by
  by_cases hs:eC s p=af
  ·rw[da hs]at hp⊢;exact hp.no MM sm
  rw[cQ hs]at hp⊢;exact hp.tell ra t⟩
theorem VM{CN CM:Addr}(h:nL K CS CP CR CF T1 T2 H Q E r s (dR s .apart))(ra:iF CS CP CR H r s)(t:TabsOk T1 T2 H)(M:Ec P w K mg base "NoProgram" CN dS (iL K (-4)))(sb:Sub K CN CF ae)(MM:Ec P w K mg base "MissingData" CM dS (iL K (-10)))(sm:Sub K CM CF ae):Dw CS CP CR CN CM [.ref r] H Q E:=
 ⟨r,s,rfl,ra,nL.held (f:=fun p=>if eC s p=af then pX y4 else i6 (fG (nA p s.data))) h M sb fun p hp=>by
  by_cases hs:eC s p=af
  ·rw[da hs]at hp⊢;exact hp.no MM sm
  rw[cQ hs]at hp⊢;exact hp.tell ra t⟩
theorem VI{l:Addr}{x:List Nat}(h:nL K CS CP CR CF T1 T2 H Q E r s (dR s (.where_ x)))(ra:iF CS CP CR H r s)(t:TabsOk T1 T2 H)(hl:dw K H l (tx x))(j8:x.length<=100000):Dt K [.ref r,.ref l] H Q E:=
 ⟨r,l,x,rfl,hl,j8,by
  have:CQ H Q (vZ (match eF x with|.ok _=>{value:=0,list:=[0]}|.error e=>{value:=((e.1:Nat):Int),list:=[((e.2:Nat):Int)]})):=h.tell ra t;unfold QE;cases hp:eF x with
  |ok p=>rw[hp]at this;exact this
  |error e=>rw[hp]at this;exact this⟩
end
section
variable{P:bY}{w:cX}{K:aY}{mg:aj}{base:Heap}{CS CP CR CF T1 T2 r:Addr}{H:Hp}{Q:VK}{E:XK}{s:b9}
structure ace(K:aY)(CS CP CR CF T1 T2:Addr)(H:Hp)(Q:VK)(E:XK)(r:Addr)(s:b9)(x:b9×jS):Prop where
 q:wC CS CP CR T1 T2 H Q r x.1 (vZ x.2)
 e:∀k,vZ x.2=[k]->x.1=s->r8 K CF E H k
theorem YO{CL CW CN l:Addr}{t:List Nat}(h:ace K CS CP CR CF T1 T2 H Q E r s (qo s t))(ra:iF CS CP CR H r s)(tb:TabsOk T1 T2 H)(hl:dw K H l (tx t))(j8:t.length<=100000)
 (ML:Ec P w K mg base "TooLong" CL dS (iL K (-1)))(MW:Ec P w K mg base "WrongForm" CW Hq (Dx K (-2) "position"))(MN:Ec P w K mg base "WrongName" CN Hs (Dx K (-3) "statement_number"))(s1:Sub K CL CF ae)(s2:Sub K CW CF ae)(s3:Sub K CN CF ae):
 GZ K CS CP CR CL CW CN [.ref r,.ref l] H Q E:=by
 refine⟨r,l,s,t,rfl,ra,hl,j8,?_⟩
 unfold qo at h
 cases hp:eF t with
 |ok p=>
  rw[hp]at h
  exact h.q.load ra tb
 |error e=>
  rw[hp]at h
  show yp E H CL CW CN e
  have we:r8 K CF E H (-((e.1:Nat):Int)):=h.e _ rfl rfl
  unfold yp
  rcases OM hp with y|y|y
  ·subst y
   rw[da rfl]
   exact r8.LN we ML s1 rfl
  ·rw[y]at we
   rw[cQ (by omega),da y]
   exact r8.LN we MW s2 rfl
  rw[y]at we
  rw[cQ (by omega),cQ (by omega)]
  exact r8.LN we MN s3 rfl
theorem aaX{CN CA CD l:Addr}{z:Int}{ds:List Int}(h:ace K CS CP CR CF T1 T2 H Q E r s (Bj s z ds))(ra:iF CS CP CR H r s)(tb:TabsOk T1 T2 H)(hl:dw K H l (mI ds))
 (M:Ec P w K mg base "NoProgram" CN dS (iL K (-4)))(MA:Ec P w K mg base "AbsentInput" CA dS (iL K (-8)))(MD:Ec P w K mg base "WrongData" CD dS (iL K (-9)))(s1:Sub K CN CF ae)(s2:Sub K CA CF ae)(s3:Sub K CD CF ae):
 Lz K CS CP CR CN CA CD [.ref r,.int z,.ref l] H Q E:=by
 refine⟨r,l,s,z,ds,rfl,ra,hl,?_⟩
 unfold qg
 unfold Bj Vaarrl.setFault at h
 cases hp:s.program with
 |none=>
  rw[hp]at h
  exact r8.LN (h.e (-4) rfl rfl) M s1 rfl
 |some p=>
  rw[hp]at h
  by_cases h1:z<0\/(dv p).contains z.toNat=af
  ·simp only[da h1]at h⊢
   exact r8.LN (h.e (-8) rfl rfl) MA s2 rfl
  by_cases h2:ds.length≠aU p z.toNat\/ds.all jo=af
  ·simp only[cQ h1,da h2]at h⊢
   exact r8.LN (h.e (-9) rfl rfl) MD s3 rfl
  simp only[cQ h1,cQ h2,if_true]at h⊢
  have e:Hd s z.toNat ds={program:=aa p,data:=(z.toNat,ds)::s.data.filter fun x=>x.1 != z.toNat}:=by
   unfold Hd;rw[hp]
  rw[e]
  exact h.q.set tb
end
theorem afV{X:Cx}{st:Stmt}:PS X st (fun _ _ _=>False):=fun _ _ _ _ _ _ h=>h.elim
def Qa:aa7:=fun s c z ns s' y0=>∃x:b9×jS,s'=x.1/\y0=vZ x.2/\
 ((c=0/\∃t,mI ns=tx t/\t.length<=100000/\x=qo s t)\/(c=1/\∃t,mI ns=tx t/\t.length<=100000/\x=(s,dR s (.where_ t)))\/(c=2/\x=(s,dR s .plain))\/(c=3/\x=(s,dR s .live))\/(c=4/\x=(s,dR s .need))\/
  (c=5/\x=(s,dR s (.check ns)))\/(c=6/\x=(s,dR s (.room ns)))\/(c=7/\x=(s,dR s (.plan z)))\/(c=8/\x=(s,dR s (.pack ns)))\/(c=9/\x=Bj s z ns)\/(c=10/\x=(s,dR s (.run ns)))\/(c=11/\x=(s,dR s .apart)))
structure WkC(P:bY)(w:cX)(K:aY)(mg:aj)(base:Heap)(CS CP CR CF T1 T2 CL CW CN C4 C5 C6 C7 C8 C9 C10:Addr):Prop where
 T:Qn K CR
 ML:Ec P w K mg base "TooLong" CL dS (iL K (-1))
 MW:Ec P w K mg base "WrongForm" CW Hq (Dx K (-2) "position")
 MN:Ec P w K mg base "WrongName" CN Hs (Dx K (-3) "statement_number")
 M4:Ec P w K mg base "NoProgram" C4 dS (iL K (-4))
 M5:Ec P w K mg base "WrongPlan" C5 dS (iL K (-5))
 M6:Ec P w K mg base "BeyondLimit" C6 dS (iL K (-6))
 M7:Ec P w K mg base "ClashingPlan" C7 dS (iL K (-7))
 M8:Ec P w K mg base "AbsentInput" C8 dS (iL K (-8))
 M9:Ec P w K mg base "WrongData" C9 dS (iL K (-9))
 M10:Ec P w K mg base "MissingData" C10 dS (iL K (-10))
 sL:Sub K CL CF ae
 sW:Sub K CW CF ae
 sN:Sub K CN CF ae
 s4:Sub K C4 CF ae
 s5:Sub K C5 CF ae
 s6:Sub K C6 CF ae
 s7:Sub K C7 CF ae
 s8:Sub K C8 CF ae
 s9:Sub K C9 CF ae
 s10:Sub K C10 CF ae
 load:Me P w K mg base (k7 P w) 10 CR "load" ["self","text"] (GZ K CS CP CR CL CW CN)
 aie:Me P w K mg base (k7 P w) 10 CR "where" ["self","text"] (Dt K)
 plain:Me P w K mg base (k7 P w) 5 CR "plain" dS (Du CS CP CR C4)
 live:Me P w K mg base (k7 P w) 5 CR "live" dS (G0 CS CP CR C4)
 need:Me P w K mg base (k7 P w) 5 CR "need" dS (GY CS CP CR C4)
 check:Me P w K mg base (k7 P w) 5 CR "check" wu (Dv K CS CP CR C4 C5)
 room:Me P w K mg base (k7 P w) 5 CR "room" wu (GV K CS CP CR C4 C5)
 plan:Me P w K mg base (k7 P w) 8 CR "plan" ["self","kind"] (GW CS CP CR C4 C6 T1 T2)
 pack:Me P w K mg base (k7 P w) 7 CR "pack" wu (GX K CS CP CR C4 C5 C7 T1 T2)
 set:Me P w K mg base (k7 P w) 5 CR "set_data" ["self","number","data"] (Lz K CS CP CR C4 C8 C9)
 run:Me P w K mg base (k7 P w) 6 CR "run" wu (LA K CS CP CR C4 C5 C10)
 apart:Me P w K mg base (k7 P w) 6 CR "apart" dS (Dw CS CP CR C4 C10)
 g0:∃t,mg "LOAD"=aa (.int 0 t)
 g1:∃t,mg "WHERE"=aa (.int 1 t)
 g2:∃t,mg "PLAIN"=aa (.int 2 t)
 g3:∃t,mg "LIVE"=aa (.int 3 t)
 g4:∃t,mg "NEED"=aa (.int 4 t)
 g5:∃t,mg "CHECK"=aa (.int 5 t)
 g6:∃t,mg "ROOM"=aa (.int 6 t)
 g7:∃t,mg "PLAN"=aa (.int 7 t)
 g8:∃t,mg "PACK"=aa (.int 8 t)
 g9:∃t,mg "SET_DATA"=aa (.int 9 t)
 g10:∃t,mg "RUN"=aa (.int 10 t)
 g11:∃t,mg "APART"=aa (.int 11 t)
theorem LX{f CS CP CR CF T1 T2 CL CW CN C4 C5 C6 C7 C8 C9 C10:Addr}{fd:bC}(F:iG K "work_call" "work_call" xA f fd)(W:WkC P w K mg base CS CP CR CF T1 T2 CL CW CN C4 C5 C6 C7 C8 C9 C10):
 dy P w K mg base (k7 P w) 11 f fd Q8 (WA Qa K CS CP CR CF T1 T2):=by
 refine DV F LG fun fz A outer s H vs Q E hr h=>?_
 obtain⟨r,l,s0,s1,c,z,ns,y0,rfl,ra,tab,hl,⟨x,rfl,rfl,cs⟩,q,e⟩:=h
 obtain⟨dx,d,NM,h1,_⟩:=id ra
 have h5:gG 5 _:=hr.mono (by decide)
 have h6:gG 6 _:=hr.mono (by decide)
 have c0:=W.T.cl
 refine⟨_,bh (d9 (cS iY (pv 1) (iE (by rfl) W.g0) (dg _)) (bj (cf (kT k6 c0 W.load hr (pv 0) (aQ (pv 3) bq)))) cT)
  (bh (d9 (cS iY (pv 1) (iE (by rfl) W.g1) (dg _)) (bj (cf (kT k6 c0 W.aie hr (pv 0) (aQ (pv 3) bq)))) cT)
  (bh (d9 (cS iY (pv 1) (iE (by rfl) W.g2) (dg _)) (bj (cf (jk k6 c0 W.plain h5 (pv 0)))) cT)
  (bh (d9 (cS iY (pv 1) (iE (by rfl) W.g3) (dg _)) (bj (cf (jk k6 c0 W.live h5 (pv 0)))) cT)
  (bh (d9 (cS iY (pv 1) (iE (by rfl) W.g4) (dg _)) (bj (cf (jk k6 c0 W.need h5 (pv 0)))) cT)
  (bh (d9 (cS iY (pv 1) (iE (by rfl) W.g5) (dg _)) (bj (cf (kT k6 c0 W.check h5 (pv 0) (aQ (pv 3) bq)))) cT)
  (bh (d9 (cS iY (pv 1) (iE (by rfl) W.g6) (dg _)) (bj (cf (kT k6 c0 W.room h5 (pv 0) (aQ (pv 3) bq)))) cT)
  (bh (d9 (cS iY (pv 1) (iE (by rfl) W.g7) (dg _)) (bj (cf (kT k6 c0 W.plan (hr.mono (by decide)) (pv 0) (aQ (pv 2) bq)))) cT)
  (bh (d9 (cS iY (pv 1) (iE (by rfl) W.g8) (dg _)) (bj (cf (kT k6 c0 W.pack (hr.mono (by decide)) (pv 0) (aQ (pv 3) bq)))) cT)
  (bh (d9 (cS iY (pv 1) (iE (by rfl) W.g9) (dg _)) (bj (cf (kT k6 c0 W.set h5 (pv 0) (aQ (pv 2) (aQ (pv 3) bq))))) cT)
  (bh (d9 (cS iY (pv 1) (iE (by rfl) W.g10) (dg _)) (bj (cf (kT k6 c0 W.run h6 (pv 0) (aQ (pv 3) bq)))) cT)
  (bh (d9 (cS iY (pv 1) (iE (by rfl) W.g11) (dg _)) (bj (cf (jk k6 c0 W.apart h6 (pv 0)))) cT)
  (bj afV)))))))))))),?_⟩
 rcases cs with⟨rfl,t,et,j8,rfl⟩|⟨rfl,t,et,j8,rfl⟩|⟨rfl,rfl⟩|⟨rfl,rfl⟩|⟨rfl,rfl⟩|⟨rfl,rfl⟩|⟨rfl,rfl⟩|⟨rfl,rfl⟩|⟨rfl,rfl⟩|⟨rfl,rfl⟩|⟨rfl,rfl⟩|⟨rfl,rfl⟩
 ·(refine⟨_,rfl,rfl,_,rfl,?_⟩;rw[cH,qk (by decide)])
  exact dM ⟨_,rfl,r,dx,_,rfl,h1,rfl,_,rfl,YO ⟨q,e⟩ ra tab (et▸hl) j8 W.ML W.MW W.MN W.sL W.sW W.sN⟩
 ·(refine⟨_,rfl,rfl,_,rfl,?_⟩;rw[cH,gX (by decide)];refine cE ?_);(refine⟨_,rfl,rfl,_,rfl,?_⟩;rw[cH,qk (by decide)])
  exact dM ⟨_,rfl,r,dx,_,rfl,h1,rfl,_,rfl,VI ⟨q,fun k y=>e k y rfl⟩ ra tab (et▸hl) j8⟩
 ·(refine⟨_,rfl,rfl,_,rfl,?_⟩;rw[cH,gX (by decide)];refine cE ?_);(refine⟨_,rfl,rfl,_,rfl,?_⟩;rw[cH,gX (by decide)];refine cE ?_);(refine⟨_,rfl,rfl,_,rfl,?_⟩;rw[cH,qk (by decide)])
  exact dM ⟨_,rfl,r,dx,_,rfl,h1,rfl,VJ ⟨q,fun k y=>e k y rfl⟩ ra tab W.M4 W.s4⟩
 ·(refine⟨_,rfl,rfl,_,rfl,?_⟩;rw[cH,gX (by decide)];refine cE ?_);(refine⟨_,rfl,rfl,_,rfl,?_⟩;rw[cH,gX (by decide)];refine cE ?_);(refine⟨_,rfl,rfl,_,rfl,?_⟩;rw[cH,gX (by decide)];refine cE ?_);(refine⟨_,rfl,rfl,_,rfl,?_⟩;rw[cH,qk (by decide)])
  exact dM ⟨_,rfl,r,dx,_,rfl,h1,rfl,YQ ⟨q,fun k y=>e k y rfl⟩ ra tab W.M4 W.s4⟩
 ·(refine⟨_,rfl,rfl,_,rfl,?_⟩;rw[cH,gX (by decide)];refine cE ?_);(refine⟨_,rfl,rfl,_,rfl,?_⟩;rw[cH,gX (by decide)];refine cE ?_);(refine⟨_,rfl,rfl,_,rfl,?_⟩;rw[cH,gX (by decide)];refine cE ?_);(refine⟨_,rfl,rfl,_,rfl,?_⟩;rw[cH,gX (by decide)];refine cE ?_);(refine⟨_,rfl,rfl,_,rfl,?_⟩;rw[cH,qk (by decide)])
  exact dM ⟨_,rfl,r,dx,_,rfl,h1,rfl,YN ⟨q,fun k y=>e k y rfl⟩ ra tab W.M4 W.s4⟩
 ·(refine⟨_,rfl,rfl,_,rfl,?_⟩;rw[cH,gX (by decide)];refine cE ?_);(refine⟨_,rfl,rfl,_,rfl,?_⟩;rw[cH,gX (by decide)];refine cE ?_);(refine⟨_,rfl,rfl,_,rfl,?_⟩;rw[cH,gX (by decide)];refine cE ?_);(refine⟨_,rfl,rfl,_,rfl,?_⟩;rw[cH,gX (by decide)];refine cE ?_);(refine⟨_,rfl,rfl,_,rfl,?_⟩;rw[cH,gX (by decide)];refine cE ?_);(refine⟨_,rfl,rfl,_,rfl,?_⟩;rw[cH,qk (by decide)])
  exact dM ⟨_,rfl,r,dx,_,rfl,h1,rfl,_,rfl,VL ⟨q,fun k y=>e k y rfl⟩ ra tab hl W.M4 W.s4 W.M5 W.s5⟩
 ·(refine⟨_,rfl,rfl,_,rfl,?_⟩;rw[cH,gX (by decide)];refine cE ?_);(refine⟨_,rfl,rfl,_,rfl,?_⟩;rw[cH,gX (by decide)];refine cE ?_);(refine⟨_,rfl,rfl,_,rfl,?_⟩;rw[cH,gX (by decide)];refine cE ?_);(refine⟨_,rfl,rfl,_,rfl,?_⟩;rw[cH,gX (by decide)];refine cE ?_);(refine⟨_,rfl,rfl,_,rfl,?_⟩;rw[cH,gX (by decide)];refine cE ?_);(refine⟨_,rfl,rfl,_,rfl,?_⟩;rw[cH,gX (by decide)];refine cE ?_);(refine⟨_,rfl,rfl,_,rfl,?_⟩;rw[cH,qk (by decide)])
  exact dM ⟨_,rfl,r,dx,_,rfl,h1,rfl,_,rfl,YK ⟨q,fun k y=>e k y rfl⟩ ra tab hl W.M4 W.s4 W.M5 W.s5⟩
 ·(refine⟨_,rfl,rfl,_,rfl,?_⟩;rw[cH,gX (by decide)];refine cE ?_);(refine⟨_,rfl,rfl,_,rfl,?_⟩;rw[cH,gX (by decide)];refine cE ?_);(refine⟨_,rfl,rfl,_,rfl,?_⟩;rw[cH,gX (by decide)];refine cE ?_);(refine⟨_,rfl,rfl,_,rfl,?_⟩;rw[cH,gX (by decide)];refine cE ?_);(refine⟨_,rfl,rfl,_,rfl,?_⟩;rw[cH,gX (by decide)];refine cE ?_);(refine⟨_,rfl,rfl,_,rfl,?_⟩;rw[cH,gX (by decide)];refine cE ?_);(refine⟨_,rfl,rfl,_,rfl,?_⟩;rw[cH,gX (by decide)];refine cE ?_);(refine⟨_,rfl,rfl,_,rfl,?_⟩;rw[cH,qk (by decide)])
  exact dM ⟨_,rfl,r,dx,_,rfl,h1,rfl,_,rfl,YL ⟨q,fun k y=>e k y rfl⟩ ra tab W.M4 W.s4 W.M6 W.s6⟩
 ·(refine⟨_,rfl,rfl,_,rfl,?_⟩;rw[cH,gX (by decide)];refine cE ?_);(refine⟨_,rfl,rfl,_,rfl,?_⟩;rw[cH,gX (by decide)];refine cE ?_);(refine⟨_,rfl,rfl,_,rfl,?_⟩;rw[cH,gX (by decide)];refine cE ?_);(refine⟨_,rfl,rfl,_,rfl,?_⟩;rw[cH,gX (by decide)];refine cE ?_);(refine⟨_,rfl,rfl,_,rfl,?_⟩;rw[cH,gX (by decide)];refine cE ?_);(refine⟨_,rfl,rfl,_,rfl,?_⟩;rw[cH,gX (by decide)];refine cE ?_);(refine⟨_,rfl,rfl,_,rfl,?_⟩;rw[cH,gX (by decide)];refine cE ?_);(refine⟨_,rfl,rfl,_,rfl,?_⟩;rw[cH,gX (by decide)];refine cE ?_);(refine⟨_,rfl,rfl,_,rfl,?_⟩;rw[cH,qk (by decide)])
  exact dM ⟨_,rfl,r,dx,_,rfl,h1,rfl,_,rfl,YM ⟨q,fun k y=>e k y rfl⟩ ra tab hl W.M4 W.s4 W.M5 W.s5 W.M7 W.s7⟩
 ·(refine⟨_,rfl,rfl,_,rfl,?_⟩;rw[cH,gX (by decide)];refine cE ?_);(refine⟨_,rfl,rfl,_,rfl,?_⟩;rw[cH,gX (by decide)];refine cE ?_);(refine⟨_,rfl,rfl,_,rfl,?_⟩;rw[cH,gX (by decide)];refine cE ?_);(refine⟨_,rfl,rfl,_,rfl,?_⟩;rw[cH,gX (by decide)];refine cE ?_);(refine⟨_,rfl,rfl,_,rfl,?_⟩;rw[cH,gX (by decide)];refine cE ?_);(refine⟨_,rfl,rfl,_,rfl,?_⟩;rw[cH,gX (by decide)];refine cE ?_);(refine⟨_,rfl,rfl,_,rfl,?_⟩;rw[cH,gX (by decide)];refine cE ?_);(refine⟨_,rfl,rfl,_,rfl,?_⟩;rw[cH,gX (by decide)];refine cE ?_);(refine⟨_,rfl,rfl,_,rfl,?_⟩;rw[cH,gX (by decide)];refine cE ?_);(refine⟨_,rfl,rfl,_,rfl,?_⟩;rw[cH,qk (by decide)])
  exact dM ⟨_,rfl,r,dx,_,rfl,h1,rfl,_,rfl,_,rfl,aaX ⟨q,e⟩ ra tab hl W.M4 W.M8 W.M9 W.s4 W.s8 W.s9⟩
 ·(refine⟨_,rfl,rfl,_,rfl,?_⟩;rw[cH,gX (by decide)];refine cE ?_);(refine⟨_,rfl,rfl,_,rfl,?_⟩;rw[cH,gX (by decide)];refine cE ?_);(refine⟨_,rfl,rfl,_,rfl,?_⟩;rw[cH,gX (by decide)];refine cE ?_);(refine⟨_,rfl,rfl,_,rfl,?_⟩;rw[cH,gX (by decide)];refine cE ?_);(refine⟨_,rfl,rfl,_,rfl,?_⟩;rw[cH,gX (by decide)];refine cE ?_);(refine⟨_,rfl,rfl,_,rfl,?_⟩;rw[cH,gX (by decide)];refine cE ?_);(refine⟨_,rfl,rfl,_,rfl,?_⟩;rw[cH,gX (by decide)];refine cE ?_);(refine⟨_,rfl,rfl,_,rfl,?_⟩;rw[cH,gX (by decide)];refine cE ?_);(refine⟨_,rfl,rfl,_,rfl,?_⟩;rw[cH,gX (by decide)];refine cE ?_);(refine⟨_,rfl,rfl,_,rfl,?_⟩;rw[cH,gX (by decide)];refine cE ?_);(refine⟨_,rfl,rfl,_,rfl,?_⟩;rw[cH,qk (by decide)])
  exact dM ⟨_,rfl,r,dx,_,rfl,h1,rfl,_,rfl,aaY ⟨q,fun k y=>e k y rfl⟩ ra tab hl W.M4 W.s4 W.M5 W.s5 W.M10 W.s10⟩
 (refine⟨_,rfl,rfl,_,rfl,?_⟩;rw[cH,gX (by decide)];refine cE ?_);(refine⟨_,rfl,rfl,_,rfl,?_⟩;rw[cH,gX (by decide)];refine cE ?_);(refine⟨_,rfl,rfl,_,rfl,?_⟩;rw[cH,gX (by decide)];refine cE ?_);(refine⟨_,rfl,rfl,_,rfl,?_⟩;rw[cH,gX (by decide)];refine cE ?_);(refine⟨_,rfl,rfl,_,rfl,?_⟩;rw[cH,gX (by decide)];refine cE ?_);(refine⟨_,rfl,rfl,_,rfl,?_⟩;rw[cH,gX (by decide)];refine cE ?_);(refine⟨_,rfl,rfl,_,rfl,?_⟩;rw[cH,gX (by decide)];refine cE ?_);(refine⟨_,rfl,rfl,_,rfl,?_⟩;rw[cH,gX (by decide)];refine cE ?_);(refine⟨_,rfl,rfl,_,rfl,?_⟩;rw[cH,gX (by decide)];refine cE ?_);(refine⟨_,rfl,rfl,_,rfl,?_⟩;rw[cH,gX (by decide)];refine cE ?_);(refine⟨_,rfl,rfl,_,rfl,?_⟩;rw[cH,gX (by decide)];refine cE ?_);(refine⟨_,rfl,rfl,_,rfl,?_⟩;rw[cH,qk (by decide)])
 exact dM ⟨_,rfl,r,dx,_,rfl,h1,rfl,VM ⟨q,fun k y=>e k y rfl⟩ ra tab W.M4 W.s4 W.M10 W.s10⟩
theorem SQ{ns:List Int}{t:List Nat}(h:jW ns=aa t):mI ns=tx t/\t.length=ns.length:=by
 unfold jW at h;split at h
 ·rename_i hb;cases h;unfold Ul at hb;rw[cY]at hb;refine⟨?_,by rw[aV]⟩;unfold mI tx;rw[dC];refine dk fun n hn=>?_;have:=hb n hn;simp at this;show V.int n=V.int ((n.toNat:Nat):Int);rw[CZ (by omega)]
 cases h
theorem Kl{a:List Int}(h:(a.all fun(z:Int)=>nH z 8)=ae):∃t,jW a=aa t:=by
 unfold jW;refine⟨_,da ?_⟩;unfold Ul;rw[cY]at h⊢;intro z hz;have:=h z hz;unfold nH at this;simp at this⊢;omega
def YF(p:Int):Prop:=p=2\/p=3\/p=4\/p=11
def YE(p:Int):Prop:=p=0\/p=1\/p=5\/p=6\/p=8\/p=10
section
variable{s:b9}{p z:Int}{ns:List Int}
theorem ZV(h:YF p):Qa s p z ns (cO s [[p]]).1 (cO s [[p]]).2:=by
 rcases h with rfl|rfl|rfl|rfl
 ·exact⟨(s,_),rfl,rfl,.inr (.inr (.inl ⟨rfl,rfl⟩))⟩
 ·exact⟨(s,_),rfl,rfl,.inr (.inr (.inr (.inl ⟨rfl,rfl⟩)))⟩
 ·exact⟨(s,_),rfl,rfl,.inr (.inr (.inr (.inr (.inl ⟨rfl,rfl⟩))))⟩
 exact⟨(s,_),rfl,rfl,.inr (.inr (.inr (.inr (.inr (.inr (.inr (.inr (.inr (.inr (.inr ⟨rfl,rfl⟩))))))))))⟩
theorem ZU(h:YE p)(a:IX [[p],ns]=ae):Qa s p z ns (cO s [[p],ns]).1 (cO s [[p],ns]).2:=by
 rcases h with rfl|rfl|rfl|rfl|rfl|rfl
 ·have a:((ns.all fun(z:Int)=>nH z 8)&&decide (ns.length<=20000))=ae:=a;rw[cM]at a;have l:=of_decide_eq_true a.2;obtain⟨t,e⟩:=Kl a.1;obtain⟨e1,e2⟩:=SQ e
  have st:cO s [[0],ns]=((qo s t).1,vZ (qo s t).2):=by
   show(match(jW ns).map Vaarrl.Call.load with|some k=>((qm s k).1,IW (qm s k).2)|none=>(s,[-99]))=_;rw[e];rfl
  rw[st];exact⟨_,rfl,rfl,.inl ⟨rfl,t,e1,(by rw[e2];exact cR l (by decide)),rfl⟩⟩
 ·have a:((ns.all fun(z:Int)=>nH z 8)&&decide (ns.length<=20000))=ae:=a;rw[cM]at a;have l:=of_decide_eq_true a.2;obtain⟨t,e⟩:=Kl a.1;obtain⟨e1,e2⟩:=SQ e
  have st:cO s [[1],ns]=(s,vZ (dR s (.where_ t))):=by
   show(match(jW ns).map Vaarrl.Call.where_ with|some k=>((qm s k).1,IW (qm s k).2)|none=>(s,[-99]))=_;rw[e];rfl
  rw[st];exact⟨(s,_),rfl,rfl,.inr (.inl ⟨rfl,t,e1,(by rw[e2];exact cR l (by decide)),rfl⟩)⟩
 ·exact⟨(s,_),rfl,rfl,.inr (.inr (.inr (.inr (.inr (.inl ⟨rfl,rfl⟩)))))⟩
 ·exact⟨(s,_),rfl,rfl,.inr (.inr (.inr (.inr (.inr (.inr (.inl ⟨rfl,rfl⟩))))))⟩
 ·exact⟨(s,_),rfl,rfl,.inr (.inr (.inr (.inr (.inr (.inr (.inr (.inr (.inl ⟨rfl,rfl⟩))))))))⟩
 exact⟨(s,_),rfl,rfl,.inr (.inr (.inr (.inr (.inr (.inr (.inr (.inr (.inr (.inr (.inl ⟨rfl,rfl⟩))))))))))⟩
theorem ZW:Qa s 7 z ns (cO s [[7,z]]).1 (cO s [[7,z]]).2:=⟨(s,_),rfl,rfl,.inr (.inr (.inr (.inr (.inr (.inr (.inr (.inl ⟨rfl,rfl⟩)))))))⟩
theorem Wv:Qa s 9 z ns (cO s [[9,z],ns]).1 (cO s [[9,z],ns]).2:=⟨_,rfl,rfl,.inr (.inr (.inr (.inr (.inr (.inr (.inr (.inr (.inr (.inl ⟨rfl,rfl⟩)))))))))⟩
theorem Ww(len:∀k,(vZ (qm s k).2).length<=20000)(c:List (List Int)):(cO s c).2.length<=20000:=by
 unfold cO;cases VaarrlNeutral.callOf c with
 |none=>show 1<=20000;decide
 |some k=>exact len k
end
inductive abI(sp:Sp)(vs:ao)(H:Hp)(Q:VK)(z':XK):Prop
 |mk (G:Hp) (l:Addr) (xs:ao) (_:G l=ab) (_:H=upd G l (.lst xs)) (_:sp vs G (fun v G'=>G' l=ab->Q v (upd G' l (.lst xs))) fun _ _ _=>False)
theorem aeq{P:bY}{w:cX}{K:aY}{mg:aj}{base:Heap}{k:Nat}{f:Addr}{fd:bC}{ps:ak}{sp:Sp}(F:dy P w K mg base (k7 P w) k f fd ps sp):dy P w K mg base eM k f fd ps (abI sp):=by
 refine⟨fun vs H Q E ⟨G,l,xs,_,_,h⟩=>F.len _ _ _ _ h,?_⟩;rintro A outer s _ args us vs Q E hr he hb hv ⟨G,l,xs,hl,rfl,h⟩;have hs:upd G l (.lst xs) l=aa (.lst xs):=bf;have ol:=he.gx l _ hs;obtain⟨zx,its,n,hvx,gl⟩:=id ol
 have no:∀{b:Addr},upd G l (.lst xs) b=ab->b≠l/\G b=ab:=fun{b} e=>by
  have nb:b≠l:=fun z=>by rw[z,hs]at e;cases e
  rw[bB nb]at e;exact⟨nb,e⟩
 have up:∀{G:Hp}{b:Addr}{o:HO},G l=ab->G b=aa o->upd G l (.lst xs) b=aa o:=fun{G b o} g e=>by
  rw[bB (bP e g)];exact e
 have dn:∀{b:Addr}{o:HO},(∀ys,o≠ .lst ys)->upd G l (.lst xs) b=aa o->G b=aa o:=fun{b o} no e=>by
  have nb:b≠l:=fun z=>by
   rw[z,hs]at e;cases e;exact no _ rfl
  rw[bB nb]at e;exact e
 have e0:Qc P w K mg base A outer s G:=⟨he.frames,he.mod,fun b o e=>⟨(he.bs b o e).1,(no (he.bs b o e).2).2⟩,he.Sb,he.yb,fun b z=>(no (he.Vm b z)).2,
  fun b o e=>(he.gx b o (up hl e)).tM (fun _ _ _ q=>q) (fun c q=>dn (fun _ z=>by cases z) q) fun c ys q=>dn (fun _ z=>by cases z) q,he.bare⟩
 refine iU (F.run A outer s G args us vs _ _ hr e0 hb hv h) fun r s' x=>?_;cases r with
 |error e=>
  obtain⟨_,_,_,_,_,_,_,_,_,z⟩:=x;exact z.elim
 |ok fl=>
  cases fl with
  |next=>exact x
  |brk=>exact x
  |cont=>exact x
  |ret u=>
   obtain⟨v,G',os,bare,un,gx,rv,q⟩:=x;have lf:l∉RL outer:=fun z=>(no (he.Vm l z)).1 rfl;have gl':=un.keep l _ gl hl lf (by simp);have l':=un.free l _ gl hl (by simp);refine⟨v,_,os,bare,⟨fun b o e n=>un.keep b o e (no n).2,fun b o e n=>un.slot b o e (no n).2,fun b o e n x=>?_,un.there,fun b ys e=>up l' (un.Fb b ys (dn (fun _ z=>by cases z) e)),fun b o y e=>up l' (un.Iu b o y (dn (fun _ z=>by cases z) e)),fun b qs e=>?_⟩,fun b o e=>?_,rv,q l'⟩
   ·rw[bB (no n).1];exact un.free b o e (no n).2 x
   ·obtain⟨m,e2⟩:=un.GJ b qs (dn (fun _ z=>by cases z) e);exact⟨m,up l' e2⟩
   have e:upd G' l (.lst xs) b=aa o:=e;by_cases z:b=l
   ·subst z;rw[bf]at e;cases e;exact⟨zx,its,n,hvx,gl'⟩
   rw[bB z]at e;exact(gx b o e).tM (fun _ _ _ q=>q) (fun c q=>up l' q) fun c ys q=>up l' q
theorem BY(l:List Nat):(Vaarrl.«ints» l).length=l.length:=by unfold Vaarrl.«ints»;simp
theorem DW{s:b9}{f:aO->jS}(hs:∀p,s.program=aa p->(vZ (f p)).length<=20000):(vZ (vg s f)).length<=20000:=by
 unfold vg;cases hp:s.program with
 |none=>show 1<=20000;decide
 |some p=>exact hs p hp
theorem Gg{s:b9}{l:List Int}{f:aO->List Nat->jS}(hs:∀p q,s.program=aa p->(vZ (f p q)).length<=20000):(vZ (Lf s l f)).length<=20000:=by
 unfold Lf;refine DW fun p hp=>?_;split
 ·show 1<=20000;decide
 exact hs p _ hp
theorem aa0{s:b9}(pw:∀p,s.program=aa p->um p/\wb p s.data/\∀x∈s.data,x.1∈dv p)(k:Vaarrl.Call):(vZ (qm s k).2).length<=20000:=by
 cases k with
 |load t=>
  show(vZ (qo s t).2).length<=_;unfold qo;split
  ·show 1<=20000;decide
  show 2<=20000;decide
 |set n d=>
  show(vZ (Bj s n d).2).length<=_;unfold Bj;split
  ·show 1<=20000;decide
  show 1<=20000;decide
 |where_ t=>
  show(vZ (match eF t with|.ok _=>{value:=0,list:=[0]}|.error e=>{value:=((e.1:Nat):Int),list:=[((e.2:Nat):Int)]})).length<=_;split
  ·show 2<=20000;decide
  show 2<=20000;decide
 |plain=>
  refine DW (f:=fun p=>i6 (Vaarrl.«ints» (eZ p))) fun p hp=>?_;have:=xG (pw p hp).1;show(Vaarrl.«ints» _).length+1<=_;rw[BY];omega
 |live=>
  refine DW (f:=fun p=>i6 (Vaarrl.«ints» ((bw p.length).flatMap fun a=>[bE p a,dj p a]))) fun p hp=>?_;have:=Iv (fun a=>[bE p a,dj p a]) 2 (bw p.length) fun x _=>bu 2;rw[b8]at this;have:=(pw p hp).1.j8;show(Vaarrl.«ints» _).length+1<=_;rw[BY];omega
 |need=>exact DW (f:=fun p=>Df (FN p)) fun p hp=>by show 1<=20000;decide
 |check l=>
  refine Gg (f:=fun p q=>(match eP p q with|none=>{value:=0}|some x=>{value:=1,list:=Vaarrl.«ints» [x.1,x.2]})) fun p q hp=>?_;split
  ·show 1<=20000;decide
  show 3<=20000;decide
 |room l=>exact Gg (f:=fun p q=>Df (i8 p q)) fun p q hp=>by show 1<=20000;decide
 |plan k=>
  refine DW (f:=fun p=>if k<0\/2<k then pX Vaarrl.LIMIT else i6 (Vaarrl.«ints» (uu p k.toNat))) fun p hp=>?_;split
  ·show 1<=20000;decide
  have:=(pw p hp).1.j8;show(Vaarrl.«ints» _).length+1<=_;rw[BY]
  have e:(uu p k.toNat).length=p.length:=by
   unfold uu;split
   ·exact(Q3 (pw p hp).1).1
   split<;>exact xS _ _
  omega
 |pack l=>
  refine Gg (f:=fun p q=>if rj p q=af then pX Vaarrl.CLASH else i6 (Vaarrl.«ints» (kX p q))) fun p q hp=>?_;split
  ·show 1<=20000;decide
  have:=(pw p hp).1.j8;show(Vaarrl.«ints» _).length+1<=_;rw[BY];have e:(kX p q).length=p.length:=xS _ _;omega
 |run l=>
  refine Gg (f:=fun p q=>if eC s p=af then pX y4 else i6 (fG (jm p q s.data))) fun p q hp=>?_;split
  ·show 1<=20000;decide
  have:=Gf (pw p hp).1 q s.data;show(fG _).length+1<=_;omega
 |apart=>
  refine DW (f:=fun p=>if eC s p=af then pX y4 else i6 (fG (nA p s.data))) fun p hp=>?_;split
  ·show 1<=20000;decide
  rename_i hg;obtain⟨w1,w2,w3⟩:=pw p hp;have:=Gf w1 (cP p) s.data;rw[Lc w1 w2 (E8 _|>.mp hg)]at this;show(fG _).length+1<=_;omega
theorem iF.good{CS CP CR:Addr}{H:Hp}{r:Addr}{s:b9}(h:iF CS CP CR H r s):∀p,s.program=aa p->um p/\wb p s.data/\∀x∈s.data,x.1∈dv p:=fun p hp=>by
 obtain⟨dx,d,pv,_,h2,_⟩:=h;unfold IL at h2;rw[hp]at h2;obtain⟨a,_,_,h3⟩:=h2;exact h3
def nV:ao:=[.int 7,.int 9]
def rV:ao:=[.int 0,.int 1,.int 5,.int 6,.int 8,.int 9,.int 10]
theorem adP{p:Int}(h:YF p):ve (.int p) nV=af/\ve (.int p) rV=af:=by
 rcases h with rfl|rfl|rfl|rfl<;>exact⟨rfl,rfl⟩
theorem adO{p:Int}(h:YE p):ve (.int p) nV=af/\ve (.int p) rV=ae:=by
 rcases h with rfl|rfl|rfl|rfl|rfl|rfl<;>exact⟨rfl,rfl⟩
theorem acB{p:Int}(h:YF p):fC [[p]]=[[p]]:=by
 rcases h with rfl|rfl|rfl|rfl<;>rfl
theorem acA{p:Int}{r:List Int}(h:YE p):fC [[p],r]=[[p],r]:=by
 rcases h with rfl|rfl|rfl|rfl|rfl|rfl<;>rfl
def Rdr(p:Int)(r:List Int)(c:List (List Int))(t:List Int):Prop:=
 (YF p/\t=r/\c=[[p]])\/
 (YE p/\∃(n:Nat)(r':List Int),r=(n:Int)::r'/\n<=r'.length/\t=r'.drop n/\c=[[p],r'.take n])\/
 (p=7/\∃z,r=z::t/\c=[[p,z]])\/
 (p=9/\∃(z:Int)(n:Nat)(r':List Int),r=z::(n:Int)::r'/\n<=r'.length/\t=r'.drop n/\c=[[p,z],r'.take n])
theorem W6{r x t:List Int}(h:Uj r=aa (x,t)):∃(n:Nat)(r':List Int),r=(n:Int)::r'/\n<=r'.length/\t=r'.drop n/\x=r'.take n:=by
 cases r with
 |nil=>cases h
 |cons n r'=>
  have h:(if 0<=n/\n.toNat<=r'.length then aa (r'.take n.toNat,r'.drop n.toNat)else ab)=aa (x,t):=h;by_cases hn:0<=n/\n.toNat<=r'.length
  ·rw[da hn]at h;cases h;exact⟨n.toNat,r',by rw[CZ hn.1],hn.2,rfl,rfl⟩
  rw[cQ hn]at h;cases h
theorem abJ{r t:List Int}{xs:List (List Int)}(h:FT 1 r=aa (xs,t)):∃x,xs=[x]/\Uj r=aa (x,t):=by
 unfold FT at h;cases hr:Uj r with
 |none=>rw[hr]at h;cases h
 |some y=>
  obtain⟨x,u⟩:=y;rw[hr]at h;cases h;exact⟨x,rfl,rfl⟩
theorem WU{p:Int}{n k:Nat}(h:fX p=aa (n,k)):
 (n=0/\k=0/\YF p)\/(n=0/\k=1/\YE p)\/(n=1/\k=0/\p=7)\/(n=1/\k=1/\p=9):=by
 unfold fX at h
 by_cases e:p=0
 ·rw[da e]at h
  cases h
  exact .inr (.inl ⟨rfl,rfl,.inl e⟩)
 rw[cQ e]at h
 clear e
 by_cases e:p=1
 ·rw[da e]at h
  cases h
  exact .inr (.inl ⟨rfl,rfl,.inr (.inl e)⟩)
 rw[cQ e]at h
 clear e
 by_cases e:p=2
 ·rw[da e]at h
  cases h
  exact .inl ⟨rfl,rfl,.inl e⟩
 rw[cQ e]at h
 clear e
 by_cases e:p=3
 ·rw[da e]at h
  cases h
  exact .inl ⟨rfl,rfl,.inr (.inl e)⟩
 rw[cQ e]at h
 clear e
 by_cases e:p=4
 ·rw[da e]at h
  cases h
  exact .inl ⟨rfl,rfl,.inr (.inr (.inl e))⟩
 rw[cQ e]at h
 clear e
 by_cases e:p=5
 ·rw[da e]at h
  cases h
  exact .inr (.inl ⟨rfl,rfl,.inr (.inr (.inl e))⟩)
 rw[cQ e]at h
 clear e
 by_cases e:p=6
 ·rw[da e]at h
  cases h
  exact .inr (.inl ⟨rfl,rfl,.inr (.inr (.inr (.inl e)))⟩)
 rw[cQ e]at h
 clear e
 by_cases e:p=7
 ·rw[da e]at h
  cases h
  exact .inr (.inr (.inl ⟨rfl,rfl,e⟩))
 rw[cQ e]at h
 clear e
 by_cases e:p=8
 ·rw[da e]at h
  cases h
  exact .inr (.inl ⟨rfl,rfl,.inr (.inr (.inr (.inr (.inl e))))⟩)
 rw[cQ e]at h
 clear e
 by_cases e:p=9
 ·rw[da e]at h
  cases h
  exact .inr (.inr (.inr ⟨rfl,rfl,e⟩))
 rw[cQ e]at h
 clear e
 by_cases e:p=10
 ·rw[da e]at h
  cases h
  exact .inr (.inl ⟨rfl,rfl,.inr (.inr (.inr (.inr (.inr e))))⟩)
 rw[cQ e]at h
 clear e
 by_cases e:p=11
 ·rw[da e]at h
  cases h
  exact .inl ⟨rfl,rfl,.inr (.inr (.inr e))⟩
 rw[cQ e]at h
 clear e
 cases h
theorem aaT{p:Int}{r t:List Int}{c:List (List Int)}(h:Qv fX (p::r)=aa (c,t)):Rdr p r c t:=by
 have h:(match fX p with
  |none=>ab
  |some (n,k)=>if r.length<n then ab else match FT k (r.drop n)with
   |none=>ab
   |some (xs,t)=>aa ((p::r.take n)::xs,t))=aa (c,t):=h
 cases hs:fX p with
 |none=>rw[hs]at h;cases h
 |some nk=>
  obtain⟨n,k⟩:=nk;rw[hs]at h;simp only at h;split at h
  ·cases h
  rename_i hl;cases hr:FT k (r.drop n)with
  |none=>rw[hr]at h;cases h
  |some y=>
   obtain⟨xs,u⟩:=y;rw[hr]at h;cases h;rcases WU hs with⟨rfl,rfl,a⟩|⟨rfl,rfl,a⟩|⟨rfl,rfl,a⟩|⟨rfl,rfl,a⟩
   ·cases hr;exact .inl ⟨a,rfl,rfl⟩
   ·obtain⟨x,rfl,e⟩:=abJ hr;obtain⟨n,r',e1,e2,e3,rfl⟩:=W6 e;exact .inr (.inl ⟨a,n,r',e1,e2,e3,rfl⟩)
   ·cases r with
    |nil=>exact(hl (by decide)).elim
    |cons z r=>
     cases hr;exact .inr (.inr (.inl ⟨a,z,rfl,rfl⟩))
   cases r with
   |nil=>exact(hl (by decide)).elim
   |cons z r=>
    obtain⟨x,rfl,e⟩:=abJ hr;obtain⟨n,r',e1,e2,e3,rfl⟩:=W6 e;have e1:r=(n:Int)::r':=e1;subst e1;exact .inr (.inr (.inr ⟨a,z,n,r',rfl,e2,e3,rfl⟩))
def Pl(ns:List Int)(q:Nat)(s:b9)(dn:List Int):Prop:=q<=ns.length/\∃f cs,oO fX f (ns.drop q)=aa cs/\(cs.map fC).all IX=ae/\dn.length+20001*cs.length<=3000150/\dn++Qu (Bb cO s (cs.map fC))=jZ ns
def Nx(ns:List Int)(q:Nat)(c z:Int)(row:List Int)(q':Nat):Prop:=
 (ve (.int c) nV=af/\ve (.int c) rV=af/\z=0/\row=[]/\q'=q+1)\/
 (ve (.int c) nV=af/\ve (.int c) rV=ae/\∃n:Nat,ns[q+1]?=aa (n:Int)/\z=0/\row=(ns.drop (q+2)).take n/\q'=q+2+n)\/
 (ve (.int c) nV=ae/\ve (.int c) rV=af/\ns[q+1]?=aa z/\row=[]/\q'=q+2)\/
 (ve (.int c) nV=ae/\ve (.int c) rV=ae/\ns[q+1]?=aa z/\∃n:Nat,ns[q+2]?=aa (n:Int)/\row=(ns.drop (q+3)).take n/\q'=q+3+n)
theorem Ck{ns r:List Int}{q:Nat}{c:Int}(h:ns.drop q=c::r):ns[q]?=aa c/\ns.drop (q+1)=r:=by
 refine⟨?_,?_⟩
 ·have:=congrArg (fun l=>l[0]?) h;simpa using this
 have:=congrArg (fun l=>l.drop 1) h;simpa[lW,Nat.add_comm]using this
theorem R4{f:Nat}{p:Int}{r:List Int}{cs:List (List (List Int))}(h:oO fX f (p::r)=aa cs):∃f' c t cs',Qv fX (p::r)=aa (c,t)/\oO fX f' t=aa cs'/\cs=c::cs':=by
 cases f with
 |zero=>cases h
 |succ f=>
  unfold oO at h;cases hc:Qv fX (p::r)with
  |none=>rw[hc]at h;cases h
  |some y=>
   obtain⟨c,t⟩:=y;rw[hc]at h;simp only at h;cases hd:oO fX f t with
   |none=>rw[hd]at h;cases h
   |some cs'=>
    rw[hd]at h;cases h;exact⟨f,c,t,cs',rfl,hd,rfl⟩
theorem Pl.next{ns:List Int}{q:Nat}{s:b9}{dn:List Int}(h:Pl ns q s dn)(lt:q<ns.length)(len:∀k,(vZ (qm s k).2).length<=20000):
 ∃(c z:Int)(row y0:List Int)(s':b9)(q':Nat),ns[q]?=aa c/\Qa s c z row s' y0/\Nx ns q c z row q'/\q<q'/\dn.length+y0.length+1<=3000150/\Pl ns q' s' (dn++((y0.length:Nat):Int)::y0):=by
 obtain⟨_,f,cs,h1,h2,h3,h4⟩:=h
 cases hd:ns.drop q with
 |nil=>
  have:=List.drop_eq_nil_iff.mp hd
  omega
 |cons c r=>
  rw[hd]at h1
  obtain⟨f',k,t,cs',e1,e2,rfl⟩:=R4 h1
  obtain⟨g1,g2⟩:=Ck hd
  rw[dE]at h2 h4
  rw[N0,cM]at h2
  rw[cK]at h3
  have lk:=Ww len (fC k)
  have pl:∀q',q'<=ns.length->ns.drop q'=t->Pl ns q' (cO s (fC k)).1 (dn++(((cO s (fC k)).2.length:Nat):Int)::(cO s (fC k)).2):=fun q' hq e=>by
   refine⟨hq,f',cs',by rw[e];exact e2,h2.2,?_,?_⟩
   ·rw[bR,cK];omega
   rw[<-h4];have e:Bb cO s (fC k::cs'.map fC)=(cO s (fC k)).2::Bb cO (cO s (fC k)).1 (cs'.map fC):=rfl;rw[e];unfold Qu;rw[iW,de]
  have lend:∀{q0:Nat}{x:Int}{r0:List Int},ns.drop q0=x::r0->q0+1+r0.length=ns.length:=fun{q0 x r0} e=>by
   have:=congrArg Jc e;rw[qr,cK]at this;omega
  have l0:=lend hd
  have j8:∀n:Nat,n<=20000->dn.length+n+1<=3000150:=fun n hn=>by omega
  have h5:=h2.1
  clear h1 h2 h3 h4 hd
  refine⟨c,?_⟩
  rcases aaT e1 with⟨a,rfl,rfl⟩|⟨a,n,r',rfl,hn,rfl,rfl⟩|⟨rfl,z,rfl,rfl⟩|⟨rfl,z,n,r',rfl,hn,rfl,rfl⟩
  ·rw[acB a]at pl lk
   obtain⟨i1,i2⟩:=adP a
   exact⟨0,[],_,_,q+1,g1,ZV a,.inl ⟨i1,i2,rfl,rfl,rfl⟩,eQ _,j8 _ lk,pl _ (by omega) g2⟩
  ·obtain⟨g3,g4⟩:=Ck g2
   have l1:=lend g2
   rw[acA a]at pl lk h5
   obtain⟨i1,i2⟩:=adO a
   refine⟨0,r'.take n,_,_,q+2+n,g1,ZU a h5,.inr (.inl ⟨i1,i2,n,g3,rfl,by rw[g4],rfl⟩),by omega,j8 _ lk,pl _ (by omega) ?_⟩
   rw[<-g4,lW]
  ·obtain⟨g3,g4⟩:=Ck g2
   have l1:=lend g2
   exact⟨z,[],_,_,q+2,g1,ZW,.inr (.inr (.inl ⟨rfl,rfl,g3,rfl,rfl⟩)),by omega,j8 _ lk,pl _ (by omega) g4⟩
  obtain⟨g3,g4⟩:=Ck g2
  obtain⟨g5,g6⟩:=Ck g4
  have l1:=lend g4
  refine⟨z,r'.take n,_,_,q+3+n,g1,Wv,.inr (.inr (.inr ⟨rfl,rfl,g3,n,g5,by rw[g6],rfl⟩)),by omega,j8 _ lk,pl _ (by omega) ?_⟩
  rw[<-g6,lW]
theorem Pl.first{ns:List Int}(h:kg ns=ae):Pl ns 0 Vaarrl.start []:=by
 unfold kg V6 at h;cases hc:oO fX ns.length ns with
 |none=>rw[hc]at h;cases h
 |some cs=>
  rw[hc]at h;simp only at h;rw[cM]at h;unfold VaarrlNeutral.asked at h;have h2:=Uq.mp h.2;have h3:=Uq.mp h2.2;have h4:=of_decide_eq_true h3.2;rw[aV]at h4;refine⟨cC _,ns.length,cs,hc,h2.1,by show 0+20001*cs.length<=_;omega,?_⟩;unfold jZ V6;rw[hc];rfl
theorem Pl.last{ns:List Int}{q:Nat}{s:b9}{dn:List Int}(h:Pl ns q s dn)(ge:ns.length<=q):dn=jZ ns:=by
 obtain⟨_,f,cs,h1,_,_,h4⟩:=h;rw[kP ge]at h1
 have e:cs=[]:=by
  unfold oO at h1;cases f<;>(cases h1;rfl)
 subst e;rw[<-h4];unfold Bb Qu;simp
theorem PN{ns:List Int}{o n:Nat}:CH (mI ns) (aa (o:Int)) (aa ((o:Int)+(n:Int)))=mI ((ns.drop o).take n):=by
 have e:(o:Int)+(n:Int)=((o+n:Nat):Int):=by omega
 unfold CH;rw[e,HT.yK,HT.yK,ku];unfold mI;rw[NZ,List.map_drop];by_cases h:o<=ns.length
 ·rw[show min o ns.length=o by omega];refine vc fun i=>?_;rw[Wb,Wb,Di];by_cases h1:i<n
  ·rw[da h1];by_cases h2:i<min (o+n) ns.length-o
   ·rw[da h2]
   rw[cQ h2];refine(dZ ?_).symm;rw[aV];omega
  rw[cQ h1,cQ (by omega)]
 rw[kP (by rw[aV];omega),kP (by rw[aV];omega)];simp
theorem adk{X:Cx}{k:Nat}{x:Str}{C:Addr}{ps:ak}{sp:Sp}{p pos:Pos}(M:Mc X.prog X.w X.K X.mg X.base k x C ps sp)(hr:gG (k+1) X.A)(hg:Gl X x)(AG:(x==("__debug__":Str))=af:=by decide):PE X (.Call (.Name x p) [] [] pos) (Oh C sp [] E0 Dr):=by
 obtain⟨f,fd,M,G,m,b⟩:=M.ex;exact Xo M G hr hg m b .nil rO AG
def acC(s:Stmt):List Stmt:=match s with
 |.While _ b _ _=>b
 |_=>[]
theorem uz{H:Hp}{a b:Addr}{o u:HO}(h:a≠b):upd (upd H a o) b u=upd (upd H b u) a o:=by
 funext c;unfold upd;by_cases h1:c=b
 ·subst h1;rw[da rfl,cQ (fun z=>h z.symm),da rfl]
 rw[cQ h1,cQ h1]
theorem BV{ns:List Int}{i:Nat}{z:Int}(h:ns[i]?=aa z):(mI ns)[i]?=aa (V.int z):=by
 unfold mI;rw[bL,h];rfl
theorem uO{H:Hp}{l w:Addr}{xs:ao}(h:upd H l (.lst xs) w=ab):w≠l/\H w=ab:=by
 have nb:w≠l:=fun z=>by rw[z,bf]at h;cases h
 rw[bB nb]at h;exact⟨nb,h⟩
theorem TR{b:Bool}{x y:Prop}(e:b=ae)(h:x):if b=ae then x else y:=by rw[da e];exact h
theorem TU{b:Bool}{x y:Prop}(e:b=af)(h:y):if b=ae then x else y:=by rw[cQ (by rw[e];decide)];exact h
inductive yI(K:aY)(T1 T2:Addr)(vs:ao)(H:Hp)(Q:VK)(z':XK):Prop
 |mk (a:Addr) (ns:List Int) (_:vs=[.ref a]) (_:dw K H a (mI ns)) (_:TabsOk T1 T2 H) (_:kg ns=ae) (_:∀(H':Hp)(p:Addr),H' p=aa (.lst (mI (jZ ns)))->Q (.ref p) H')
theorem Rq{f CS CP CR T1 T2:Addr}{fd:bC}(F:iG K "answers" "answers" uJ f fd)(M:Mc P w K mg base 1 "Rooms" CR dS (Ou CR))(hl:mg "len"=ab)(hN:KT K mg "CALLS_WITH_NUMBER" nV)(hR:KT K mg "CALLS_WITH_ROW" rV)
 (Ca:Fn P w K mg base eM 12 "answer_call" Q8 (abI (WS Qa K CS CP CR T1 T2))):
 dy P w K mg base eM 13 f fd ["calls"] (yI K T1 T2):=by
 obtain⟨aN,hN1,hN2⟩:=hN
 obtain⟨aR,hR1,hR2⟩:=hR
 refine F.ok Hi fun fz A outer s H vs Q E hr h=>?_
 obtain⟨a,ns,rfl,hns,tab,ask,k⟩:=h
 have nd:=Hi.nd
 obtain⟨T,hT,tl⟩:∃T:L2.TS,Nt (MY eM P w K mg base ["calls","rooms","answered","position","call","number","row","row_end","answer"] "answers" (bA uJ) f fz A outer s H E).nox ((acC ((jY uJ).getD 3 (.Pass ⟨0,0,0,0⟩))).drop 6) T/\
  ∀(D:L2.Ends)(G:Hp)(l r w:Addr)(q':Nat)(c z:Int)(row y0 dn:List Int)(s0 s1:b9)(v7 v8:Option V),G l=ab->iF CS CP CR G r s0->TabsOk T1 T2 G->dw K G a (mI ns)->dw K G w (mI row)->Qa s0 c z row s1 y0->dn.length+y0.length+1<=3000150->
   (∀G' v,G' l=ab->iF CS CP CR G' r s1->TabsOk T1 T2 G'->dw K G' a (mI ns)->D.nx [aa (.ref a),aa (.ref r),aa (.ref l),aa (.int q'),aa (.int c),aa (.int z),aa (.ref w),v7,v] (upd G' l (.lst (mI (dn++((y0.length:Nat):Int)::y0)))))->
   T D [aa (.ref a),aa (.ref r),aa (.ref l),aa (.int q'),aa (.int c),aa (.int z),aa (.ref w),v7,v8] (upd G l (.lst (mI dn))):=by
  refine⟨_,bh (jB 8 nd (dJ Ca hr (by rfl) (aQ (pv 1) (aQ (pv 4) (aQ (pv 5) (aQ (pv 6) bq))))))
   (bh (dN (mq cj c9 c8 iO (pv 2) (aQ (dD cJ (by rfl) hl cx (aQ (pv 8) bq)) bq)))
   (bj (dN (mq cj gu gd pF (pv 2) (aQ (pv 8) bq))))),?_⟩
  intro D G l r w q' c z row y0 dn s0 s1 v7 v8 gl ra tb ha hw st len kk
  refine⟨_,rfl,_,rfl,_,rfl,_,rfl,G,l,_,gl,rfl,r,w,s0,s1,c,z,row,y0,rfl,ra,tb,hw,st,fun n G' hn kp ra' tb' en gl'=>?_⟩
  have nnl:n≠l:=bP en gl'
  have hll:upd G' l (.lst (mI dn)) l=aa (.lst (mI dn)):=bf
  have hnn:upd G' l (.lst (mI dn)) n=aa (.lst (mI y0)):=by rw[bB nnl];exact en
  refine⟨_,rfl,.inl ⟨rfl,_,dw.of hll⟩,_,rfl,n,_,rfl,.inl (dw.of hnn),l,_,_,rfl,rfl,hll,by rw[ku,bZ];omega,?_⟩
  rw[jj]
  have agL:upd G' l (.lst (mI dn++[V.int (((mI y0).length:Nat):Int)])) l=aa (.lst (mI dn++[V.int (((mI y0).length:Nat):Int)])):=bf
  have ajJ:upd G' l (.lst (mI dn++[V.int (((mI y0).length:Nat):Int)])) n=aa (.lst (mI y0)):=by rw[bB nnl];exact en
  refine⟨_,rfl,.inl ⟨rfl,_,dw.of agL⟩,_,rfl,l,n,_,_,rfl,rfl,agL,ajJ,?_,?_⟩
  ·rw[bR,ku,ku,bZ]
   show _+1+_<=_
   omega
  rw[jj]
  have e:mI dn++[V.int (((mI y0).length:Nat):Int)]++mI y0=mI (dn++((y0.length:Nat):Int)::y0):=by
   rw[ku];unfold mI;rw[cg,dE,de];rfl
  rw[e]
  exact kk G' _ gl' ra' tb' (kp.seq ha)
 refine⟨_,bh (jB 1 nd (adk M (hr.mono (by decide)) (by rfl)))
  (bh (jB 2 nd (eB bq))
  (bh (jB 3 nd cG)
  (bh (oj bW (cS tm (pv 3) (dD cJ (by rfl) hl cx (aQ (pv 0) bq)) (dg _))
   (bh (jB 4 nd (dW cW (pv 0) (pv 3) (fun _ _=>rfl)))
   (bh (rM (i:=3) nd rfl (ux rfl) cG qB)
   (bh (jB 5 nd cG)
   (bh (d9 (cS yO (pv 4) (Hw (by rfl) hN1) (by rfl)) (bh (jB 5 nd (dW cW (pv 0) (pv 3) (fun _ _=>rfl))) (bj (rM (i:=3) nd rfl (ux rfl) cG qB))) cT)
   (bh (jB 6 nd (eB bq))
   (bh (d9 (cS yO (pv 4) (Hw (by rfl) hR1) (by rfl)) (bh (jB 7 nd (fZ j5 (fZ j5 (pv 3) cG) (dW cW (pv 0) (pv 3) (fun _ _=>rfl)))) (bh (jB 6 nd (BE F7 (pv 0) (tf (fZ j5 (pv 3) cG)) (tf (pv 7)))) (bj (jB 3 nd (pv 7))))) cT)
   hT)))))))
  (bj (cf (pv 2)))))),?_⟩
 intro r dx x9 hd0 ndr
 refine⟨r,dx,rfl,bf,fun d hd=>⟨rfl,?_⟩⟩
 generalize hH1:upd (upd (upd (upd H dx (.own r)) r (.ins CR dx [])) d (.dK [])) r (.ins CR dx (W7 .j7 (.ref d)))=H1
 have agb:d≠r:=fun z=>by rw[z,bf]at hd;cases hd
 have ndd:d≠dx:=fun z=>by rw[z,bB ndr,bf]at hd;cases hd
 have dH:H d=ab:=by rw[bB agb,bB ndd]at hd;exact hd
 have s1:bH H H1:=fun b o e=>by
  rw[<-hH1,bB (bP e x9),bB (bP e dH),bB (bP e x9),bB (bP e hd0)];exact e
 have ra1:iF CS CP CR H1 r Vaarrl.start:=⟨dx,d,.j7,by rw[<-hH1,bf],⟨rfl,rfl⟩,[],by rw[<-hH1,bB agb,bf],⟨by simp,by simp⟩,fun n=>rfl⟩
 refine⟨by show 0<=bz;decide,fun l hl0=>?_⟩
 refine⟨fun m σ H'=>Ex9 fun(q:Nat)(G:Hp)(s0:b9)(dn:List Int)(v4 v5 v6 v7 v8:Option V)=>m=ns.length-q/\G l=ab/\H'=upd G l (.lst (mI dn))/\iF CS CP CR G r s0/\TabsOk T1 T2 G/\dw K G a (mI ns)/\Pl ns q s0 dn/\σ=[aa (.ref a),aa (.ref r),aa (.ref l),aa (.int q),v4,v5,v6,v7,v8],
  ⟨_,0,H1,_,[],ab,ab,ab,ab,ab,rfl,hl0,rfl,ra1,tab.same s1,s1.seq hns,Pl.first ask,rfl⟩,?_⟩
 rintro m σ H' ⟨q,G,s0,dn,v4,v5,v6,v7,v8,rfl,gl,rfl,ra,tb,ha,pl,rfl⟩
 have sl:∀{xs:ao},bH G (upd G l (.lst xs)):=fun{xs}=>bH.new gl
 refine⟨_,rfl,_,rfl,a,_,rfl,.inl (sl.seq ha),_,_,rfl,rfl,_,rfl,?_⟩
 rw[ku]
 by_cases h1:(q:Int)<((ns.length:Nat):Int)
 ·rw[qk h1]
  obtain⟨c,z,row,y0,s2,q',hc,st,nx,lt,fits,pl2⟩:=pl.next (by omega) (aa0 ra.good)
  obtain⟨Nv,hNv⟩:∃Nv:L2.St->Hp->Prop,Nv=fun σ' G'=>Ex9 fun(q':Nat)(G:Hp)(s0:b9)(dn:List Int)(v4 v5 v6 v7 v8:Option V)=>ns.length-q'<ns.length-q/\G l=ab/\G'=upd G l (.lst (mI dn))/\iF CS CP CR G r s0/\TabsOk T1 T2 G/\dw K G a (mI ns)/\Pl ns q' s0 dn/\σ'=[aa (.ref a),aa (.ref r),aa (.ref l),aa (.int q'),v4,v5,v6,v7,v8]:=⟨_,rfl⟩
  refine dM ⟨Nv,fun σ' G' z=>by
   rw[hNv]at z;obtain⟨q',G,s0,dn,v4,v5,v6,v7,v8,z1,z2⟩:=z;exact⟨_,z1,q',G,s0,dn,v4,v5,v6,v7,v8,rfl,z2⟩,?_⟩
  have en1:((q:Int)+1)=((q+1:Nat):Int):=by omega
  have en2:((q:Int)+1+1)=((q+2:Nat):Int):=by omega
  refine⟨_,rfl,_,rfl,a,_,_,_,rfl,rfl,sl.seq ha,at_of (j:=q) rfl (BV hc),_,rfl,_,_,rfl,rfl,?_⟩
  have fin:∀(D:L2.Ends)(Gw:Hp)(w:Addr)(v3:Int)(v7 v8:Option V),D.nx=Nv->v3=((q':Nat):Int)->Gw l=ab->iF CS CP CR Gw r s0->TabsOk T1 T2 Gw->dw K Gw a (mI ns)->dw K Gw w (mI row)->T D [aa (.ref a),aa (.ref r),aa (.ref l),aa (.int v3),aa (.int c),aa (.int z),aa (.ref w),v7,v8] (upd Gw l (.lst (mI dn))):=fun D Gw w v3 v7 v8 g0 g0' g1 g2 g3 g4 g5=>by
   subst g0'
   exact tl D Gw l r w q' c z row y0 dn s0 s2 v7 v8 g1 g2 g3 g4 g5 st fits fun G' v x1 x2 x3 x4=>by
    rw[g0,hNv];exact⟨q',G',s2,_,_,_,_,_,_,by omega,x1,rfl,x2,x3,x4,pl2,rfl⟩
  rcases nx with⟨n1,n2,rfl,rfl,rfl⟩|⟨n1,n2,n,hn,rfl,rfl,rfl⟩|⟨n1,n2,hz,rfl,rfl⟩|⟨n1,n2,hz,n,hn,rfl,rfl⟩
  ·refine⟨_,rfl,aN,_,rfl,.inr (hN2 _),rfl,rfl,_,rfl,TU n1 ⟨by show 0<=bz;decide,fun w hw=>?_⟩⟩
   obtain⟨Xy,gw⟩:=uO hw
   rw[uz (dh Xy)]
   have s2:bH G (upd G w (.lst [])):=bH.new gw
   exact⟨_,rfl,aR,_,rfl,.inr (hR2 _),rfl,rfl,_,rfl,TU n2 (fin _ _ w _ _ _ rfl rfl (by rw[bB (dh Xy)];exact gl) (ra.same s2) (tb.same s2) (s2.seq ha) (dw.of bf))⟩
  ·refine⟨_,rfl,aN,_,rfl,.inr (hN2 _),rfl,rfl,_,rfl,TU n1 ⟨by show 0<=bz;decide,fun w0 hw=>?_⟩⟩
   obtain⟨Xy,gw⟩:=uO hw
   rw[uz (dh Xy)]
   have s2:bH G (upd G w0 (.lst [])):=bH.new gw
   have gl2:upd G w0 (.lst []) l=ab:=by rw[bB (dh Xy)];exact gl
   generalize upd G w0 (.lst [])=G1 at s2 gl2
   have sl2:∀{xs:ao},bH G1 (upd G1 l (.lst xs)):=fun{xs}=>bH.new gl2
   have ha1:=s2.seq ha
   refine⟨_,rfl,aR,_,rfl,.inr (hR2 _),rfl,rfl,_,rfl,TR n2 ⟨_,rfl,_,_,rfl,rfl,_,rfl,_,rfl,a,_,_,_,rfl,rfl,sl2.seq ha1,at_of (j:=q+1) en1 (BV hn),_,_,rfl,rfl,_,rfl,_,rfl,_,_,rfl,rfl,_,rfl,_,rfl,_,rfl,a,_,rfl,sl2.seq ha1,fun p hp=>?_⟩⟩
   obtain⟨npl,gp⟩:=uO hp
   rw[uz (dh npl)]
   refine⟨_,rfl,?_⟩
   have s3:=s2.trans (bH.new gp (o:=.lst (CH (mI ns) (aa ((q:Int)+1+1)) (aa ((q:Int)+1+1+(n:Int))))))
   have ec:CH (mI ns) (aa ((q:Int)+1+1)) (aa ((q:Int)+1+1+(n:Int)))=mI ((ns.drop (q+2)).take n):=by rw[en2];exact PN
   exact fin _ _ p _ _ _ rfl (by omega) (by rw[bB (dh npl)];exact gl2) (ra.same s3) (tb.same s3) (s3.seq ha) (dw.of (by rw[bf,ec]))
  ·refine⟨_,rfl,aN,_,rfl,.inr (hN2 _),rfl,rfl,_,rfl,TR n1 ⟨_,rfl,_,rfl,a,_,_,_,rfl,rfl,sl.seq ha,at_of (j:=q+1) en1 (BV hz),_,rfl,_,_,rfl,rfl,by show 0<=bz;decide,fun w hw=>?_⟩⟩
   obtain⟨Xy,gw⟩:=uO hw
   rw[uz (dh Xy)]
   have s2:bH G (upd G w (.lst [])):=bH.new gw
   refine⟨_,rfl,aR,_,rfl,.inr (hR2 _),rfl,rfl,_,rfl,TU n2 ?_⟩
   exact fin _ _ w _ _ _ rfl en2 (by rw[bB (dh Xy)];exact gl) (ra.same s2) (tb.same s2) (s2.seq ha) (dw.of bf)
  have en3:((q:Int)+1+1+1)=((q+3:Nat):Int):=by omega
  refine⟨_,rfl,aN,_,rfl,.inr (hN2 _),rfl,rfl,_,rfl,TR n1 ⟨_,rfl,_,rfl,a,_,_,_,rfl,rfl,sl.seq ha,at_of (j:=q+1) en1 (BV hz),_,rfl,_,_,rfl,rfl,by show 0<=bz;decide,fun w0 hw=>?_⟩⟩
  obtain⟨Xy,gw⟩:=uO hw
  rw[uz (dh Xy)]
  have s2:bH G (upd G w0 (.lst [])):=bH.new gw
  have gl2:upd G w0 (.lst []) l=ab:=by rw[bB (dh Xy)];exact gl
  generalize upd G w0 (.lst [])=G1 at s2 gl2
  have sl2:∀{xs:ao},bH G1 (upd G1 l (.lst xs)):=fun{xs}=>bH.new gl2
  have ha1:=s2.seq ha
  refine⟨_,rfl,aR,_,rfl,.inr (hR2 _),rfl,rfl,_,rfl,TR n2 ⟨_,rfl,_,_,rfl,rfl,_,rfl,_,rfl,a,_,_,_,rfl,rfl,sl2.seq ha1,at_of (j:=q+2) en2 (BV hn),_,_,rfl,rfl,_,rfl,_,rfl,_,_,rfl,rfl,_,rfl,_,rfl,_,rfl,a,_,rfl,sl2.seq ha1,fun p hp=>?_⟩⟩
  obtain⟨npl,gp⟩:=uO hp
  rw[uz (dh npl)]
  refine⟨_,rfl,?_⟩
  have s3:=s2.trans (bH.new gp (o:=.lst (CH (mI ns) (aa ((q:Int)+1+1+1)) (aa ((q:Int)+1+1+1+(n:Int))))))
  have ec:CH (mI ns) (aa ((q:Int)+1+1+1)) (aa ((q:Int)+1+1+1+(n:Int)))=mI ((ns.drop (q+3)).take n):=by rw[en3];exact PN
  exact fin _ _ p _ _ _ rfl (by omega) (by rw[bB (dh npl)];exact gl2) (ra.same s3) (tb.same s3) (s3.seq ha) (dw.of (by rw[bf,ec]))
 rw[gX h1]
 refine cE ⟨_,rfl,k _ l ?_⟩
 rw[bf,pl.last (by omega)]
end SR
end
section
namespace SR
open PySem PySem.Spec PyProof.Rows L2 XL sP
open PySem.W (WData Codec OpenSpec Well WellAll ReadsW ReadsAllW tabObj)
theorem Kg{Q:Params}{h:Heap}:∀{ns:List Int}{vs:au},WellAll Q h vs (ns.map WData.int)->Vals (mI ns) vs
 |[],_,x=>by
  cases x;exact .nil
 |n::r,_,x=>by
  cases x with
  |cons a b=>
   cases a;exact .cons ⟨_,rfl⟩ (Kg b)
theorem Hm{R:VT}{cl:Str->Option Addr}{h:Heap}:∀{ns:List Int}{vs:au},Vals (mI ns) vs->∃as,ReadsAllW R cl h vs (ns.map WData.int) as
 |[],_,x=>by
  cases x;exact⟨_,ReadsAllW.nil⟩
 |n::r,_,x=>by
  cases x with
  |cons a b=>
   obtain⟨t,rfl⟩:=a;obtain⟨as,z⟩:=Hm (R:=R) (cl:=cl) (h:=h) b;exact⟨_,ReadsAllW.cons (ReadsW.int n t) z⟩
theorem VE{P:bY}{w:cX}{K:aY}{mg mb:aj}{k:Nat}{fa T1 T2:Addr}{fd:bC}{s1:a9}{vals:au}{ns:List Int}{R:VT}{cl:Str->Option Addr}{d0:WData}
 (KX:K.In s1.heap)(hns:s1.heap.Ns cV mg)(hb:s1.heap.Ns AZ mb)(hbb:∀x:Str,x≠"__name__"->mb x=ip x)(ajR:s1.heap.NoLimit)(hg:s1.gens= #[])(hm:Nw mg s1.heap)
 (k1:K.lookup T1=ab)(k2:K.lookup T2=ab)(t1:s1.heap.get? T1=aa (tabObj #[]))(t2:s1.heap.get? T2=aa (tabObj #[]))(c1:isCodeTable s1.heap T1)(c2:isCodeTable s1.heap T2)
 (hwl:WellAll w.params s1.heap vals [.list (ns.map WData.int)])(hwt:(WData.list (ns.map WData.int)).weight<=1048576)(hr:gG k callerA)
 (F:∀base:Heap,K.In base->base.Ns cV mg->Nw mg base->dy P w K mg base eM k fa fd ["calls"] (yI K T1 T2))(agW:∀(s:a9)(us:au),us.length=1->BindsTo s fd ⟨us,[]⟩ ((["calls"]:ak).zip us))
 (ask:kg ns=ae)(hd0:d0=.list ((jZ ns).map WData.int)):
 jA (bK P w) callerA (.call (.ref fa) ⟨vals,[]⟩) (fun r s'=>∃u as,r=.ok (.ret u)/\ReadsW R cl s'.heap u d0 as/\OldK s1.heap s'.heap/\s'.os=s1.os/\E9 s'.gens) s1:=by
 obtain⟨a,vs,rfl,ga,hvs⟩:∃(a:Addr)(vs:au),vals=[.ref a]/\s1.heap.get? a=aa {cls:=.type "list",data:=.seq vs.toArray}/\Vals (mI ns) vs:=by
  cases hwl with
  |cons x y=>
   cases y;cases x with
   |list ho Mr=>exact⟨_,_,rfl,ho,Kg Mr⟩
 have j8:(mI ns).length<=bz:=by
  have:=PySem.W.length_le_weightAllW (ns.map WData.int);rw[aV]at this;rw[ku];exact cR (cR this hwt) (by decide)
 have naT:∀{T:Addr},s1.heap.get? T=aa (tabObj #[])->T≠a:=fun{T} e z=>by
  rw[z,ga]at e;cases e
 have n1:=naT t1
 have n2:=naT t2
 obtain⟨H0,hH0⟩:∃H0:Hp,H0=fun b=>if b=a/\K.lookup a=ab then aa (.Vl {cls:=.type "list",data:=.seq vs.toArray} (.lst (mI ns)))else ab:=⟨_,rfl⟩
 have is1:∀b u,H0 b=aa u->(b=a/\K.lookup a=ab)/\u=.Vl {cls:=.type "list",data:=.seq vs.toArray} (.lst (mI ns)):=fun b u q=>by
  rw[hH0]at q;dsimp only at q;by_cases z:b=a/\K.lookup a=ab
  ·rw[da z]at q;exact⟨z,(bT q).symm⟩
  rw[cQ z]at q;cases q
 have a1:H0 T1=ab:=by
  rw[hH0];exact cQ fun z=>n1 z.1
 have a2:H0 T2=ab:=by
  rw[hH0];exact cQ fun z=>n2 z.1
 have is0:∀b u,H0 b=aa u->K.lookup b=ab/\(∃o x,u=.Vl o x)/\∃c vs,s1.heap.get? b=aa {cls:=c,data:=.seq vs}:=fun b u q=>by
  obtain⟨⟨rfl,e⟩,rfl⟩:=is1 b u q;exact⟨e,⟨_,_,rfl⟩,_,_,ga⟩
 have ajF:yq P w H0 s1.heap:=fun b u q=>by
  obtain⟨⟨rfl,e⟩,rfl⟩:=is1 b u q;exact⟨ga,j8,vs,_,hvs,ga⟩
 have hS:dw K H0 a (mI ns):=by
  cases hk:K.lookup a with
  |none=>exact .inl (.inr ⟨_,by rw[hH0];exact da ⟨rfl,hk⟩⟩)
  |some o=>
   have e2:=KX a o hk;rw[ga]at e2;obtain rfl:=bT e2;refine .inr ⟨_,vs.toArray,_,hk,rfl,rfl,rfl,?_,by simpa using hvs⟩;have:=hvs.length;rw[b7,<-this];exact j8
 generalize hH:(fun b=>if b=T1\/b=T2 then aa (.F4 #[])else H0 b:Hp)=H
 have hT:∀{b:Addr},b=T1\/b=T2->H b=aa (.F4 #[]):=fun{b} z=>by rw[<-hH];exact da z
 have hN:∀{b:Addr},¬(b=T1\/b=T2)->H b=H0 b:=fun{b} z=>by rw[<-hH];exact cQ z
 have h00:∀{b:Addr},b=T1\/b=T2->H0 b=ab:=fun{b} z=>by
  rcases z with z|z
  ·rw[z];exact a1
  rw[z];exact a2
 have gT:∀{b:Addr},b=T1\/b=T2->s1.heap.get? b=aa (tabObj #[]):=fun{b} z=>by
  rcases z with z|z
  ·rw[z];exact t1
  rw[z];exact t2
 have sm:bH H0 H:=fun b o e=>by
  rw[hN fun z=>by rw[h00 z]at e;cases e];exact e
 have gx:yq P w H s1.heap:=fun b u q=>by
  by_cases z:b=T1\/b=T2
  ·rw[hT z]at q;cases q;exact gT z
  rw[hN z]at q;exact(ajF b u q).tM (fun _ _ _ e=>e) (fun c e=>sm _ _ e) fun c xs e=>sm _ _ e
 have hK:∀b u,H b=aa u->K.lookup b=ab:=fun b u q=>by
  by_cases z:b=T1\/b=T2
  ·rcases z with z|z
   ·rw[z];exact k1
   rw[z];exact k2
  rw[hN z]at q;exact(is0 b u q).1
 have no:∀{b:Addr}{o:Obj},s1.heap.get? b=aa o->(∀ps,o.data≠ .fields ps)->(∀vs n,o.data≠ .seq vs n)->H b=ab:=fun{b o} e d1 d2=>by
  by_cases z:b=T1\/b=T2
  ·rw[gT z]at e;cases e;exact(d1 _ rfl).elim
  rw[hN z];cases q:H0 b with
  |none=>rfl
  |some u=>
   obtain⟨_,_,c,vs,e2⟩:=is0 b u q;rw[e2]at e;cases e;exact(d2 _ _ rfl).elim
 have Nk:∀{b:Addr}{o:Obj},s1.heap.get? b=aa o->H b=ab->(JL s1.heap H).get? b=aa o:=fun e n=>Yb e n
 have nsK:∀{b:Addr}{m:aj},s1.heap.Ns b m->(JL s1.heap H).Ns b m:=fun{b m}⟨o,es,ep,e,d,r⟩=>⟨o,es,ep,Nk e (no e (fun ps z=>by rw[d]at z;cases z) fun vs n z=>by rw[d]at z;cases z),d,r⟩
 have nK:∀b o,K.lookup b=aa o->H b=ab:=fun b o e=>by
  cases q:H b with
  |none=>rfl
  |some u=>
   rw[hK b u q]at e;cases e
 have hKb:K.In (JL s1.heap H):=fun b o e=>Nk (KX b o e) (nK b o e)
 have hM:Mod K mg (JL s1.heap H):=⟨hKb,nsK hns,⟨mb,nsK hb,hbb⟩,let⟨mc,h1,h2⟩:=ajR;⟨mc,nsK h1,h2⟩⟩
 have hBm:Nw mg (JL s1.heap H):=by
  obtain⟨bm,ob,b1,b2,b3,b4,b5,b6⟩:=hm;exact⟨bm,ob,b1,b2,Nk b3 (no b3 (fun ps z=>by rw[b6]at z;cases z) fun vs n z=>by rw[b6]at z;cases z),b4,b5,b6⟩
 have e0:Qc P w K mg (JL s1.heap H) callerA [] s1 H:=⟨rfl,hM,fun b o e=>aaj e,k4 (Vc _ _),trivial,fun b hb=>absurd (show b∈([]:ag)from hb) (by simp),gx,.of_eq hg⟩
 have VW:yI K T1 T2 [.ref a] H (fun v H'=>∃p,v=.ref p/\H' p=aa (.lst (mI (jZ ns)))) fun _ _ _=>False:=
  ⟨_,ns,rfl,sm.seq hS,⟨⟨_,hT (.inl rfl),trivial,.inl rfl⟩,⟨_,hT (.inr rfl),trivial,.inl rfl⟩⟩,ask,fun H' p hp=>⟨p,rfl,hp⟩⟩
 refine iU ((F _ hKb (nsK hns) hBm).run callerA [] s1 H ⟨[.ref a],[]⟩ [.ref a] [.ref a] _ _ hr e0 (agW s1 _ rfl) (.cons rfl .nil) VW) fun r s' x=>?_
 cases r with
 |error e=>exact fB x
 |ok fl=>
  cases fl with
  |next=>exact fB x
  |brk=>exact fB x
  |cont=>exact fB x
  |ret u=>
   obtain⟨v,H',os,bare,un,ad3,r',q⟩:=x
   have kept:∀b o,¬(b=T1\/b=T2)->s1.heap.get? b=aa o->s'.heap.get? b=aa o:=fun b o nz e=>by
    cases q2:H b with
    |none=>exact un.keep b o e q2 (by intro z;exact absurd (show b∈([]:ag)from z) (by simp)) (by simp)
    |some u2=>
     have q3:=q2;rw[hN nz]at q3;obtain⟨_,⟨ob,u3,rfl⟩,_⟩:=is0 b u2 q3;have z2:=un.Iu b ob _ q2;obtain⟨e1,_⟩:=gx b _ q2;obtain⟨e2,_⟩:=ad3 b _ z2;rw[e]at e1;cases e1;exact e2
   obtain⟨p,rfl,hp⟩:=q
   obtain rfl:u=cu p:=r'
   obtain⟨_,its,n,hv,gp⟩:=ad3 p _ hp
   obtain⟨as,hrd⟩:=Hm (R:=R) (cl:=cl) (h:=s'.heap) hv
   have hrd:∃as,ReadsW R cl s'.heap (.ref p) d0 as:=by
    rw[hd0];exact⟨_,ReadsW.list gp rfl rfl hrd⟩
   obtain⟨as,hrd⟩:=hrd
   have tb:∀b,b=T1\/b=T2->∃more:Array aX,s'.heap.get? b=aa {cls:=.none,data:=.fields (#[]++more)}:=fun b z=>by
    obtain⟨more,e⟩:=un.GJ b _ (hT z);exact⟨more,ad3 b _ e⟩
   refine⟨_,as,rfl,hrd,⟨fun b o e=>?_,fun b o e=>?_⟩,os,bare⟩
   ·by_cases z:b=T1\/b=T2
    ·have z2:=z
     obtain⟨more,e2⟩:=tb b z
     rw[gT z]at e
     cases e
     refine .inr (.inl ⟨?_,rfl,#[],more,rfl,e2⟩)
     rcases z2 with z|z
     ·rw[z];exact c1
     rw[z];exact c2
    exact .inl (kept b o z e)
   by_cases z:b=T1\/b=T2
   ·obtain⟨more,e2⟩:=tb b z
    exact⟨_,e2⟩
   exact⟨o,kept b o z e⟩
end SR
end
section
namespace SR
open PySem PySem.Spec PyProof.Rows L2 XL sP
open PySem.W (Frag nsIn findIn isFn keepIn codeIn makesIn codeHdIn tabIn subIn)
def gA(K:Frag)(x:Str):Addr:=match nsIn K cV x with
 |some (aa (.ref a))=>a
 |_=>0
def mA(K:Frag)(C:Addr)(m:Str):Addr:=match findIn K (.ref C) m with
 |some (aa (.ref a))=>a
 |_=>0
def fnAt(K:Frag)(f:Addr):Option bC:=match K.lookup f with
 |some ⟨_,_,.func fd,_⟩=>aa fd
 |_=>ab
abbrev aeO:=Str×Str×vk×FuncBody×kG×Addr×ai×aX×Addr
def ag3(fd:bC):aeO:=(fd.name,fd.qualname,fd.params,fd.body,fd.scope,fd.globals,fd.closure,fd.defaults,fd.builtins)
abbrev rowOf(x q:Str)(st:Stmt):aeO:=(x,q,mJ st,.stmts (jY st),bA st,cV,[],.none,AZ)
def ahe(K:Frag)(f:Addr)(q:Str):Bool:=match fnAt K f with
 |some fd=>codeIn K fd.code q&&keepIn K (.ref f)
 |none=>af
structure FnK(K:Frag)(f:Addr)(x q:Str)(st:Stmt):Prop where
 e1:(fnAt K f).map ag3=aa (rowOf x q st)
 e2:ahe K f q=ae
theorem FnK.ok{K:Frag}{f:Addr}{x q:Str}{st:Stmt}(h:FnK K f x q st):∃fd,fnAt K f=aa fd/\iG K x q st f fd:=by
 obtain⟨e1,e2⟩:=h;unfold ahe at e2;cases hf:fnAt K f with
 |none=>rw[hf]at e2;cases e2
 |some fd=>
  rw[hf]at e1 e2;refine⟨fd,rfl,?_⟩;rw[cM]at e2;unfold fnAt at hf;split at hf
  ·rename_i oc od fd' sl lk;cases hf;obtain⟨n,qn,ps,bd,sc,gl,cl,df,kd,dc,pm,an,cd,ct,bl⟩:=fd;have e1:aa ((n,qn,ps,bd,sc,gl,cl,df,bl):aeO)=aa (rowOf x q st):=e1;injection e1 with e1
   cases e1;exact aep lk e2.1 e2.2
  cases hf
structure gP(K:Frag)(x:Str)(st:Stmt):Prop where
 e0:nsIn K cV x=aa (aa (.ref (gA K x)))
 f:FnK K (gA K x) x x st
structure lH(K:Frag)(C:Addr)(m q:Str)(st:Stmt):Prop where
 e0:findIn K (.ref C) m=aa (aa (.ref (mA K C m)))
 i:isFn K (.ref (mA K C m))=ae
 f:FnK K (mA K C m) m q st
structure MkK(K:Frag)(x q:Str)(st:Stmt):Prop where
 e0:nsIn K cV x=aa (aa (.ref (gA K x)))
 mks:makesIn K (gA K x)=ae
 kp:keepIn K (.ref (gA K x))=ae
 i:lH K (gA K x) "__init__" q st
structure FI(K:Frag)(x q:Str)(st:Stmt):Prop where
 e0:nsIn K cV x=aa (aa (.ref (gA K x)))
 ex:qc K (gA K x) (mA K (gA K x) "__init__")=ae
 nn:findIn K (.ref (gA K x)) "number"=aa ab
 f:FnK K (mA K (gA K x) "__init__") "__init__" q st
section
variable{P:bY}{w:cX}{K:Frag}{mg:aj}{base h:Heap}{CX:Qp}{k:Nat}{ps:ak}{sp:Sp}{x m q:Str}{st:Stmt}{C:Addr}
abbrev Ah(x q:Str)(st:Stmt)(ps:ak):Prop:=∀(kV doc pm:aX)(an:Option Addr)(fz ct:aX)(us:au),us.length=ps.length->oR (gQ x q (mJ st) (jY st) (bA st) .none kV doc pm an fz ct) ⟨us,[]⟩=pure (ps.zip us)
theorem f6{us:au}{n:Nat}(h:us.length=n+1):∃u r,us=u::r/\r.length=n:=by
 cases us with
 |nil=>cases h
 |cons u r=>exact⟨u,r,rfl,Nat.succ.inj h⟩
theorem kC{a0:Str}(h:∀(kV doc pm:aX)(an:Option Addr)(fz ct u0:aX),oR (gQ x q (mJ st) (jY st) (bA st) .none kV doc pm an fz ct) ⟨[u0],[]⟩=pure ([a0].zip [u0])):Ah x q st [a0]:=fun k d p a c t us hl=>by
 obtain⟨u0,r0,rfl,g0⟩:=f6 hl;cases r0 with
 |nil=>exact h k d p a c t u0
 |cons _ _=>cases g0
theorem qf{a0 a1:Str}(h:∀(kV doc pm:aX)(an:Option Addr)(fz ct u0 u1:aX),oR (gQ x q (mJ st) (jY st) (bA st) .none kV doc pm an fz ct) ⟨[u0,u1],[]⟩=pure ([a0,a1].zip [u0,u1])):Ah x q st [a0,a1]:=fun k d p a c t us hl=>by
 obtain⟨u0,r0,rfl,g0⟩:=f6 hl;obtain⟨u1,r1,rfl,g1⟩:=f6 g0;cases r1 with
 |nil=>exact h k d p a c t u0 u1
 |cons _ _=>cases g1
theorem FC{a0 a1 a2:Str}(h:∀(kV doc pm:aX)(an:Option Addr)(fz ct u0 u1 u2:aX),oR (gQ x q (mJ st) (jY st) (bA st) .none kV doc pm an fz ct) ⟨[u0,u1,u2],[]⟩=pure ([a0,a1,a2].zip [u0,u1,u2])):Ah x q st [a0,a1,a2]:=fun k d p a c t us hl=>by
 obtain⟨u0,r0,rfl,g0⟩:=f6 hl;obtain⟨u1,r1,rfl,g1⟩:=f6 g0;obtain⟨u2,r2,rfl,g2⟩:=f6 g1;cases r2 with
 |nil=>exact h k d p a c t u0 u1 u2
 |cons _ _=>cases g2
theorem Sd{a0 a1 a2 a3:Str}(h:∀(kV doc pm:aX)(an:Option Addr)(fz ct u0 u1 u2 u3:aX),oR (gQ x q (mJ st) (jY st) (bA st) .none kV doc pm an fz ct) ⟨[u0,u1,u2,u3],[]⟩=pure ([a0,a1,a2,a3].zip [u0,u1,u2,u3])):Ah x q st [a0,a1,a2,a3]:=fun k d p a c t us hl=>by
 obtain⟨u0,r0,rfl,g0⟩:=f6 hl;obtain⟨u1,r1,rfl,g1⟩:=f6 g0;obtain⟨u2,r2,rfl,g2⟩:=f6 g1;obtain⟨u3,r3,rfl,g3⟩:=f6 g2;cases r3 with
 |nil=>exact h k d p a c t u0 u1 u2 u3
 |cons _ _=>cases g3
theorem Ni{a0 a1 a2 a3 a4:Str}(h:∀(kV doc pm:aX)(an:Option Addr)(fz ct u0 u1 u2 u3 u4:aX),oR (gQ x q (mJ st) (jY st) (bA st) .none kV doc pm an fz ct) ⟨[u0,u1,u2,u3,u4],[]⟩=pure ([a0,a1,a2,a3,a4].zip [u0,u1,u2,u3,u4])):Ah x q st [a0,a1,a2,a3,a4]:=fun k d p a c t us hl=>by
 obtain⟨u0,r0,rfl,g0⟩:=f6 hl;obtain⟨u1,r1,rfl,g1⟩:=f6 g0;obtain⟨u2,r2,rfl,g2⟩:=f6 g1;obtain⟨u3,r3,rfl,g3⟩:=f6 g2;obtain⟨u4,r4,rfl,g4⟩:=f6 g3;cases r4 with
 |nil=>exact h k d p a c t u0 u1 u2 u3 u4
 |cons _ _=>cases g4
theorem akx{a0 a1 a2 a3 a4 a5:Str}(h:∀(kV doc pm:aX)(an:Option Addr)(fz ct u0 u1 u2 u3 u4 u5:aX),oR (gQ x q (mJ st) (jY st) (bA st) .none kV doc pm an fz ct) ⟨[u0,u1,u2,u3,u4,u5],[]⟩=pure ([a0,a1,a2,a3,a4,a5].zip [u0,u1,u2,u3,u4,u5])):Ah x q st [a0,a1,a2,a3,a4,a5]:=fun k d p a c t us hl=>by
 obtain⟨u0,r0,rfl,g0⟩:=f6 hl;obtain⟨u1,r1,rfl,g1⟩:=f6 g0;obtain⟨u2,r2,rfl,g2⟩:=f6 g1;obtain⟨u3,r3,rfl,g3⟩:=f6 g2;obtain⟨u4,r4,rfl,g4⟩:=f6 g3;obtain⟨u5,r5,rfl,g5⟩:=f6 g4;cases r5 with
 |nil=>exact h k d p a c t u0 u1 u2 u3 u4 u5
 |cons _ _=>cases g5
variable(P w mg base)in
theorem h7(KX:K.In h)(G:h.Ns cV mg)(D:gP K x st)(hb:Ah x x st ps)(ok:∀fd,iG K x x st (gA K x) fd->fnAt K (gA K x)=aa fd->dy P w K mg base CX k (gA K x) fd ps sp):Fn P w K mg base CX k x ps sp:=by
 obtain⟨fd,e,F⟩:=D.f.ok;exact⟨_,fd,ok fd F e,jL KX G D.e0,F.kp,F.binds hb⟩
variable(P w mg base)in
theorem ui(D:lH K C m q st)(hb:Ah m q st ps)(ok:∀fd,iG K m q st (mA K C m) fd->dy P w K mg base CX k (mA K C m) fd ps sp):Me P w K mg base CX k C m ps sp:=by
 obtain⟨fd,e,F⟩:=D.f.ok;exact⟨_,fd,⟨D.e0,D.i,F.kp⟩,ok fd F,F.binds hb⟩
variable(P w mg base)in
theorem XN(KX:K.In h)(G:h.Ns cV mg)(D:MkK K x q st)(hb:Ah "__init__" q st ps)(ok:∀fd,iG K "__init__" q st (mA K (gA K x) "__init__") fd->dy P w K mg base eM k (mA K (gA K x) "__init__") fd ps sp):Mc P w K mg base k x (gA K x) ps sp:=by
 obtain⟨fd,e,F⟩:=D.i.f.ok;exact⟨_,fd,⟨D.mks,D.i.e0,D.i.i,D.kp⟩,ok fd F,jL KX G D.e0,F.binds hb⟩
variable(P w mg base)in
theorem JI(KX:K.In h)(G:h.Ns cV mg)(D:FI K x q st)(hb:Ah "__init__" q st ps)(ok:∀fd,iG K "__init__" q st (mA K (gA K x) "__init__") fd->dy P w K mg base eM 2 (mA K (gA K x) "__init__") fd ps sp):Ec P w K mg base x (gA K x) ps sp:=by
 obtain⟨fd,e,F⟩:=D.f.ok;exact⟨⟨_,fd,D.ex,ok fd F,jL KX G D.e0,F.binds hb⟩,D.nn⟩
def intAt(K:Frag)(x:Str):Option Int:=match nsIn K cV x with
 |some (aa (.int i _))=>aa i
 |_=>ab
def strAt(K:Frag)(x:Str):Option Str:=match nsIn K cV x with
 |some (aa (.str i _))=>aa i
 |_=>ab
theorem Dd(KX:K.In h)(G:h.Ns cV mg){i:Int}(e:intAt K x=aa i):∃t,mg x=aa (.int i t):=by
 unfold intAt at e;split at e
 ·rename_i t hn;cases e;exact⟨t,jL KX G hn⟩
 cases e
theorem mkS(KX:K.In h)(G:h.Ns cV mg){i:Str}(e:strAt K x=aa i):∃t,mg x=aa (.str i t):=by
 unfold strAt at e;split at e
 ·rename_i t hn;cases e;exact⟨t,jL KX G hn⟩
 cases e
def abB(K:Frag)(a:Addr):Option (List (Option V)):=match K.lookup a with
 |some ⟨.type "tuple",_,.seq its _,_⟩=>if its.size<=bz then aa (its.toList.map aa5)else ab
 |_=>ab
structure VN(K:Frag)(x:Str)(xs:ao):Prop where
 e0:nsIn K cV x=aa (aa (.ref (gA K x)))
 e1:abB K (gA K x)=aa (xs.map aa)
theorem aa4{u:aX}{y:V}(e:aa5 u=aa y):RelV y u:=by
 cases u<;>first|(cases e;rfl)|(cases e;exact⟨_,rfl⟩)|cases e
theorem P7:∀{us:au}{xs:ao},us.map aa5=xs.map aa->Vals xs us
 |[],[],_=>.nil
 |[],_::_,e=>by cases e
 |_::_,[],e=>by cases e
 |u::us,x::xs,e=>by
  injection e with e1 e2
  exact .cons (aa4 e1) (P7 e2)
theorem Zk{xs:ao}(KX:K.In h)(G:h.Ns cV mg)(D:VN K x xs):KT K mg x xs:=by
 refine⟨_,jL KX G D.e0,fun H=>?_⟩;have e:=D.e1;unfold abB at e;split at e
 ·rename_i od its n sl lk;split at e
  ·rename_i hz;injection e with e
   exact .inr ⟨_,its,n,lk,rfl,rfl,hz,P7 e⟩
  cases e
 cases e
def ac1(K:Frag)(a:Addr):Option (Int×Int×Str×Int×Int×Str):=match K.lookup a with
 |some ⟨.type "dict",ab,.dict es _,sl⟩=>if sl.toList.isEmpty=ae then(match es.toList with
  |[⟨h1,.int i _,.str x _⟩,⟨h2,.int j _,.str y _⟩]=>aa (h1,i,x,h2,j,y)
  |_=>ab)else ab
 |_=>ab
theorem afJ{a:Addr}(ns:(a==jK)=af)(e:ac1 K a=aa ((59:Int),(59:Int),(";":Str),(61:Int),(61:Int),("=":Str))):KM K a Kw:=by
 unfold ac1 at e;split at e
 ·rename_i es n sl lk;split at e
  ·rename_i hs;split at e
   ·rename_i h1 i t1 x t2 h2 j t3 y t4 he;cases e;have he:es= #[⟨59,.int 59 t1,.str ";" t2⟩,⟨61,.int 61 t3,.str "=" t4⟩]:=Kf he;have hs:sl= #[]:=Kf (List.isEmpty_iff.mp hs);subst he hs;exact adG (by decide+kernel) (by decide+kernel) (by decide) ns lk
   cases e
  cases e
 cases e
def QN(K:Frag)(x:Str):Addr:=match tabIn K x with
 |some (_,T)=>T
 |none=>0
def aeB(K:Frag)(x:Str):Addr:=match tabIn K x with
 |some (c,_)=>c
 |none=>0
structure aa6(K:Frag)(x:Str):Prop where
 e0:tabIn K x=aa (aeB K x,QN K x)
 e1:codeHdIn K (aeB K x) (QN K x)=ae
 e2:K.lookup (QN K x)=ab
theorem aa6.code{fd:bC}(D:aa6 K x)(e:fnAt K (gA K x)=aa fd):fd.code=.ref (aeB K x):=by
 have e0:=D.e0;unfold tabIn at e0;unfold fnAt gA at e;split at e0
 ·rename_i f hf;rw[hf]at e;split at e0
  ·rename_i fd' _ hl;rw[hl]at e;cases e;split at e0
   ·rename_i c hc;split at e0
    ·split at e0
     ·rw[hc];injection e0 with e0
      rw[(Prod.mk.inj e0).1]
     cases e0
    cases e0
   cases e0
  cases e0
 cases e0
end
theorem aer{P:bY}{w:cX}{K:Frag}{mg:aj}{base:Heap}{CX:Qp}{k:Nat}{x:Str}{ps:ak}{sp sp':Sp}(F:Fn P w K mg base CX k x ps sp)(h:∀vs H Q E,sp' vs H Q E->sp vs H Q E):Fn P w K mg base CX k x ps sp':=by
 obtain⟨f,fd,a,b⟩:=F.ex;exact⟨f,fd,a.imp h,b⟩
structure All(K:Frag):Prop where
 uY:FI K "TooLong" "TooLong.__init__" rF
 tE:FI K "NoProgram" "NoProgram.__init__" pD
 tu:FI K "WrongPlan" "WrongPlan.__init__" pj
 pP:FI K "MissingData" "MissingData.__init__" mZ
 qe:FI K "WrongForm" "WrongForm.__init__" px
 qd:FI K "WrongName" "WrongName.__init__" pq
 RT:gP K "is_digit" Au
 MQ:gP K "remark_end" vw
 PM:gP K "is_letter" xC
 MU:gP K "number_end" vz
 RS:gP K "word_end" As
 JU:gP K "skip_blanks" tO
 ID:gP K "number_value" rD
 PL:gP K "word_text" xB
 Gh:MkK K "Token" "Token.__init__" vC
 MS:gP K "read_token" vx
 JW:gP K "read_tokens" tQ
 Rx:lH K (gA K "Reader") "sees" "Reader.sees" uc
 Ib:MkK K "Reader" "Reader.__init__" ud
 HV:lH K (gA K "Reader") "at_end" "Reader.at_end" qz
 DZ:lH K (gA K "Reader") "take_if" "Reader.take_if" pC
 xT:lH K (gA K "Reader") "take_word" "Reader.take_word" mV
 xU:lH K (gA K "Reader") "take_sign" "Reader.take_sign" mX
 xV:lH K (gA K "Reader") "take_name" "Reader.take_name" mY
 uj:lH K (gA K "Reader") "take_length" "Reader.take_length" lB
 yg:gP K "read_operand_names" lq
 x8:MkK K "Statement" "Statement.__init__" pA
 Ef:gP K "read_statement" ph
 vU:gP K "possible_first_words" kr
 Cv:gP K "read_statements" n0
 FA:gP K "find_operands" qy
 D4:MkK K "Program" "Program.__init__" rJ
 IC:gP K "read_program" rC
 Fz:gP K "input_numbers" qx
 Cy:gP K "plain_statement" n6
 MT:gP K "plain_text" vy
 J2:gP K "first_times" tW
 RV:gP K "end_time" Ax
 MV:gP K "last_times" vA
 Fx:gP K "may_take_over" qv
 J1:gP K "live_length" tV
 zB:gP K "length_taken_over" l3
 Cz:gP K "needed_at_least" n8
 IE:gP K "look_at_plan" rE
 AQ:gP K "both_have_places" mU
 aey:gP K "meet" Q2
 VA:gP K "overlap" DD
 uZ:gP K "shares_by_taking_over" j3
 aaQ:gP K "clash" LJ
 J3:gP K "first_clash" tX
 Vz:gP K "room_of" DC
 AL:gP K "possible_offsets" mQ
 AO:gP K "clashes_with_any" mT
 aaO:gP K "place" LI
 JX:gP K "placed_plan" tR
 sJ:gP K "plan_one_behind_another" jx
 Fw:gP K "plan_in_order" qu
 yh:gP K "plan_longest_first" lr
 Vx:gP K "sits_on" DB
 RU:gP K "group_of" Av
 CG:gP K "groups_in_order" n9
 Fy:gP K "is_in_the_way" qw
 JY:gP K "place_group" tS
 JZ:gP K "packed_plan" tT
 MX:gP K "is_element" vB
 AM:gP K "place_in_operand" mR
 Ee:gP K "worked_element" pf
 MO:gP K "work_array" vt
 MK:gP K "write_data" vq
 AN:gP K "memory_after_run" mS
 JV:gP K "run_by_plan" tP
 pQ:FI K "BeyondLimit" "BeyondLimit.__init__" m3
 ow:FI K "ClashingPlan" "ClashingPlan.__init__" l4
 pR:FI K "AbsentInput" "AbsentInput.__init__" m5
 tD:FI K "WrongData" "WrongData.__init__" pz
 Ml:MkK K "Rooms" "Rooms.__init__" vJ
 eY:lH K (gA K "Rooms") "held_program" "Rooms.held_program" lA
 RB:lH K (gA K "Rooms") "need" "Rooms.need" vG
 Ry:lH K (gA K "Rooms") "room" "Rooms.room" vD
 Mg:lH K (gA K "Rooms") "check" "Rooms.check" ua
 J0:gP K "live_ranges" tU
 RG:lH K (gA K "Rooms") "live" "Rooms.live" vI
 mG:lH K (gA K "Rooms") "look_for_data" "Rooms.look_for_data" kR
 XQ:lH K (gA K "Rooms") "run" "Rooms.run" xD
 Mi:lH K (gA K "Rooms") "apart" "Rooms.apart" ub
 Rz:lH K (gA K "Rooms") "plan" "Rooms.plan" vE
 RA:lH K (gA K "Rooms") "pack" "Rooms.pack" vF
 RD:lH K (gA K "Rooms") "load" "Rooms.load" vH
 Mf:lH K (gA K "Rooms") "plain" "Rooms.plain" t9
 AF:lH K (gA K "Rooms") "set_data" "Rooms.set_data" pB
 Mb:lH K (gA K "Rooms") "where" "Rooms.where" tZ
 PK:gP K "work_call" xA
 J4:gP K "answer_call" tY
 K7:gP K "answers" uJ
 xQ:nsIn K cV "Exception"=aa ab
 gZ:nsIn K cV "enumerate"=aa ab
 jP:nsIn K cV "len"=aa ab
 DX:nsIn K cV "list"=aa ab
 O9:nsIn K cV "max"=aa ab
 XJ:nsIn K cV "ord"=aa ab
 qS:nsIn K cV "range"=aa ab
 XI:nsIn K cV "set"=aa ab
 xP:nsIn K cV "sorted"=aa ab
 XH:nsIn K cV "str"=aa ab
 XG:nsIn K cV "zip"=aa ab
 Ng:intAt K "APART"=aa 11
 Nf:intAt K "CHECK"=aa 5
 CK:strAt K "DIGITS"=aa "0123456789"
 AS:intAt K "IN_ORDER"=aa 1
 rY:intAt K "LENGTH_LIMIT"=aa 64
 yZ:strAt K "LETTERS"=aa "abcdefghijklmnopqrstuvwxyz"
 yl:intAt K "LINE_FEED"=aa 10
 Sa:intAt K "LIVE"=aa 3
 R9:intAt K "LOAD"=aa 0
 qE:intAt K "LONGEST_FIRST"=aa 2
 yk:intAt K "MAP_START"=aa 7
 yY:intAt K "MODULUS"=aa 1000003
 vY:intAt K "NAME_LIMIT"=aa 16
 R8:intAt K "NEED"=aa 4
 rX:intAt K "OFFSET_LIMIT"=aa 10000
 lG:intAt K "ONE_BEHIND_ANOTHER"=aa 0
 qD:intAt K "OPERAND_LIMIT"=aa 4
 R7:intAt K "PACK"=aa 8
 Nd:intAt K "PLAIN"=aa 2
 R6:intAt K "PLAN"=aa 7
 II:intAt K "REMARK"=aa 35
 R5:intAt K "ROOM"=aa 6
 YD:intAt K "RUN"=aa 10
 AR:intAt K "SET_DATA"=aa 9
 yX:intAt K "SMALL_A"=aa 97
 oy:intAt K "STATEMENT_LIMIT"=aa 24
 vX:intAt K "TEXT_LIMIT"=aa 4096
 vW:intAt K "TURN_START"=aa 11
 Nc:intAt K "WHERE"=aa 1
 Ej:intAt K "ZERO"=aa 48
 GK:VN K "BLANKS" [.int 32,.int 9,.int 10,.int 13]
 lY:VN K "CALLS_WITH_NUMBER" nV
 pd:VN K "CALLS_WITH_ROW" rV
 vm:VN K "KEPT_WORDS" x6
 QO:VN K "WAYS" (fQ [Bo,oW])
 Yz:Gq K (gA K "Token")
 Nm:findIn K (.ref (gA K "Token")) "kind"=aa ab
 J5:findIn K (.ref (gA K "Token")) "value"=aa ab
 En:findIn K (.ref (gA K "Token")) "position"=aa ab
 P8:findIn K (.ref (gA K "Token")) "end"=aa ab
 VD:Gq K (gA K "Reader")
 FF:findIn K (.ref (gA K "Reader")) "tokens"=aa ab
 IK:findIn K (.ref (gA K "Reader")) "place"=aa ab
 M3:Gq K (gA K "Statement")
 Eo:findIn K (.ref (gA K "Statement")) "word"=aa ab
 Ep:findIn K (.ref (gA K "Statement")) "name"=aa ab
 AU:findIn K (.ref (gA K "Statement")) "length"=aa ab
 FD:findIn K (.ref (gA K "Statement")) "way"=aa ab
 sO:findIn K (.ref (gA K "Statement")) "operand_names"=aa ab
 R1:Gq K (gA K "Program")
 yn:findIn K (.ref (gA K "Program")) "statements"=aa ab
 AV:findIn K (.ref (gA K "Program")) "operands"=aa ab
 YA:Gq K (gA K "Rooms")
 FE:findIn K (.ref (gA K "Rooms")) "program"=aa ab
 Nn:findIn K (.ref (gA K "Rooms")) "data"=aa ab
 aW:findIn K (.ref (gA K "WrongForm")) "position"=aa ab
 aN:findIn K (.ref (gA K "WrongName")) "statement_number"=aa ab
 Eb:FI K "Refusal" "Refusal.__init__" rG
 rd:FQ K (gA K "Refusal") (.type "type")=ae
 spc:CV K (.ref (gA K "Refusal")) "__getattribute__"=aa (aa (.builtin "type.__getattribute__"))
 fc:wH K (.ref (gA K "Refusal")) (.type "type") "__init__"=aa (.val (.ref (mA K (gA K "Refusal") "__init__")))
 UG:subIn K (.ref (gA K "TooLong")) (.ref (gA K "Refusal"))=aa ae
 OE:subIn K (.ref (gA K "WrongForm")) (.ref (gA K "Refusal"))=aa ae
 OD:subIn K (.ref (gA K "WrongName")) (.ref (gA K "Refusal"))=aa ae
 OG:subIn K (.ref (gA K "NoProgram")) (.ref (gA K "Refusal"))=aa ae
 OC:subIn K (.ref (gA K "WrongPlan")) (.ref (gA K "Refusal"))=aa ae
 Jv:subIn K (.ref (gA K "BeyondLimit")) (.ref (gA K "Refusal"))=aa ae
 Hk:subIn K (.ref (gA K "ClashingPlan")) (.ref (gA K "Refusal"))=aa ae
 Jw:subIn K (.ref (gA K "AbsentInput")) (.ref (gA K "Refusal"))=aa ae
 OF:subIn K (.ref (gA K "WrongData")) (.ref (gA K "Refusal"))=aa ae
 Ju:subIn K (.ref (gA K "MissingData")) (.ref (gA K "Refusal"))=aa ae
 aiL:subIn K (.ref (gA K "TooLong")) (.ref (gA K "TooLong"))=aa ae
 aiG:subIn K (.ref (gA K "WrongForm")) (.ref (gA K "TooLong"))=aa af
 aiF:subIn K (.ref (gA K "WrongForm")) (.ref (gA K "WrongForm"))=aa ae
 aiJ:subIn K (.ref (gA K "WrongName")) (.ref (gA K "TooLong"))=aa af
 aiH:subIn K (.ref (gA K "WrongName")) (.ref (gA K "WrongForm"))=aa af
 aiI:subIn K (.ref (gA K "WrongName")) (.ref (gA K "WrongName"))=aa ae
 ZL:aa6 K "plan_longest_first"
 ZM:aa6 K "groups_in_order"
 neT:(QN K "plan_longest_first"==QN K "groups_in_order")=af
 neP:(gA K "Rooms"==gA K "Program")=af
 neS:(gA K "Rooms"==gA K "Statement")=af
 sg0:nsIn K cV "SIGNS"=aa (aa (.ref (gA K "SIGNS")))
 sg1:(gA K "SIGNS"==jK)=af
 sg2:ac1 K (gA K "SIGNS")=aa ((59:Int),(59:Int),(";":Str),(61:Int),(61:Int),("=":Str))
theorem aeH{P:bY}{w:cX}{K:Frag}{mg:aj}{h:Heap}(A:All K)(KX:K.In h)(G:h.Ns cV mg):
 ∃fd:bC,(∀(s:a9)(us:au),us.length=1->BindsTo s fd ⟨us,[]⟩ ((["calls"]:ak).zip us))/\∀base:Heap,Nw mg base->dy P w K mg base eM 13 (gA K "answers") fd ["calls"] (yI K (QN K "plan_longest_first") (QN K "groups_in_order")):=by
 obtain⟨fd,e,F⟩:=A.K7.f.ok
 refine⟨fd,fun s us hu=>?_,fun base B=>?_⟩
 ·obtain⟨oc,od,kV,doc,pm,an,fz,ct,Xs,rfl,lk,NS⟩:=F.ex
  match us,hu with|[_],_=>exact .of_eq rfl
 have xQ:=eW KX G A.xQ
 have gZ:=eW KX G A.gZ
 have jP:=eW KX G A.jP
 have DX:=eW KX G A.DX
 have O9:=eW KX G A.O9
 have XJ:=eW KX G A.XJ
 have qS:=eW KX G A.qS
 have XI:=eW KX G A.XI
 have xP:=eW KX G A.xP
 have XH:=eW KX G A.XH
 have XG:=eW KX G A.XG
 have Ng:=Dd KX G A.Ng
 have Nf:=Dd KX G A.Nf
 have CK:=mkS KX G A.CK
 have AS:=Dd KX G A.AS
 have rY:=Dd KX G A.rY
 have yZ:=mkS KX G A.yZ
 have yl:=Dd KX G A.yl
 have Sa:=Dd KX G A.Sa
 have R9:=Dd KX G A.R9
 have qE:=Dd KX G A.qE
 have yk:=Dd KX G A.yk
 have yY:=Dd KX G A.yY
 have vY:=Dd KX G A.vY
 have R8:=Dd KX G A.R8
 have rX:=Dd KX G A.rX
 have lG:=Dd KX G A.lG
 have qD:=Dd KX G A.qD
 have R7:=Dd KX G A.R7
 have Nd:=Dd KX G A.Nd
 have R6:=Dd KX G A.R6
 have II:=Dd KX G A.II
 have R5:=Dd KX G A.R5
 have YD:=Dd KX G A.YD
 have AR:=Dd KX G A.AR
 have yX:=Dd KX G A.yX
 have oy:=Dd KX G A.oy
 have vX:=Dd KX G A.vX
 have vW:=Dd KX G A.vW
 have Nc:=Dd KX G A.Nc
 have Ej:=Dd KX G A.Ej
 have GK:=Zk KX G A.GK
 have lY:=Zk KX G A.lY
 have pd:=Zk KX G A.pd
 have vm:=Zk KX G A.vm
 have QO:=Zk KX G A.QO
 have TC:Sg K (gA K "Token"):=⟨A.Yz,A.Nm,A.J5,A.En,A.P8⟩
 have RC:RdC K (gA K "Reader"):=⟨A.VD,A.FF,A.IK⟩
 have S:FG K (gA K "Statement"):=⟨A.M3,A.Eo,A.Ep,A.AU,A.FD,A.sO⟩
 have Gp:FH K (gA K "Program"):=⟨A.R1,A.yn,A.AV⟩
 have RM:Qn K (gA K "Rooms"):=⟨A.YA,A.FE,A.Nn⟩
 have gF:=jL KX G A.Eb.e0
 have neT:=ne_of_beq_false A.neT
 have neP:=ne_of_beq_false A.neP
 have neS:=ne_of_beq_false A.neS
 obtain⟨Gi,eR,FR⟩:=A.Eb.f.ok
 have Zr:RF P w K mg base (gA K "Refusal") _ Gi:=⟨gF,A.rd,A.spc,A.fc,FR.kp,FR.binds (qf fun _ _ _ _ _ _ _ _=>rfl),Fo FR xQ⟩
 have uY:=JI P w mg base KX G A.uY (kC fun _ _ _ _ _ _ _=>rfl) fun fd F=>Fm F Zr
 have tE:=JI P w mg base KX G A.tE (kC fun _ _ _ _ _ _ _=>rfl) fun fd F=>BO F Zr
 have tu:=JI P w mg base KX G A.tu (kC fun _ _ _ _ _ _ _=>rfl) fun fd F=>BJ F Zr
 have pP:=JI P w mg base KX G A.pP (kC fun _ _ _ _ _ _ _=>rfl) fun fd F=>zr F Zr
 have qe:=JI P w mg base KX G A.qe (qf fun _ _ _ _ _ _ _ _=>rfl) fun fd F=>BL F Zr
 have qd:=JI P w mg base KX G A.qd (qf fun _ _ _ _ _ _ _ _=>rfl) fun fd F=>BK F Zr
 have vT:=h7 P w mg base KX G A.RT (kC fun _ _ _ _ _ _ _=>rfl) fun fd F e=>O3 F Ej CK jP
 have My:=h7 P w mg base KX G A.MQ (qf fun _ _ _ _ _ _ _ _=>rfl) fun fd F e=>JA F yl jP
 have EY:=h7 P w mg base KX G A.PM (kC fun _ _ _ _ _ _ _=>rfl) fun fd F e=>L6 F yX yZ jP
 have MF:=h7 P w mg base KX G A.MU (qf fun _ _ _ _ _ _ _ _=>rfl) fun fd F e=>JD F jP vT
 have RO:=h7 P w mg base KX G A.RS (qf fun _ _ _ _ _ _ _ _=>rfl) fun fd F e=>OW F jP vT EY
 have JO:=h7 P w mg base KX G A.JU (qf fun _ _ _ _ _ _ _ _=>rfl) fun fd F e=>HD F jP GK II My
 have Iz:=h7 P w mg base KX G A.ID (kC fun _ _ _ _ _ _ _=>rfl) fun fd F e=>Fh F Ej
 have Py:=h7 P w mg base KX G A.PL (kC fun _ _ _ _ _ _ _=>rfl) fun fd F e=>LY F Ej yX CK yZ vT
 have Gh:=XN P w mg base KX G A.Gh (Ni fun _ _ _ _ _ _ _ _ _ _ _=>rfl) fun fd F=>JG F TC
 have TE:ahk P w K mg base _:=⟨vT,EY,RO,MF,Py,Iz,Gh,⟨_,jL KX G A.sg0,afJ A.sg1 A.sg2⟩,Ej⟩
 have Mz:=h7 P w mg base KX G A.MS (qf fun _ _ _ _ _ _ _ _=>rfl) fun fd F e=>JB F TE
 have JP:=h7 P w mg base KX G A.JW (kC fun _ _ _ _ _ _ _=>rfl) fun fd F e=>HF F jP TC Gh JO Mz
 have Rx:=ui P w mg base A.Rx (FC fun _ _ _ _ _ _ _ _ _=>rfl) fun fd F=>aah F TC RC
 have Ib:=XN P w mg base KX G A.Ib (qf fun _ _ _ _ _ _ _ _=>rfl) fun fd F=>HN F RC
 have HV:=ui P w mg base A.HV (kC fun _ _ _ _ _ _ _=>rfl) fun fd F=>UX F TC RC
 have DZ:=ui P w mg base A.DZ (qf fun _ _ _ _ _ _ _ _=>rfl) fun fd F=>Rg F TC RC qe A.aW
 have RE:RdE P w K mg base _ _ _:=⟨TC,RC,Rx,DZ⟩
 have xT:=ui P w mg base A.xT (qf fun _ _ _ _ _ _ _ _=>rfl) fun fd F=>LZ F RE
 have xU:=ui P w mg base A.xU (qf fun _ _ _ _ _ _ _ _=>rfl) fun fd F=>L4 F RE
 have xV:=ui P w mg base A.xV (kC fun _ _ _ _ _ _ _=>rfl) fun fd F=>L5 F RE vm vY jP
 have uj:=ui P w mg base A.uj (kC fun _ _ _ _ _ _ _=>rfl) fun fd F=>HC F RE rY
 have RMm:RdM P w K mg base _ _ _:=⟨RE,xT,xU,xV,uj⟩
 have yd:=h7 P w mg base KX G A.yg (kC fun _ _ _ _ _ _ _=>rfl) fun fd F e=>wM F RMm qD jP
 have x8:=XN P w mg base KX G A.x8 (akx fun _ _ _ _ _ _ _ _ _ _ _ _=>rfl) fun fd F=>BN F S
 have D9:=h7 P w mg base KX G A.Ef (qf fun _ _ _ _ _ _ _ _=>rfl) fun fd F e=>BI F RMm QO yd x8
 have vS:=h7 P w mg base KX G A.vU (kC fun _ _ _ _ _ _ _=>rfl) fun fd F e=>uM F S oy jP
 have B7:=h7 P w mg base KX G A.Cv (kC fun _ _ _ _ _ _ _=>rfl) fun fd F e=>Az F RC Ib JP HV D9 vS
 have Fv:=h7 P w mg base KX G A.FA (kC fun _ _ _ _ _ _ _=>rfl) fun fd F e=>DU F S qd A.aN jP gZ
 have D4:=XN P w mg base KX G A.D4 (FC fun _ _ _ _ _ _ _ _ _=>rfl) fun fd F=>Fp F Gp
 have yc:=h7 P w mg base KX G A.IC (kC fun _ _ _ _ _ _ _=>rfl) fun fd F e=>Fg F jP vX uY B7 Fv D4
 have mH:=h7 P w mg base KX G A.Fz (kC fun _ _ _ _ _ _ _=>rfl) fun fd F e=>DT F S Gp gZ
 have B8:=h7 P w mg base KX G A.Cy (kC fun _ _ _ _ _ _ _=>rfl) fun fd F e=>AA F S XH
 have ME:=h7 P w mg base KX G A.MT (kC fun _ _ _ _ _ _ _=>rfl) fun fd F e=>JC F S Gp B8
 have Ad:=h7 P w mg base KX G A.J2 (kC fun _ _ _ _ _ _ _=>rfl) fun fd F e=>HK F S Gp
 have IA:=h7 P w mg base KX G A.RV (kC fun _ _ _ _ _ _ _=>rfl) fun fd F e=>O5 F S Gp jP
 have MG:=h7 P w mg base KX G A.MV (kC fun _ _ _ _ _ _ _=>rfl) fun fd F e=>JE F S Gp gZ DX Ad IA
 have yf:=h7 P w mg base KX G A.J0 (kC fun _ _ _ _ _ _ _=>rfl) fun fd F e=>Fj F XG DX Ad MG
 have pO:=aer yf (U4 _ _)
 have wB:=h7 P w mg base KX G A.Fx (Sd fun _ _ _ _ _ _ _ _ _ _=>rfl) fun fd F e=>DQ F S Gp
 have JS:=h7 P w mg base KX G A.J1 (FC fun _ _ _ _ _ _ _ _ _=>rfl) fun fd F e=>HJ F S Gp gZ
 have zA:=h7 P w mg base KX G A.zB (FC fun _ _ _ _ _ _ _ _ _=>rfl) fun fd F e=>xN F S Gp gZ O9 wB
 have B9:=h7 P w mg base KX G A.Cz (kC fun _ _ _ _ _ _ _=>rfl) fun fd F e=>AB F qS O9 pO IA JS zA
 have ou:=h7 P w mg base KX G A.IE (qf fun _ _ _ _ _ _ _ _=>rfl) fun fd F e=>Fi F Gp jP rX tu (CS:=gA K "Statement")
 have rT:=h7 P w mg base KX G A.AQ (FC fun _ _ _ _ _ _ _ _ _=>rfl) fun fd F e=>zq F S Gp
 have Yo:=h7 P w mg base KX G A.aey (Sd fun _ _ _ _ _ _ _ _ _ _=>rfl) fun fd F e=>aai F rT
 have K5:=h7 P w mg base KX G A.VA (Sd fun _ _ _ _ _ _ _ _ _ _=>rfl) fun fd F e=>Rp F S Gp rT
 have nG:=h7 P w mg base KX G A.uZ (Ni fun _ _ _ _ _ _ _ _ _ _ _=>rfl) fun fd F e=>UU F wB
 have T4:=h7 P w mg base KX G A.aaQ (Ni fun _ _ _ _ _ _ _ _ _ _ _=>rfl) fun fd F e=>Xx F Yo K5 nG
 have Ae:=h7 P w mg base KX G A.J3 (qf fun _ _ _ _ _ _ _ _=>rfl) fun fd F e=>HL F qS jP pO T4
 have K4:=h7 P w mg base KX G A.Vz (qf fun _ _ _ _ _ _ _ _=>rfl) fun fd F e=>Ri F S Gp gZ O9
 have rR:=h7 P w mg base KX G A.AL (FC fun _ _ _ _ _ _ _ _ _=>rfl) fun fd F e=>zk F S Gp xP XI
 have AK:=h7 P w mg base KX G A.AO (Ni fun _ _ _ _ _ _ _ _ _ _ _=>rfl) fun fd F e=>zp F T4
 have aaM:=h7 P w mg base KX G A.aaO (Ni fun _ _ _ _ _ _ _ _ _ _ _=>rfl) fun fd F e=>Xu F rR AK
 have Ac:=h7 P w mg base KX G A.JX (qf fun _ _ _ _ _ _ _ _=>rfl) fun fd F e=>HG F jP pO aaM
 have lQ:=h7 P w mg base KX G A.sJ (kC fun _ _ _ _ _ _ _=>rfl) fun fd F e=>O2 F S Gp
 have Ft:=h7 P w mg base KX G A.Fw (kC fun _ _ _ _ _ _ _=>rfl) fun fd F e=>DP F Gp jP qS DX Ac
 have ye:=h7 P w mg base KX G A.yh (kC fun _ _ _ _ _ _ _=>rfl) fun fd F e=>wN F (A.ZL.code e) A.ZL.e1 B S Gp jP qS xP Ac
 have Vr:=h7 P w mg base KX G A.Vx (Ni fun _ _ _ _ _ _ _ _ _ _ _=>rfl) fun fd F e=>Rh F S Gp nG
 have RP:=h7 P w mg base KX G A.RU (Sd fun _ _ _ _ _ _ _ _ _ _=>rfl) fun fd F e=>O4 F jP qS Vr
 have Cj:=h7 P w mg base KX G A.CG (FC fun _ _ _ _ _ _ _ _ _=>rfl) fun fd F e=>AD F (A.ZM.code e) A.ZM.e1 B jP qS xP RP
 have Fu:=h7 P w mg base KX G A.Fy (Ni fun _ _ _ _ _ _ _ _ _ _ _=>rfl) fun fd F e=>DS F Yo K5
 have JQ:=h7 P w mg base KX G A.JY (Ni fun _ _ _ _ _ _ _ _ _ _ _=>rfl) fun fd F e=>HH F rR Fu
 have JR:=h7 P w mg base KX G A.JZ (qf fun _ _ _ _ _ _ _ _=>rfl) fun fd F e=>HI F jP pO Cj JQ
 have MH:=h7 P w mg base KX G A.MX (kC fun _ _ _ _ _ _ _=>rfl) fun fd F e=>JF F yY
 have AI:=h7 P w mg base KX G A.AM (FC fun _ _ _ _ _ _ _ _ _=>rfl) fun fd F e=>zm F
 have D8:=h7 P w mg base KX G A.Ee (Ni fun _ _ _ _ _ _ _ _ _ _ _=>rfl) fun fd F e=>BH F S Gp yY vW yk gZ AI
 have Mx:=h7 P w mg base KX G A.MO (Sd fun _ _ _ _ _ _ _ _ _ _=>rfl) fun fd F e=>Jz F S Gp qS D8
 have Mw:=h7 P w mg base KX G A.MK (FC fun _ _ _ _ _ _ _ _ _=>rfl) fun fd F e=>Jy F gZ
 have AJ:=h7 P w mg base KX G A.AN (FC fun _ _ _ _ _ _ _ _ _=>rfl) fun fd F e=>zo F S Gp gZ K4 mH Mw Mx
 have Ab:=h7 P w mg base KX G A.JV (FC fun _ _ _ _ _ _ _ _ _=>rfl) fun fd F e=>HE F S Gp gZ AJ
 have pQ:=JI P w mg base KX G A.pQ (kC fun _ _ _ _ _ _ _=>rfl) fun fd F=>zt F Zr
 have ow:=JI P w mg base KX G A.ow (kC fun _ _ _ _ _ _ _=>rfl) fun fd F=>xO F Zr
 have pR:=JI P w mg base KX G A.pR (kC fun _ _ _ _ _ _ _=>rfl) fun fd F=>zu F Zr
 have tD:=JI P w mg base KX G A.tD (kC fun _ _ _ _ _ _ _=>rfl) fun fd F=>BM F Zr
 have Ml:=XN P w mg base KX G A.Ml (kC fun _ _ _ _ _ _ _=>rfl) fun fd F=>JH F RM
 have eY:=ui P w mg base A.eY (kC fun _ _ _ _ _ _ _=>rfl) fun fd F=>Fl F RM tE (CP:=gA K "Program") (CS:=gA K "Statement")
 have RB:=ui P w mg base A.RB (kC fun _ _ _ _ _ _ _=>rfl) fun fd F=>Rm F RM eY B9
 have Ry:=ui P w mg base A.Ry (qf fun _ _ _ _ _ _ _ _=>rfl) fun fd F=>Rj F RM eY ou K4
 have Mg:=ui P w mg base A.Mg (qf fun _ _ _ _ _ _ _ _=>rfl) fun fd F=>O0 F RM jP eY ou Ae
 have RG:=ui P w mg base A.RG (kC fun _ _ _ _ _ _ _=>rfl) fun fd F=>Ro F RM eY yf
 have mG:=ui P w mg base A.mG (qf fun _ _ _ _ _ _ _ _=>rfl) fun fd F=>DR F RM pP mH
 have XQ:=ui P w mg base A.XQ (qf fun _ _ _ _ _ _ _ _=>rfl) fun fd F=>UW F RM eY ou mG Ab
 have Mi:=ui P w mg base A.Mi (kC fun _ _ _ _ _ _ _=>rfl) fun fd F=>O1 F RM eY mG Ab lQ
 have Rz:=ui P w mg base A.Rz (qf fun _ _ _ _ _ _ _ _=>rfl) fun fd F=>Rk F RM neT.symm lG AS qE pQ eY lQ Ft ye
 have RA:=ui P w mg base A.RA (qf fun _ _ _ _ _ _ _ _=>rfl) fun fd F=>Rl F RM neT jP ow eY ou Ae JR
 have RD:=ui P w mg base A.RD (qf fun _ _ _ _ _ _ _ _=>rfl) fun fd F=>Rn F RM Gp neP neS jP yc mH
 have Mf:=ui P w mg base A.Mf (kC fun _ _ _ _ _ _ _=>rfl) fun fd F=>OZ F RM XJ eY ME
 have AF:=ui P w mg base A.AF (FC fun _ _ _ _ _ _ _ _ _=>rfl) fun fd F=>OX F RM S Gp jP DX pR tD eY mH MH
 have Mb:=ui P w mg base A.Mb (qf fun _ _ _ _ _ _ _ _=>rfl) fun fd F=>OY F yc uY qe qd A.aW A.aN A.aiL A.aiG A.aiF A.aiJ A.aiH A.aiI
 have WK:WkC P w K mg base _ _ _ (gA K "Refusal") _ _ _ _ _ _ _ _ _ _ _ _:=⟨RM,uY,qe,qd,tE,tu,pQ,ow,pR,tD,pP,A.UG,A.OE,A.OD,A.OG,A.OC,A.Jv,A.Hk,A.Jw,A.OF,A.Ju,RD,Mb,Mf,RG,RB,Mg,Ry,Rz,RA,AF,XQ,Mi,R9,Nc,Nd,Sa,R8,Nf,R5,R6,R7,AR,YD,Ng⟩
 have Px:=h7 P w mg base KX G A.PK (Sd fun _ _ _ _ _ _ _ _ _ _=>rfl) fun fd F e=>LX F WK
 have JT:=h7 P w mg base KX G A.J4 (Sd fun _ _ _ _ _ _ _ _ _ _=>rfl) fun fd F e=>HM F A.Eb.ex gF Px
 obtain⟨fc,fdc,ec,gc,kc,bc⟩:=JT.ex
 exact Rq F Ml jP lY pd ⟨fc,fdc,aeq ec,gc,kc,bc⟩
end SR
end
section
namespace SR
open PySem PySem.Spec PyProof.Rows L2 XL sP
open PySem.W (Frag WData Codec OpenSpec Well WellAll ReadsW ReadsAllW)
theorem ahu{q:bY}{loose:ak}{XP:aj->Heap->Prop}{YP:cX->Heap->Prop}{d:DefRec}{K:Params->Frag}
 (agx:gB.wellSaid=ae)(hd:d.name="answers")(hY:∀(w:cX)(h:Heap),YP w h->(K w.params).In h)
 (r1:((recsOf q).find? fun e=>e.name==("plan_longest_first":Str)).isSome=ae)(r2:((recsOf q).find? fun e=>e.name==("groups_in_order":Str)).isSome=ae)(A:∀p:Params,All (K p)):
 PySem.W.WalkOS q loose XP YP gB d [] (fun f vs=>PySem.call f vs):=by
 intro w DE s1 mg mb G Y fa o pm cd doc dV kV ho hdd NS hD hmg hg args vals as ajC ajT hrd hwl D6
 obtain⟨a,e1,e2⟩:=PySem.W.os_pre_some ajC
 obtain⟨e3,hwi⟩:=Codec.encAll_of_decAll gB.args args a e1
 subst e3
 have KX:=hY w _ Y
 have Aw:=A w.params
 obtain⟨fd,hb,hF⟩:=aeH (P:=gB.prog) (w:=w) Aw KX G.T.g
 have efa:fa=gA (K w.params) "answers":=by
  have z:=jL KX G.T.g Aw.K7.e0;rw[hd]at hmg;rw[hmg]at z;cases z;rfl
 subst efa
 obtain⟨d1,h1⟩:=mM.mp r1
 obtain⟨d2,h2⟩:=mM.mp r2
 obtain⟨x1,y1⟩:=Zb G.T KX h1 Aw.ZL.e0
 obtain⟨x2,y2⟩:=Zb G.T KX h2 Aw.ZM.e0
 have ask:kg a.1=ae:=e2
 refine PySem.W.enter_call (iU (VE (R:=[]) (cl:=classAt DE.heap) (ns:=a.1) (d0:=.list ((jZ a.1).map WData.int)) KX G.T.g G.T.b G.T.builtins G.T.nolimit hg (let⟨bm,ob,a1,a2,a3,a4,a5,a6⟩:=G.T.bmain;⟨bm,ob,a1,a2,a3,a4,a5,a6⟩) Aw.ZL.e2 Aw.ZM.e2 y1 y2 (x1.tab y1).isCodeTable (x2.tab y2).isCodeTable hwl
  (PySem.W.layableW_iff.mp (cY.mp ajT _ (bU.mpr rfl))).2.2 ⟨rfl,by decide,by decide⟩ (fun base _ _ B=>hF base B) hb ask rfl) fun r' s' hq=>?_)
 obtain⟨u,as',rfl,g1,g2,g3,g4⟩:=hq
 exact⟨.inl ⟨u,_,as',rfl,fun _=>rfl,g1,(OpenSpec.post_iff agx hwi _ _).mpr rfl,fun z=>Bool.noConfusion (show af=ae from z)⟩,g2,g3,g4⟩
end SR
end
structure PySem.W.Fast:Prop where
 (tw2287733374057815455 tw13238759494353420991 tw13560013299104342356 tw7679200876336835092 tw16907516584282562834 tw15372418225633330642 tw8123270519574223451 tw18134273419853702352 tw14296013735565354745 tw10915716105187700398 tw2748336010252669198 tw6554220963519565646 tw6322115081886878839 tw11369550169297502355 tw12030224512185966099 tw16910211361852539155 tw13806791444030307622 tw1784073456289072879 tw13829293812170659780 tw12376058517556435693 tw13924928228122154635 tw9243562643325031849 tw4045722480216146878 tw5127457289839666503 tw9172087033603830648 tw8252267449965938957 tw7190772067001075615 tw3664388335781430982 tw671609875735802173 tw18335558243558426014 tw10740557925999421556 tw3979170213791656278 tw5478217111059996176 tw13532320284196741018 tw6773952401448840750 tw4810123174454836108 tw1197332726062687131 tw10816094802603010492 tw8486165142010495739 tw3543132227124872822 tw15510230031905751044 tw14899996234715925736 tw988790065580338424 tw13139375326275609076 tw16135099173862628947 tw9134572080748413505 tw11667417124794534461 tw3452886501679131925 tw17756079897174602727 tw10062558557173662702 tw6020194126922768460 tw5031094041206381678 tw8968448002443290041 tw11985221377774928678 tw302501161892031697 tw12074692982543369351 tw6463883352539650242 tw11653329957964763458 tw13310315026047749626 tw9220522703460084642 tw7154396986321034759 tw6283577602504645168 tw3215780516177400776 tw15807993285156174094 tw13839647113894978833 tw25458332184909954 tw6176522351272279177 tw9674368731038470991 tw13599965010194876426 tw15276310253510483722 tw3091449794017586167 tw313464494981303533 tw11381586361760042095 tw3841804442483514675 tw11082048000845852829 tw8365029586842294204 tw4383900163058845185 tw1122493181775030422 tw1690788849101731186 tw12539545986195892741 tw15904529386293392327 tw6199700081362088769 tw15609050410791860339 tw15585687832699564399 tw18311109047400882688 tw10765499509815686415 tw1638274813766485552 tw1810056100946844354 tw7387218694460753364 tw613978301511347130 tw15065290420726051567 tw7230934533877553144 tw14874617361107202152 tw16843673593114993377 tw4853772729247838636 tw4841324958506711740 tw17685975352562000653 tw844769456991640281 tw8690151914383716361 tw10423984191279823994 tw3681746001256568109 tw17200417992486198838 tw10491182504527747123 tw3467907280378461201 tw11067376883817424904 tw13333651890199650839 tw3165631804978001257 tw9737865613145100824 tw16763398482179392012 tw4620570255431191905 tw14633101757492331100 tw5630133238129943414 tw12073476044472812525 tw4493918144046457636 tw4236203770155828468 tw2528614244597906828 tw8990002632122248714 tw8251752786544076553 tw11728630041297050854 tw12229863906651915463 tw17135971478464867165 tw8132011494738653467 tw15535824193146224970 tw14437945722189907281 tw732479877857800008 tw13435623828554573672 tw164674940034688930 tw6148927775584875104 tw3922106676035225817 tw4202094583833610971 tw9249879602113836915 tw6797371157459079881 tw13779260520972101689 tw9166706379883051519 tw10663872329275106401 tw13667223219478185501 tw8264454145951298424 tw17004724770177298604 tw4163442722709235273 tw11719443835924071245 tw11568029289035386713 tw12371925516763622335 tw16781239469702711213 tw3782104861344017280 tw232958494830051813 tw9020234820813101180 tw2626391249138093667 tw15276859988687836249 tw17229880718254658802 tw15405178951367123701 tw9246659770009650445 tw4129846467503024504 tw16380983471699245606 tw1910376711957042018 tw12927596263931800238 tw14149487535966937132 tw12187105388034635080 tw7751450586078509387 tw10594524596094033616 tw6899059726389446675 tw11218346710771519590 tw15503626440408763477 tw9613058864898757224 tw5109851993027259916 tw6098668902955555677 tw3996881391907221299 tw2003765691093901957 tw5309455663224376783 tw5984342960724192230 tw13658248653261072272 tw8924504601610477929 tw12412619530739733463 tw3589487752167254136 tw2514765111744640317 tw38562876555927501 tw9645435976822696959 tw8211440490010934666 tw2466990041924366552 tw15262198376353143032 tw3792257452356897716 tw7018029323433627471 tw15636252000326729125 tw12849865610915583869 tw11361967680631563946 tw5209309976453504507 tw180769527493287212 tw10822715451913679877 tw10774735656998390319 tw16534960742737854954 tw16800740280473078271 tw14050496292386046752 tw9626050580778535724 tw16949656581543923128 tw13961333944568770263 tw6978675564295129504 tw1332715159286463153 tw13250576410850414737 tw1181062399909910914 tw15670483332819008350 tw14396403780046885997 tw11415272920440158928 tw12380810727541333964 tw1264546063336313187 tw2175403543201390372 tw5880340417341645002 tw4189300892334823777 tw2230805104014168783 tw4696800164499203022 tw13069711036155815942 tw1831409481848034565 tw4774295449521995585 tw8563057141173784879 tw4672307615975997775 tw17532496278281156248 tw2155883326435923720 tw4887700883281974314 tw9093038816808829229 tw10924009855331755644 tw8879109623363916205 tw1952202235980369417 tw6472697644234038156 tw11086060957117842672 tw2581230634553368642 tw15063582098822972890 tw1543939386833619219 tw13214398891567670740 tw8626310054315468801 tw16538229804284786913 tw4528071774335511263 tw12913604806327961193 tw15227598977075552760 tw17440086084282360782 tw11466169321679733712 tw3577899647781248584 tw3636173498169929327 tw15508828699956637084 tw9822815295924609751 tw11891436655299916269 tw13163378546926470914 tw14477559800428078704 tw2842256898905030823 tw17650741732013190765 tw1831905441938952555 tw10797314927369564375 tw5043485014474549756 tw3283942764202843401 tw15744236647217419881 tw6949310950259454532 tw16388450272409646677 tw16326882772888165590 tw15839890979822552953 tw534818870810735030 tw13600169239163588497 tw18172422615348574245 tw2165488912767033226 tw13267602759755503351 tw12010985188467719970 tw12663225079541999871 tw6623881197194031885 tw10527371897209803539 tw10805789380584263141 tw1609006763303186043 tw9941952804320769528 tw9705771576376481541 tw7778302233873360250 tw12916068686407256031 tw16762295930194732351 tw6178151409508282087 tw14893453333088811396 tw9230121079133726124 tw7863351052444182555 tw5619504886459289415 tw7158014725937534797 tw5817250568854394686 tw4247063966036002133 tw7697643466272392987 tw7222215819628890472 tw8643174761253414517 tw11840662711639135855 tw11186118621940236711 tw15350768668855479628 tw4896555628340751014 tw5176554308119174926 tw1553500075168554742 tw16170983518318595728 tw4910616639667691986 tw5840461174086849244:True)
open PySem PySem.W PyProof.Rows
set_option maxHeartbeats 0 in
theorem PySem.Challenge.cw_sharedrooms_s01_answers_holds : PySem.Challenge.rw_sharedrooms_s01_answers.Holds := by
  w_on; k_headS; (case hw => exact ⟨[.list [.int 2]], by decide +kernel, by decide +kernel⟩)
  refine SR.ahu (by decide +kernel) rfl (fun w h Y => PySem.W.kIn_of Y) ?r1 ?r2 ?A
  case r1 => kernel_rfl
  case r2 => kernel_rfl
  case A =>
    intro p
    constructor
    all_goals repeat' (first | kernel_rfl | constructor)
